import PyProof.Rows.All
import Wide.All
import OpenK.AllK
import Wide.FinOn
import KE.GoesEnum
import HandS.ForMost
import HandS.Walk
import HandS.ForExc
import HandS.ExcInit
import HandS.TryMany
import HandS.Lambda
import HandS.SortKw
import KE.KSortKey
import PyProof.Rows.SortStr
import PyProof.Rows.SortKeyStr
import HandS.Text
import KE.LtSeq
import KE.KRevSl
import PyProof.ListStr
import PyProof.StrOps2
import PyProof.SliceStr2
import PyProof.Rows.StrJoinStr
import HandS.DictComp
import HandS.NoneIn
import HandS.IsInst
import HandS.Conv
import HandS.Flow
import HandS.Deep
import HandS.Codes
import HandS.Wide
import HandS.TupAny
import HandS.EndTab
import HandS.ExcField
import HandS.Strs
import HandS.SortInts
import HandS.WideBits
import PyProof.Rows.StrIntSpec
import PyProof.FString4
import HandS.FStr
import HandS.StrMore
import HandS.ListItems
import KE.KDictList
import HandS.Small
import HandS.Dict
import KE.KDictDisplayH
import HandS.DictTup
import HandS.List
import KE.KDictPairs
import HandS.SetKeys
import KE.KDictKeyed
import KE.KDictWalk
import HandS.Style
import HandS.HeadHook4
import KE.KNestM
import PySem.Challenge.RW_wordvault_k61_whole_tells_as_soon_as_it
set_option Elab.async false
set_option maxRecDepth 100001
set_option maxHeartbeats 1999999
/-! enumerate over a tuple. -/
namespace PySem
theorem enumT_new {v : Value} {o : Obj} {G : Heap → Prop} (B : Begins v o G) : Meets (Builtin.«enumerate.__new__» ⟨[.type "enumerate", v], []⟩)
    (fun _ R z => G z.heap ∧ R (.ok (.ret (.ref (z.heap.push o).objs.size)))
      { z with heap := (z.heap.push o).push { cls := .type "enumerate", data := .fields #[.none, .bool false, .ref z.heap.objs.size, rawInt 0, .none, .none] } }) :=
  .of_wp fun P W A R z hz => by
    obtain ⟨hp, gs, dr, tk, os⟩ := z
    obtain ⟨g0, r0⟩ := hz
    have su := sub_enumerate
    have it0 : ∀ {A' : Around} {E : Value → Shared → Prop} {Q : Value → Shared → Prop}, Q (.ref hp.objs.size) ⟨hp.push o, gs, dr, tk, os⟩ → wpAny (model P W) A' (pyIter v) Q E ⟨hp, gs, dr, tk, os⟩ :=
      fun q => B.iter P W _ _ ⟨hp, gs, dr, tk, os⟩ _ g0 q
    wp_walk using it0
    refine wpAny_stack_any fun sk => wpAny_pure ?_
    split
    next c _ _ _ _ _ =>
      cases (c == Value.type "enumerate") <;> (wp_walk using it0; exact ⟨_, rfl, r0⟩)
    next => wp_walk using it0; exact ⟨_, rfl, r0⟩
theorem enumT_call {P : Program} {W : World} {A : Around} {E : Value → Shared → Prop} {z : Shared} {v : Value} {o : Obj} {G : Heap → Prop} {Q : Value → Shared → Prop} (B : Begins v o G) (g0 : G z.heap)
    (k : ∀ h2, IsEnum h2 (z.heap.objs.size + 1) z.heap.objs.size 0 .none → h2.get? z.heap.objs.size = some o → (∀ b u, z.heap.get? b = some u → h2.get? b = some u) → Q (.ref (z.heap.objs.size + 1)) { z with heap := h2 }) :
    wpAny (model P W) A (call (.type "enumerate") [v]) Q E z := by
  refine callType_new F.called_enumerate (by decide) (F.typeCall_enumerate_1 _) (F.newCall_enumerate_1 _) (fun ob => F.args_object_init_2 ob _) F.entry_enumerate_new (enumT_new B) ⟨g0, ?_⟩
  have sz : (z.heap.push o).objs.size = z.heap.objs.size + 1 := Heap.size_push ..
  show _ ∧ _
  rw [sz]
  have en : IsEnum ((z.heap.push o).push { cls := .type "enumerate", data := .fields #[.none, .bool false, .ref z.heap.objs.size, rawInt 0, .none, .none] }) (z.heap.objs.size + 1) z.heap.objs.size 0 .none := by
    have q := Heap.get?_push_size (z.heap.push o) (o := { cls := .type "enumerate", data := .fields #[.none, .bool false, .ref z.heap.objs.size, rawInt 0, .none, .none] }) rfl
    rw [sz] at q
    exact q
  exact ⟨⟨_, en, rfl⟩, k _ en (Heap.get?_push_of_some _ (Heap.get?_push_size _ B.free)) fun b u e => Heap.get?_push_of_some _ (Heap.get?_push_of_some _ e)⟩
end PySem
namespace L2
open PySem.Spec PySem PyProof.Rows
/-- the tuple at a, each item in a new pair behind its number -/
def ItEnT (K : PySem.W.Frag) (a : Addr) : It where
  go := fun i H => ∃ (xs : List V) (x : V), SqT K H a xs ∧ xs[i]? = some x
  yld := fun i H v H2 => ∃ p x, v = .ref p ∧ H p = none ∧ H2 = upd H p (.tup [.int (i : Nat), x]) ∧ ∀ xs, SqT K H a xs → xs[i]? = some x
  stop := fun i H => ∃ xs : List V, SqT K H a xs ∧ xs.length ≤ i
theorem two_of {b e d : Addr} (h : b ∈ [e, d]) : b = e ∨ b = d := by simpa using h
theorem turn_enT {P : Program} {W : World} {K : PySem.W.Frag} {es : List Expr} {kk : Nat} {tp : Pos} (a e d : Addr) :
    Turn P W K (.Tuple es kk tp) (ItEnT K a) [e, d] e (fun i h => (∃ was, IsEnum h e d ((i : Nat) : Int) was) ∧ h.IsTupleIter d a i ∧ e ≠ d) where
  mem := List.mem_cons_self
  obj := fun i h st b hb => by
    obtain ⟨⟨was, he⟩, ⟨o, ho, hc, hd⟩, _⟩ := st
    rcases two_of hb with rfl | rfl
    · exact ⟨_, he, fun _ q => nomatch q⟩
    · exact ⟨o, ho, fun _ q => by rw [hd] at q; cases q⟩
  keep := fun i h h2 st k => ⟨let ⟨was, he⟩ := st.1; ⟨was, k e (by simp) _ he⟩, st.2.1.at fun o q => k d (by simp) o q, st.2.2⟩
  item := by
    intro X hP hW hK hc i pins s σ H E I hf st hg
    subst hP hW hK
    obtain ⟨⟨was, he⟩, hit, hne⟩ := st
    obtain ⟨xs, x, hq, hx⟩ := hg
    obtain ⟨its, rv, p, hz⟩ := I.tuple hq
    obtain ⟨u, hu, ru⟩ := rv.get hx
    have le : e < s.heap.objs.size := Heap.lt_size he
    have ld : d < s.heap.objs.size := let ⟨_, q, _⟩ := hit; Heap.lt_size q
    have la : a < s.heap.objs.size := p.lt
    have had : a ≠ d := fun z => by
      obtain ⟨o1, h1, c1, _⟩ := hit
      obtain ⟨o2, h2, c2, _⟩ := p
      rw [z, h1] at h2
      have := Option.some.inj h2
      subst this
      rw [c1] at c2
      exact absurd c2 (by decide)
    have hae : a ≠ e := fun z => by
      obtain ⟨o2, h2, c2, _⟩ := p
      have h1 : s.heap.get? e = some _ := he
      rw [z, h1] at h2
      have := Option.some.inj h2
      subst this
      exact absurd (show Value.type "enumerate" = Value.type "tuple" from c2) (by decide)
    have hi : i < its.toArray.size := by
      have := (List.getElem?_eq_some_iff.mp hu).1
      simpa using this
    have D := Draws.tuple (prog := X.prog) (w := X.w) (A := X.A.in1) (I.ok.hd hc) d a had its.toArray
    refine wpAny_pyNext_enum_itemD (n := its.toArray.size) (i := i) D he ⟨hit, p⟩ hi hne (fun m => ?_) fun y h2 tk hy ho hs2 hT hsz hk => ?_
    · rcases two_of m with z | z
      · exact hne z
      · exact hae z.symm
    have ey : y = u := by
      have q : its.toArray[i]? = some u := by simpa using hu
      rw [hy] at q
      exact Option.some.inj q
    subst ey
    refine ⟨_, rfl, wpAny_letOwnedTupleGo_enum (s := { s with heap := h2, toks := tk + 1 }) ho fun h3 he3 sb => ?_⟩
    have hT3 : h3.get? s.heap.objs.size = some { cls := .type "tuple", data := .seq #[.int i tk, y] } := (sb.2 _ (Nat.ne_of_gt le)).trans hT
    have new : ObjOk X.prog X.w (upd H s.heap.objs.size (.tup [.int (i : Nat), x])) h3 s.heap.objs.size (.tup [.int (i : Nat), x]) :=
      ⟨by show 2 ≤ sizeLine; decide, [.int i tk, y], .cons ⟨_, rfl⟩ (.cons ru .nil), ⟨_, hT3, rfl, _, rfl⟩⟩
    have J : Inv X pins σ (upd H s.heap.objs.size (.tup [.int (i : Nat), x])) { s with heap := h3, toks := tk + 1 } :=
      I.turnedNew (ch := [e, d]) (fun b o hb q => (sb.2 b fun z => hb (by simp [z])).trans (hk b o (fun z => hb (by simp [z])) (fun z => hb (by simp [z])) q)) hf (Nat.le_refl _) new
    refine ⟨.ref s.heap.objs.size, _, J, rfl, ⟨_, x, rfl, I.hok.fresh (Nat.le_refl _), rfl, fun ys hy2 => by rw [I.tuple_inj hy2 hq]; exact hx⟩, ⟨⟨y, ?_⟩, hs2.1.at fun o q => (sb.2 d (Ne.symm hne)).trans q, hne⟩, fun b hb => ?_⟩
    · have e1 : ((i + 1 : Nat) : Int) = (i : Int) + 1 := by omega
      rw [e1]
      exact he3
    · have lb : b < s.heap.objs.size := by
        rcases two_of hb with z | z
        · rw [z]; exact le
        · rw [z]; exact ld
      rw [upd_ne (Nat.ne_of_lt lb)]
      exact (hf b hb).1
  done := by
    intro X hP hW hK hc i pins s σ H E I hf st hg
    subst hP hW hK
    obtain ⟨⟨was, he⟩, hit, hne⟩ := st
    obtain ⟨xs, hq, hx⟩ := hg
    obtain ⟨its, rv, p, hz⟩ := I.tuple hq
    obtain ⟨f0, f1, f2, f3, f4, f5⟩ := hf d (by simp)
    have hl := rv.length
    unfold pyNext
    refine wpAny_bind (wpAny_attempt (wpAny_callSpecial?_slot (name := Str.ofString "__next__") ⟨_, he, rfl⟩ F.slot_enumerate_next
      (wpAny_call_entry F.slot_enumerate_next ⟨_, he, rfl⟩ F.entry_enumerate_next ?_ (F.args_enumerate_next_1 _))))
    show wpAny _ _ (field (.ref e) 2 >>= _) _ _ _
    refine wpAny_bind (wpAny_field he rfl (x := .ref d) rfl ?_)
    refine wpAny_bind (wpAny_nextOf_tuple_end (I.ok.hd hc) hit p (by simp; omega) fun h2 x eb hx2 => ?_)
    obtain ⟨o, ho, hcl⟩ := hx2
    refine wpAny_bind (wpAny_isInstance (T := "StopIteration") (b := true) ⟨o, ho, hcl⟩ isSubtype_stop ?_)
    exact wpAny_pure ⟨rfl, I.turned (t' := s.toks) (fun b o hb q => eb b o hb q) f0 f1 f3 f4 f5⟩
  self := fun A i s Q E st h => let ⟨⟨_, he⟩, _⟩ := st; wpAny_pyIter_enum he h
def iEnT (K : PySem.W.Frag) (ta : TA) : TI := fun σ H R => ta σ H fun vs H1 => ∃ a xs, vs = [.ref a] ∧ SqT K H1 a xs ∧ R (ItEnT K a) H1
theorem pi_enT {X : Cx} {e : Expr} {ta : TA} {p pos tp : Pos} {es : List Expr} {kk : Nat} (hg : Gl X "enumerate") (hm : X.mg "enumerate" = none) (ha : PA X [e] ta) (hs : starEach [e] X.env = [(false, eval e X.env)] := by rfl) :
    PI X (.Tuple es kk tp) (.Call (.Name "enumerate" p) [e] [] pos) (iEnT X.K ta) := by
  constructor
  intro pins s σ H R I h
  refine Call_ (ld_blt I hg hm boot_enumerate (PyProof.Rows.callWith_type1 (thn (ha.run pos pins s σ H _ I h) fun us s1 hh => ?_) hs rfl))
  obtain ⟨vs, H1, I1, r1, a, xs, ex, hq, q⟩ := hh
  subst ex
  cases r1 with
  | cons r rr =>
    cases rr
    cases r
    obtain ⟨its, rv, p2, hz⟩ := I1.tuple hq
    refine enumT_call (begins_tuple a its.toArray) p2 fun h2 he hd hk => wpAny_pyIter_enum he ?_
    have I2 : Inv X pins σ H1 { s1 with heap := h2 } := I1.kept (t' := s1.toks) hk
    refine ⟨s1.heap.objs.size + 1, [s1.heap.objs.size + 1, s1.heap.objs.size], _, _, H1, rfl, I2, turn_enT a (s1.heap.objs.size + 1) s1.heap.objs.size, ⟨⟨.none, he⟩, ⟨_, hd, rfl, rfl⟩, Nat.succ_ne_self _⟩, fun b hb => ?_, q⟩
    have ge : s1.heap.objs.size ≤ b := by
      rcases two_of hb with z | z
      · rw [z]; exact Nat.le_add_right _ _
      · rw [z]; exact Nat.le_refl _
    exact I1.fpOk ge (I1.hok.fresh ge)
theorem walk_enT {K : PySem.W.Frag} {a : Addr} {xs : List V} : Walk (ItEnT K a) xs.length (fun H => SqT K H a xs) (YPair (fun i => some (.int (i : Nat))) (fun i => xs[i]?)) where
  goes := fun i _ hi q => ⟨xs, xs[i], q, by simp [hi]⟩
  stops := fun _ q => ⟨xs, q, Nat.le_refl _⟩
  yields := fun i H v H2 _ q y => let ⟨p, x, h1, h2, h3, h4⟩ := y; ⟨p, .int (i : Nat), x, h1, h2, h3, rfl, h4 xs q⟩
end L2
set_option Elab.async false
set_option linter.all false
set_option maxRecDepth 100001
set_option maxHeartbeats 1999999
/-! enumerate over a text. -/
namespace L2
open PySem.Spec PySem PyProof.Rows
def ItEnS (x : Str) : It where
  go := fun i _ => i < x.cps.size
  yld := fun i H v H2 => ∃ p c, v = .ref p ∧ H p = none ∧ H2 = upd H p (.tup [.int (i : Nat), .str ⟨#[c]⟩]) ∧ x.cps[i]? = some c
  stop := fun i _ => x.cps.size ≤ i
theorem strIter_at {h h' : Heap} {a : Addr} {ty : String} {x : Str} {t : Tok} {i : Nat} (y : h.IsStrIter a ty x t i) (k : ∀ o, h.get? a = some o → h'.get? a = some o) : h'.IsStrIter a ty x t i := let ⟨o, ho, r⟩ := y; ⟨o, k o ho, r⟩
theorem text_end {prog : Program} {w : World} {A : Around} {E : Value → Shared → Prop} {s : Shared} {it : Addr} {x : Str} {t : Tok} {i : Nat} {Q : Value → Shared → Prop} (hh : A.handled = none) (hit : s.heap.IsStrIter it (strIterType x) x t i) (hx : x.cps[i]? = none)
    (hE : ∀ h' e, Heap.ExtBut it s.heap h' → (∃ o, h'.get? e = some o ∧ o.cls = .type "StopIteration") → E (.ref e) { s with heap := h' }) : wpAny (model prog w) A (Builtin.SmallTypes.nextOf (.ref it)) Q E s := by
  cases ha : x.cps.all (· < 128)
  · simp only [strIterType, ha, Bool.false_eq_true, if_false] at hit
    exact wpAny_nextOf_wide_end hh hit hx hE
  · simp only [strIterType, ha, if_true] at hit
    exact wpAny_nextOf_ascii_end hh hit hx hE
theorem turn_enS {P : Program} {W : World} {K : PySem.W.Frag} {es : List Expr} {kk : Nat} {tp : Pos} (x : Str) (t : Tok) (e d : Addr) :
    Turn P W K (.Tuple es kk tp) (ItEnS x) [e, d] e (fun i h => (∃ was, IsEnum h e d ((i : Nat) : Int) was) ∧ h.IsStrIter d (strIterType x) x t i ∧ e ≠ d) where
  mem := List.mem_cons_self
  obj := fun i h st b hb => by
    obtain ⟨⟨was, he⟩, ⟨o, ho, hc, hd⟩, _⟩ := st
    rcases two_of hb with rfl | rfl
    · exact ⟨_, he, fun _ q => nomatch q⟩
    · exact ⟨o, ho, fun _ q => by rw [hd] at q; cases q⟩
  keep := fun i h h2 st k => ⟨let ⟨was, he⟩ := st.1; ⟨was, k e (by simp) _ he⟩, strIter_at st.2.1 fun o q => k d (by simp) o q, st.2.2⟩
  item := by
    intro X hP hW hK hc i pins s σ H E I hf st hg
    subst hP hW hK
    obtain ⟨⟨was, he⟩, hit, hne⟩ := st
    have hi : i < x.cps.size := hg
    have le : e < s.heap.objs.size := Heap.lt_size he
    have ld : d < s.heap.objs.size := let ⟨_, q, _⟩ := hit; Heap.lt_size q
    have D := Draws.text (prog := X.prog) (w := X.w) (A := X.A.in1) (I.ok.hd hc) d x t
    refine wpAny_pyNext_enum_itemD (n := x.cps.size) (i := i) D he hit hi hne (fun m => ?_) fun y h2 tk hy ho hs2 hT hsz hk => ?_
    · exact hne (by simpa using m)
    obtain ⟨c, u, hcx, rfl⟩ := hy
    refine ⟨_, rfl, wpAny_letOwnedTupleGo_enum (s := { s with heap := h2, toks := tk + 1 }) ho fun h3 he3 sb => ?_⟩
    have hT3 : h3.get? s.heap.objs.size = some { cls := .type "tuple", data := .seq #[.int i tk, .str ⟨#[c]⟩ u] } := (sb.2 _ (Nat.ne_of_gt le)).trans hT
    have new : ObjOk X.prog X.w (upd H s.heap.objs.size (.tup [.int (i : Nat), .str ⟨#[c]⟩])) h3 s.heap.objs.size (.tup [.int (i : Nat), .str ⟨#[c]⟩]) :=
      ⟨by show 2 ≤ sizeLine; decide, [.int i tk, .str ⟨#[c]⟩ u], .cons ⟨_, rfl⟩ (.cons ⟨_, rfl⟩ .nil), ⟨_, hT3, rfl, _, rfl⟩⟩
    have J : Inv X pins σ (upd H s.heap.objs.size (.tup [.int (i : Nat), .str ⟨#[c]⟩])) { s with heap := h3, toks := tk + 1 } :=
      I.turnedNew (ch := [e, d]) (fun b o hb q => (sb.2 b fun z => hb (by simp [z])).trans (hk b o (fun z => hb (by simp [z])) (fun z => hb (by simp [z])) q)) hf (Nat.le_refl _) new
    refine ⟨.ref s.heap.objs.size, _, J, rfl, ⟨_, c, rfl, I.hok.fresh (Nat.le_refl _), rfl, hcx⟩, ⟨⟨.str ⟨#[c]⟩ u, ?_⟩, strIter_at hs2 fun o q => (sb.2 d (Ne.symm hne)).trans q, hne⟩, fun b hb => ?_⟩
    · have e1 : ((i + 1 : Nat) : Int) = (i : Int) + 1 := by omega
      rw [e1]
      exact he3
    · have lb : b < s.heap.objs.size := by
        rcases two_of hb with z | z
        · rw [z]; exact le
        · rw [z]; exact ld
      rw [upd_ne (Nat.ne_of_lt lb)]
      exact (hf b hb).1
  done := by
    intro X hP hW hK hc i pins s σ H E I hf st hg
    subst hP hW hK
    obtain ⟨⟨was, he⟩, hit, hne⟩ := st
    have hx : x.cps.size ≤ i := hg
    obtain ⟨f0, f1, f2, f3, f4, f5⟩ := hf d (by simp)
    unfold pyNext
    refine wpAny_bind (wpAny_attempt (wpAny_callSpecial?_slot (name := Str.ofString "__next__") ⟨_, he, rfl⟩ F.slot_enumerate_next
      (wpAny_call_entry F.slot_enumerate_next ⟨_, he, rfl⟩ F.entry_enumerate_next ?_ (F.args_enumerate_next_1 _))))
    show wpAny _ _ (field (.ref e) 2 >>= _) _ _ _
    refine wpAny_bind (wpAny_field he rfl (x := .ref d) rfl ?_)
    have none : x.cps[i]? = none := by simp [hx]
    refine wpAny_bind (text_end (I.ok.hd hc) hit none fun h2 ex eb hx2 => ?_)
    obtain ⟨o, ho, hcl⟩ := hx2
    refine wpAny_bind (wpAny_isInstance (T := "StopIteration") (b := true) ⟨o, ho, hcl⟩ isSubtype_stop ?_)
    exact wpAny_pure ⟨rfl, I.turned (t' := s.toks) (fun b o hb q => eb b o hb q) f0 f1 f3 f4 f5⟩
  self := fun A i s Q E st h => let ⟨⟨_, he⟩, _⟩ := st; wpAny_pyIter_enum he h
def iEnS (ta : TA) : TI := fun σ H R => ta σ H fun vs H1 => ∃ x, vs = [.str x] ∧ R (ItEnS x) H1
theorem pi_enS {X : Cx} {e : Expr} {ta : TA} {p pos tp : Pos} {es : List Expr} {kk : Nat} (hg : Gl X "enumerate") (hm : X.mg "enumerate" = none) (ha : PA X [e] ta) (hs : starEach [e] X.env = [(false, eval e X.env)] := by rfl) :
    PI X (.Tuple es kk tp) (.Call (.Name "enumerate" p) [e] [] pos) (iEnS ta) := by
  constructor
  intro pins s σ H R I h
  refine Call_ (ld_blt I hg hm boot_enumerate (PyProof.Rows.callWith_type1 (thn (ha.run pos pins s σ H _ I h) fun us s1 hh => ?_) hs rfl))
  obtain ⟨vs, H1, I1, r1, x, ex, q⟩ := hh
  subst ex
  cases r1 with
  | cons r rr =>
    cases rr
    obtain ⟨t, rfl⟩ := r
    refine enumT_call (begins_text x t) trivial fun h2 he hd hk => wpAny_pyIter_enum he ?_
    have I2 : Inv X pins σ H1 { s1 with heap := h2 } := I1.kept (t' := s1.toks) hk
    refine ⟨s1.heap.objs.size + 1, [s1.heap.objs.size + 1, s1.heap.objs.size], _, _, H1, rfl, I2, turn_enS x t (s1.heap.objs.size + 1) s1.heap.objs.size, ⟨⟨.none, he⟩, ⟨_, hd, rfl, rfl⟩, Nat.succ_ne_self _⟩, fun b hb => ?_, q⟩
    have ge : s1.heap.objs.size ≤ b := by
      rcases two_of hb with z | z
      · rw [z]; exact Nat.le_add_right _ _
      · rw [z]; exact Nat.le_refl _
    exact I1.fpOk ge (I1.hok.fresh ge)
theorem walk_enS {x : Str} : Walk (ItEnS x) x.cps.size (fun _ => True) (YPair (fun i => some (.int (i : Nat))) (fun i => (x.cps[i]?).map fun c => V.str ⟨#[c]⟩)) where
  goes := fun i _ hi _ => hi
  stops := fun _ _ => Nat.le_refl _
  yields := fun i H v H2 _ _ y => let ⟨p, c, h1, h2, h3, h4⟩ := y; ⟨p, .int (i : Nat), .str ⟨#[c]⟩, h1, h2, h3, rfl, by show Option.map _ _ = _; rw [h4]; rfl⟩
end L2
set_option Elab.async false
set_option maxRecDepth 100001
set_option maxHeartbeats 3999999
/-! raise C(), C an own class whose own __init__ stores nothing. -/
namespace L2
open PySem.Spec PySem PyProof.Rows
section
variable {X : Cx}
theorem mk_bare {pins : List (Addr × Obj)} {σ : St} {H1 H2 : Hp} {Q : XK} {hp hp2 h2 : Heap} {g1 g2 : Array GenState} {d1 d2 : Drawn} {t1 t2 : Nat} {o1 o2 : OsState} {a C : Addr} (T : Raises X (.ref C))
    (I1 : Inv X pins σ H1 ⟨hp, g1, d1, t1, o1⟩) (big : hp.objs.size ≤ a) (k : ∀ b o, hp.get? b = some o → hp2.get? b = some o) (un : Un (frs X.stack) [] (upd H1 a (exo a C none)) H2 hp2 h2)
    (hok : HOk X.prog X.w H2 h2) (ho : o2 = o1) (hb : AllBare g2) (ea : H2 a = some (exo a C none)) (q : Q (.ref C) none (del H2 a)) : MkP X pins σ Q (.ref a) ⟨h2, g2, d2, t2, o2⟩ := by
  obtain ⟨t0, he⟩ := exo_at hok ea
  have na : H1 a = none := I1.hok.fresh big
  obtain ⟨G, gyes, gno⟩ := restrict h2 fun b => decide (b ≠ a)
  have gk : ∀ b, b ≠ a → G.get? b = h2.get? b := fun b z => gyes b (decide_eq_true z)
  have ga : G.get? a = none := gno a (by simp)
  have ne : ∀ {b : Addr} {o : Obj}, hp.get? b = some o → b ≠ a := fun z => Nat.ne_of_lt (Nat.lt_of_lt_of_le (Heap.lt_size z) big)
  have free : ∀ {b : Addr}, b ≠ a → H1 b = none → upd H1 a (exo a C none) b = none := fun z n => (upd_ne z).trans n
  have U : Un (frs X.stack) [] H1 (del H2 a) hp G := {
    keep := fun b o z n hf hx => (gk b (ne z)).trans (un.keep b o (k b o z) (free (ne z) n) hf hx)
    slot := fun b o z n hf hx => let ⟨sl, e⟩ := un.slot b o (k b o z) (free (ne z) n) hf hx; ⟨sl, (gk b (ne z)).trans e⟩
    free := fun b o z n hx => (del_ne (ne z)).trans (un.free b o (k b o z) (free (ne z) n) hx)
    there := fun b o z hx => let ⟨o', e⟩ := un.there b o (k b o z) hx; ⟨o', (gk b (ne z)).trans e⟩
    tups := fun b xs z => (del_ne (ne_of_none z na)).trans (un.tups b xs ((upd_ne (ne_of_none z na)).trans z))
    frzs := fun b o v z => (del_ne (ne_of_none z na)).trans (un.frzs b o v ((upd_ne (ne_of_none z na)).trans z))
    tbls := fun b ps z => let ⟨m, e⟩ := un.tbls b ps ((upd_ne (ne_of_none z na)).trans z); ⟨m, (del_ne (ne_of_none z na)).trans e⟩ }
  have hG : HOk X.prog X.w (del H2 a) G := fun b o z => by
    have hba : b ≠ a := fun e => by
      rw [e, del_same] at z
      cases z
    rw [del_ne hba] at z
    have own : ∀ {c : Addr}, H2 c = some (.own b) → c ≠ a := fun hc => at_ne ea hc exo_own
    refine (hok b o z).stay (fun c v hc y => ?_) (fun c hc => (del_ne (own hc)).trans hc) fun c xs hc => (del_ne (at_ne ea hc exo_tup)).trans hc
    refine (gk c ?_).trans y
    rcases hc with rfl | hc
    · exact hba
    · exact own hc
  have J : Inv X pins σ (del H2 a) ⟨G, g2, d2, t2, o2⟩ := I1.call' (ch := []) ho U hG hb fun b z => absurd z (by simp)
  refine ⟨a, _, _, ⟨G, g2, d2, t2, o2⟩, _, .ref C, none, rfl, J, fun b o z => ?_, ga, he, ⟨rfl, rfl⟩, rfl, rfl, del_same, rfl, hb, T, q⟩
  have hba : b ≠ a := fun e => by
    rw [e] at z
    have z' : G.get? a = some o := z
    rw [ga] at z'
    cases z'
  exact (gk b hba).symm.trans z
/-- C(): what its __init__ keeps, at the fresh exception -/
def tMkO0 (C : Addr) (sp : Sp) : St → Hp → XK → Prop := fun _ H Q => ∀ a, H a = none → sp [.ref a] (upd H a (exo a C none)) (fun v H2 => v = .non ∧ H2 a = some (exo a C none) ∧ Q (.ref C) none (del H2 a)) (fun _ _ _ => False)
theorem pmk_oex0 {CX : CXT} {x : Str} {p pos : Pos} {C fI : Addr} {k : Nat} {fd : FuncData} {ps : List Str} {sp : Sp} (T : OexC X.K C) (iC : PySem.W.findIn X.K (.ref C) "__init__" = some (some (.ref fI))) (tI : PySem.W.typeIn X.K (.ref fI) = some (.type "function"))
    (F1 : FnOk X.prog X.w X.K X.mg X.base CX k fI fd ps sp) (hr : Room (k + 1) X.A) (hb : Binds X.K fd ps []) (hx : Passes CX X (fun _ _ _ => False)) (hg : Gl X x) (hm : X.mg x = some (.ref C)) (hdb : (x == ("__debug__" : Str)) = false := by decide) :
    PMk X (.Call (.Name x p) [] [] pos) (tMkO0 C sp) := by
  intro pins s σ H Q I h
  obtain ⟨nm, qn, N, bs, bm, sn, sb, ab, col, dd, j0, j1, j2, j3, j5, hC, hbm⟩ := T.cls
  refine wpAny_Call_Name_kw (ld_glob I hg hm ?_ hdb)
  refine PySem.W.callWith_K0 I.kIn T.kC ?_
  show wpAny _ _ (call (.ref C) []) _ _ _
  obtain ⟨hp, g, dr, tk, os⟩ := s
  have big : hp.objs.size ≤ hp.objs.size + 1 := Nat.le_succ _
  have hn : H (hp.objs.size + 1) = none := I.hok.fresh big
  have hq := h (hp.objs.size + 1) hn
  have kk : ∀ b o, hp.get? b = some o → ((hp.push (PySem.W.kdv_tup [])).push (PySem.HandSPX.excO C hp.objs.size)).get? b = some o := fun b o e => Heap.get?_push_of_some _ (Heap.get?_push_of_some _ e)
  have hget : ((hp.push (PySem.W.kdv_tup [])).push (PySem.HandSPX.excO C hp.objs.size)).get? (hp.objs.size + 1) = some (PySem.HandSPX.excO C hp.objs.size) := by heap_get
  have I2 : Inv X pins σ (upd H (hp.objs.size + 1) (exo (hp.objs.size + 1) C none)) ⟨(hp.push (PySem.W.kdv_tup [])).push (PySem.HandSPX.excO C hp.objs.size), g, dr, tk, os⟩ := I.laid (t' := tk) kk big (exo_ok hget)
  have r2 : Vals [V.ref (hp.objs.size + 1)] [Value.ref (hp.objs.size + 1)] := .cons rfl .nil
  have hl : ([Value.ref (hp.objs.size + 1)] ++ ([] : List Value)).length = ps.length := (F1.len _ _ _ _ hq)
  refine wpAny_call (PySem.HandSPX.call_own F.excBase_ValueError (fun Y => PySem.HandSPX.refsVE_contains Y bm hbm) (I.kIn _ _ hC) (PySem.W.looks_findIn I.kIn iC) (fun self => PySem.W.bind_fn I.kIn self tI) (by show 0 ≤ sizeLine; exact Nat.zero_le _)
    (codeAny_mono (F1.run _ X.stack _ _ ⟨[Value.ref (hp.objs.size + 1)], []⟩ [Value.ref (hp.objs.size + 1)] _ _ (fun _ _ _ => False) (hr.make C [] []) (I2.env0.make C [] []) (hb _ [Value.ref (hp.objs.size + 1)] I2.kIn hl) r2 hq) fun r s2 hq2 => ?_))
  cases r with
  | error er => exact hx pins σ _ _ er s2 I2 hq2
  | ok fl =>
    cases fl with
    | ret u =>
      obtain ⟨v, H2, os2, bare2, un2, hok2, rv, ev, ea, q2⟩ := hq2
      subst ev
      obtain ⟨h2, g2, d2, t2, o2⟩ := s2
      exact ⟨rv, mk_bare (raises_own T.exC T.tyC) I big kk un2 hok2 os2 bare2 ea q2⟩
    | next => exact hq2.elim
    | brk => exact hq2.elim
    | cont => exact hq2.elim
end
end L2
set_option Elab.async false
set_option maxRecDepth 100001
set_option maxHeartbeats 3999999
/-! try with several clauses, some of which name the exception. -/
namespace L2
open PySem.Spec PySem PyProof.Rows
/-- a clause: its class, the slot of its name, its suite's reading -/
abbrev Clause := Value × Option Nat × (Addr → Value → Option Addr → TS)
def endsOf : Option Nat → Ends → Ends
  | none, D => D
  | some i, D => ⟨fun σ H => D.nx (σ.set i none) H, D.rt, fun σ H => D.bk (σ.set i none) H, fun σ H => D.ct (σ.set i none) H⟩
def slotOf : Option Nat → Addr → St → St
  | none, _, σ => σ
  | some i, a, σ => σ.set i (some (.ref a))
def wClauses (K : PySem.W.Frag) (Wout : WX) (D : Ends) : List Clause → WX
  | [], cls, d, σ, H => Wout cls d σ H
  | (c, i, ts) :: r, cls, d, σ, H => ∃ b, PySem.W.exmOne K cls c = some b ∧ (b = true → ∀ a, H a = none → ts a cls d (endsOf i D) (slotOf i a σ) H) ∧ (b = false → wClauses K Wout D r cls d σ H)
def SuiteOk (X : Cx) (sts : List Stmt) (ts : Addr → Value → Option Addr → TS) : Prop :=
  ∀ (a : Addr) (oe : Obj) (cls : Value) (d : Option Addr) (pn : List (Addr × Obj)), Zc cls d oe → (∃ vs, oe.data = .fields vs) → PSs (X.suite a ((a, oe) :: pn)) sts (ts a cls d)
inductive ClausesOk (X : Cx) : List ExceptHandler → List Clause → Prop
  | nil : ClausesOk X [] []
  | plain {x c ts b₀ su np p2 hds l} (hc : Names X x c) (ok : SuiteOk X (b₀ :: su) ts) (r : ClausesOk X hds l) : ClausesOk X (.ExceptHandler (some (.Name x np)) none (b₀ :: su) p2 :: hds) ((c, none, ts) :: l)
  | named {x c ts b₀ su np p2 hds l n i} (hc : Names X x c) (hi : X.N[i]? = some n) (hn : X.env.kindOf n = some .local) (ok : SuiteOk X (b₀ :: su) ts) (r : ClausesOk X hds l) :
      ClausesOk X (.ExceptHandler (some (.Name x np)) (some n) (b₀ :: su) p2 :: hds) ((c, some i, ts) :: l)
section
variable {X : Cx} {pins : List (Addr × Obj)} {σ : St} {H : Hp} {z sI : Shared} {a : Addr} {cls : Value} {d : Option Addr} {B h : Heap} {D : Ends}
/-- an exception that has come to its try: what is known there -/
structure Come (X : Cx) (pins : List (Addr × Obj)) (σ : St) (H : Hp) (sI z : Shared) (a : Addr) (cls : Value) (d : Option Addr) (B h : Heap) : Prop where
  hs : X.stack = X.env :: X.outer
  hf : X.env.frame = some X.env.locals
  J : Inv X pins σ H sI
  nb : ∀ b o, sI.heap.get? b = some o → b ∉ frs X.stack → B.get? b = some o
  fl : HandSPX.FlyingZ B (X.env :: X.outer) a (Zc cls d) h
  up : sI.heap.UpToSlots h
  na : H a = none
  os : z.os = sI.os
  ag : AllBare z.gens
theorem Come.inv (C : Come X pins σ H sI z a cls d B h) : Inv X pins σ H { z with heap := h } := C.J.landed C.nb C.fl.1 C.up C.os C.ag
theorem Come.apart (C : Come X pins σ H sI z a cls d B h) : a ≠ X.env.locals ∧ a ∉ X.fs := by
  obtain ⟨oe, vs, he, _, hd⟩ := C.fl.there
  have no : a ∉ frs (X.env :: X.outer) := fun m => by
    obtain ⟨_, o, e, q⟩ := C.fl.2.2.1.mem m
    rw [he] at e
    cases e
    exact q _ hd
  refine ⟨fun e => no (List.mem_filterMap.mpr ⟨X.env, List.mem_cons_self, by rw [C.hf, e]⟩), fun m => ?_⟩
  obtain ⟨e, he, q⟩ := List.mem_filterMap.mp m
  exact no (List.mem_filterMap.mpr ⟨e, List.mem_cons_of_mem _ he, q⟩)
theorem Come.suite (C : Come X pins σ H sI z a cls d B h) : ∃ oe, Zc cls d oe ∧ (∃ vs, oe.data = .fields vs) ∧ h.get? a = some oe ∧ Inv (X.suite a ((a, oe) :: (X.pn ++ pins))) [] σ H { z with heap := h } := by
  obtain ⟨oe, vs, he, hz, hd⟩ := C.fl.there
  exact ⟨oe, hz, ⟨vs, hd⟩, he, C.inv.suite he hd C.na C.apart.1 C.apart.2⟩
theorem Come.step (C : Come X pins σ H sI z a cls d B h) {h2 : Heap} (fl : HandSPX.FlyingZ B (X.env :: X.outer) a (Zc cls d) h2) (up : h.UpToSlots h2) : Come X pins σ H sI z a cls d B h2 :=
  ⟨C.hs, C.hf, C.J, C.nb, fl, C.up.trans up, C.na, C.os, C.ag⟩
/-- the class of a clause is looked at -/
theorem Come.test (C : Come X pins σ H sI z a cls d B h) {x : Str} {c : Value} {np : Pos} {b : Bool} (hc : Names X x c) (hb : PySem.W.exmOne X.K cls c = some b) {Q : Bool → Shared → Prop} {E E2 : Value → Shared → Prop} (q : Q b { z with heap := h }) :
    wpAny (model X.prog X.w) (X.A.mark (some (.ref a))) (eval (.Name x np) X.env) (fun u s1 => wpAny (model X.prog X.w) (X.A.mark (some (.ref a))) (excMatches (.ref a) u) Q E2 s1) E { z with heap := h } := by
  obtain ⟨oe, hz, _, he, S⟩ := C.suite
  have LT : PySem.W.Looks (model X.prog X.w) h (typeOf (.ref a)) cls := fun _ _ _ _ k q2 => wpAny_typeOf_ref (k _ _ he) (by rw [hz.1]; exact q2)
  have LM := (PySem.W.exm_one (M := model X.prog X.w) C.inv.kIn LT hb).here (A := X.A.mark (some (.ref a))) (Q := Q) (E := E2) (s := { z with heap := h }) q
  obtain ⟨hg, hdb, hm | ⟨hm, hv, hnn⟩⟩ := hc
  · exact ld_glob (X := X.suite a ((a, oe) :: (X.pn ++ pins))) S hg hm LM hdb
  · exact ld_blt (X := X.suite a ((a, oe) :: (X.pn ++ pins))) S hg hm hv LM hnn hdb
/-- no clause is left: it goes on -/
theorem Come.on {Wout : WX} (C : Come X pins σ H sI z a cls d B h) (tk : Takes X Wout) (wo : Wout cls d σ H) :
    wpAny (model X.prog X.w) X.A (handleBy (.ref a) X.env []) (SP X pins D) X.xe { z with heap := h } := by
  refine wpAny_handleBy_nil ?_
  obtain ⟨_, _, _, oe, vs, T, oT, ts, he, _, hd, h1, _⟩ := id C.fl
  unfold PySem.passOn
  refine wpAny_bind (wpAny_field he hd h1 ?_)
  rw [if_neg (show ¬ ((Value.ref T == Value.none) = true) from by simp)]
  have fin : wpAny (model X.prog X.w) X.A (setFlight (.ref a) X.env.frame) (fun _ s4 => wpAny (model X.prog X.w) X.A (throw (.ref a) : Sem Flow) (SP X pins D) X.xe s4) X.xe { z with heap := h } := by
    rw [C.hf]
    refine HandSPX.setFlight_upZ C.fl fun h4 hh4 up4 => wpAny_throw (tk _ _ ?_)
    exact ⟨a, B, sI, pins, σ, H, cls, d, rfl, C.J, C.nb, C.up.trans up4, .inr (.inr (by rw [C.hs]; exact hh4)), C.na, C.os, C.ag, wo⟩
  first | exact wpAny_bind (wpAny_pure (wpAny_bind fin)) | exact wpAny_bind fin
theorem Come.run {Wout : WX} {hds : List ExceptHandler} {l : List Clause} (hN : X.N.Nodup) (tk : Takes X Wout) (ok : ClausesOk X hds l) : ∀ {h : Heap}, Come X pins σ H sI z a cls d B h → wClauses X.K Wout D l cls d σ H →
    wpAny (model X.prog X.w) X.A (handleBy (.ref a) X.env hds) (SP X pins D) X.xe { z with heap := h } := by
  induction ok with
  | nil => exact fun C w => C.on tk w
  | plain hc su r ih =>
    intro h C w
    obtain ⟨b, hb, yes, no⟩ := w
    refine wpAny_handleBy_cons (codeAny_handlers_test (C.test hc hb ?_)) (by intro q; cases q)
    cases b with
    | false => exact ih C (no rfl)
    | true =>
      refine codeAny_handlers_suite ?_
      refine HandSPX.lands_againZ C.fl fun h4 fl4 up4 => ?_
      have C4 := C.step fl4 up4
      obtain ⟨oe, hz, hd, he, S⟩ := C4.suite
      refine wpAny_mono ((su a oe cls d (X.pn ++ pins) hz hd).run [] _ _ H _ S (yes rfl a C.na)) (fun f s6 hsp => ?_) (fun _ _ q => False.elim q)
      cases f with
      | next => exact let ⟨_, _, S6, q6⟩ := hsp; ⟨_, _, S6.unsuite C.J.ok, q6⟩
      | brk => exact let ⟨_, _, S6, q6⟩ := hsp; ⟨_, _, S6.unsuite C.J.ok, q6⟩
      | cont => exact let ⟨_, _, S6, q6⟩ := hsp; ⟨_, _, S6.unsuite C.J.ok, q6⟩
      | ret u => exact let ⟨_, _, _, S6, r6, q6⟩ := hsp; ⟨_, _, _, S6.unsuite C.J.ok, r6, q6⟩
  | @named x c ts b₀ suite np p2 hds l n i hc hi hn su r ih =>
    intro h C w
    obtain ⟨b, hb, yes, no⟩ := w
    refine wpAny_handleBy_cons (codeAny_handlers_test (C.test hc hb ?_)) (by intro q; cases q)
    cases b with
    | false => exact ih C (no rfl)
    | true =>
      refine codeAny_handlers_suite_as ?_
      refine HandSPX.lands_againZ C.fl fun h4 fl4 up4 => ?_
      have C4 := C.step fl4 up4
      obtain ⟨oe, hz, hd, he, S⟩ := C4.suite
      refine store_ok (X := X.suite a ((a, oe) :: (X.pn ++ pins))) (v := .ref a) S hN hi (.inl hn) rfl (fun s5 S5 => ?_) (.inr hn)
      refine wpAny_mono ((su a oe cls d (X.pn ++ pins) hz hd).run [] s5 _ H _ S5 (yes rfl a C.na)) (fun f s6 hsp => ?_) (fun _ _ q => False.elim q)
      have away : ∀ {σ6 : St} {H6 : Hp} {Q : Shared → Prop}, Inv (X.suite a ((a, oe) :: (X.pn ++ pins))) [] σ6 H6 s6 → (∀ s7, Inv X pins (σ6.set i none) H6 s7 → Q s7) →
          wpAny (model X.prog X.w) X.A (do bindName X.env n .none; unbindBehindTheSuite X.env n p2) (fun _ s7 => Q s7) X.xe s6 := fun S6 hq => gone_ok (S6.unsuite C.J.ok) hN hi hn hq
      cases f with
      | next => exact let ⟨_, _, S6, q6⟩ := hsp; away S6 fun s7 J7 => ⟨_, _, J7, q6⟩
      | brk => exact let ⟨_, _, S6, q6⟩ := hsp; away S6 fun s7 J7 => ⟨_, _, J7, q6⟩
      | cont => exact let ⟨_, _, S6, q6⟩ := hsp; away S6 fun s7 J7 => ⟨_, _, J7, q6⟩
      | ret u => exact let ⟨_, _, _, S6, r6, q6⟩ := hsp; away S6 fun s7 J7 => ⟨_, _, _, J7, r6, q6⟩
end
/-- try: body / except C1 as n: .. / except C2: .. -/
theorem ps_try_clauses {X : Cx} {body : List Stmt} {hd₀ : ExceptHandler} {hds : List ExceptHandler} {l : List Clause} {pos : Pos} {tb : WX → TS} {Wout : WX} (hs : X.stack = X.env :: X.outer) (hf : X.env.frame = some X.env.locals) (hN : X.N.Nodup) (tk : Takes X Wout)
    (hb : ∀ (W : WX) (pn : List (Addr × Obj)) (xe : Value → Shared → Prop), Takes (X.tr pn xe) W → PassesOwn (model X.prog X.w) X.A X.env xe → PSs (X.tr pn xe) body (tb W)) (ok : ClausesOk X (hd₀ :: hds) l) :
    PS X (.Try body (hd₀ :: hds) [] [] pos) (fun D σ H => tb (wClauses X.K Wout D l) D σ H) := by
  constructor
  intro pins s σ H D I h
  have oX := I.ok
  have fr : X.A.frames = some (X.env :: X.outer) := by rw [oX.frames, hs]
  refine wpAny_Try_except ?_
  refine wpAny_mono ((hb (wClauses X.K Wout D l) (X.pn ++ pins) (fun e s₁ => wpAny (model X.prog X.w) X.A (noteFrame e X.env) (fun _ s₂ => wpAny (model X.prog X.w) X.A (setFlight e none) (fun _ s₃ =>
    wpAny (model X.prog X.w) X.A (handleBy e X.env (hd₀ :: hds)) (SP X pins D) X.xe s₃) X.xe s₂) X.xe s₁) (fun u s1 xx => ?_) PassesOwn.looking).run [] s σ H D (I.toTry _) h) (fun f s1 hsp => ?_) fun _ _ he => he
  · obtain ⟨a, B, sI, pins', σ', H', cls, d, rfl, J', nb, up, sky, na, os, ag, w⟩ := xx
    have sky' : Sky B (X.env :: X.outer) a (Zc cls d) X.env.locals s1.heap := by rw [← hs]; exact sky
    show wpAny (model X.prog X.w) X.A (noteFrame (.ref a) X.env) _ _ _
    refine Sky.land Zc.steady fr hf sky' fun h3 fl3 up3 => ?_
    exact Come.run (z := s1) hN tk ok ⟨hs, hf, J'.ofTry oX, nb, fl3, up.trans up3, na, os, ag⟩ w
  · cases f with
    | next => exact let ⟨σ', H', J', q⟩ := hsp; wpAny_execs_nil ⟨σ', H', J'.ofTry oX, q⟩
    | brk => exact let ⟨σ', H', J', q⟩ := hsp; ⟨σ', H', J'.ofTry oX, q⟩
    | cont => exact let ⟨σ', H', J', q⟩ := hsp; ⟨σ', H', J'.ofTry oX, q⟩
    | ret u => exact let ⟨v, σ', H', J', r, q⟩ := hsp; ⟨v, σ', H', J'.ofTry oX, r, q⟩
end L2
set_option Elab.async false
set_option linter.all false
set_option maxRecDepth 100001
set_option maxHeartbeats 3999999
/-! sorted(xs, key=lambda x: ..): any order of the keys that the sort can tell. -/
namespace SrtL
open PySem PyProof.Rows Srt SrtO
theorem zip_list (ks vs : List Value) : (ks.toArray.zip vs.toArray).toList = ks.zip vs := by
  rw [ksk_zip]
section
variable {prog : Program} {w : World} {A : Around} {E : Value → Shared → Prop} {s : Shared} {a kS : Addr} {e1 ek : Nat} {vs ks : List Value} {ltv : Value → Value → Bool} {R : PySem.Fin → Shared → Prop}
/-- what is left when the list is sorted -/
def doneHeap (h : Heap) (kS a : Addr) (out : Array Value) : Heap := (h.update kS (Obj.mapSeq fun _ => (#[] : Array Value))).update a (Obj.mapSeq fun _ => out)
theorem tail_ord {st : SortSt} (hk : s.heap.get? kS = some (seqObj "list" ks.toArray ek)) (ha : s.heap.get? a = some (seqObj "list" #[] e1)) (ne : kS ≠ a) (hz : vs.length ≤ sizeLine) (hl : ks.length = vs.length) (hsz : (arrOf st).size = vs.length) (hfl : failedOf st = none)
    (h : R (.done (.ret .none)) { s with heap := doneHeap s.heap kS a ((arrOf st).map (·.2)) }) : wpAny (model prog w) A (ksk_tail a false e1 (.ref kS) st) R E s := by
  have s1 := Heap.SameBut.update s.heap kS (Obj.mapSeq fun _ => (#[] : Array Value))
  have na1 : (s.heap.update kS (Obj.mapSeq fun _ => (#[] : Array Value))).get? a = some (seqObj "list" #[] e1) := (s1.2 a ne.symm).trans ha
  unfold ksk_tail
  try dsimp only
  refine wpAny_bind (listUpdate_at hk rfl ?_ (by rw [List.size_toArray]; omega) (Nat.zero_le _))
  refine wpAny_bind (wpAny_letGo ?_)
  refine wpAny_bind (seqEpoch_at na1 rfl ?_)
  refine wpAny_bind (listUpdate_at na1 rfl ?_ (Nat.zero_le _) (by simp only [Bool.false_eq_true, if_false, Array.size_map]; omega))
  rw [hfl]
  simp only [bne_self_eq_false, Bool.false_eq_true, if_false]
  exact wpAny_pure h
theorem end_ord (O : Swo ltv) (hk : s.heap.get? kS = some (seqObj "list" ks.toArray ek)) (ha : s.heap.get? a = some (seqObj "list" #[] e1)) (ne : kS ≠ a) (hz : vs.length ≤ sizeLine) (hl : ks.length = vs.length)
    (hS : 2 ≤ vs.length → ∃ κ, (∀ (Q : SortKind → Shared → Prop) (E : Value → Shared → Prop), Q κ s → wpAny (model prog w) A (keyKind' ks.toArray) Q E s) ∧ Cmp prog w A s κ (fun p => p.1 ∈ ks) (lt2 ltv))
    (h : ∀ ps : List Keyed, Srtd (lt2 ltv) ps → Stb (lt2 ltv) ps (ks.zip vs) → R (.done (.ret .none)) { s with heap := doneHeap s.heap kS a (ps.map (·.2)).toArray }) :
    wpAny (model prog w) A (ksk_end a false vs.toArray e1 (.ref kS) ks.toArray) R E s := by
  have hzs : (ks.toArray.zip vs.toArray).size = vs.length := by rw [Array.size_zip, List.size_toArray, List.size_toArray, hl, Nat.min_self]
  have fin : ∀ st : SortSt, Srtd (lt2 ltv) (arrOf st).toList → Stb (lt2 ltv) (arrOf st).toList (ks.toArray.zip vs.toArray).toList → R (.done (.ret .none)) { s with heap := doneHeap s.heap kS a ((arrOf st).map (·.2)) } := by
    intro st h1 h2
    rw [zip_list] at h2
    have h3 := h _ h1 h2
    have e : ((arrOf st).toList.map (·.2)).toArray = (arrOf st).map (·.2) := by
      rw [← Array.toList_map, Array.toArray_toList]
    rw [e] at h3
    exact h3
  have size : ∀ st : SortSt, Stb (lt2 ltv) (arrOf st).toList (ks.toArray.zip vs.toArray).toList → (arrOf st).size = vs.length := by
    intro st h2
    have := h2.perm.length_eq
    rw [Array.length_toList, Array.length_toList, hzs] at this
    exact this
  unfold ksk_end
  try dsimp only
  simp only [Bool.false_eq_true, if_false]
  by_cases h2 : vs.toArray.size < 2
  · rw [if_pos h2, if_pos h2]
    refine wpAny_bind (wpAny_pure ?_)
    rw [StateT.run_pure]
    refine wpAny_bind (wpAny_pure ?_)
    try dsimp only
    rw [List.size_toArray] at h2
    refine tail_ord (st := SortSt.mk' general' (ks.toArray.zip vs.toArray) #[] 7 none) hk ha ne hz hl hzs rfl (fin (SortSt.mk' general' (ks.toArray.zip vs.toArray) #[] 7 none) ?_ (Stb.refl _))
    show Srtd (lt2 ltv) (ks.toArray.zip vs.toArray).toList
    have hlz : (ks.toArray.zip vs.toArray).toList.length < 2 := by rw [Array.length_toList, hzs]; exact h2
    revert hlz
    generalize (ks.toArray.zip vs.toArray).toList = l
    intro hlz
    match l, hlz with
    | [], _ => exact List.Pairwise.nil
    | [v], _ => exact List.pairwise_singleton _ _
    | _ :: _ :: l, h => exact absurd h (by rw [List.length_cons, List.length_cons]; omega)
  · rw [if_neg h2, if_neg h2]
    rw [List.size_toArray] at h2
    obtain ⟨κ, hkind, hT⟩ := hS (by omega)
    refine wpAny_bind (hkind _ _ ?_)
    have hall : AllL (fun p : Keyed => p.1 ∈ ks) (ks.toArray.zip vs.toArray).toList := fun p hm => by
      rw [zip_list] at hm
      obtain ⟨x, y⟩ := p
      exact (List.of_mem_zip hm).1
    refine wpAny_bind (wpAny_mono (wpS_sortO (st0 := SortSt.mk' κ (ks.toArray.zip vs.toArray) #[] 7 none)
      (Q := fun _ st' => Srtd (lt2 ltv) (arrOf st').toList ∧ Stb (lt2 ltv) (arrOf st').toList (ks.toArray.zip vs.toArray).toList ∧ failedOf st' = none) (swo2 O) hT rfl hall rfl rfl fun st' a1 a2 a3 => ⟨a1, a2, a3⟩) ?_ fun _ _ e => e)
    rintro ⟨⟨⟩, st'⟩ s' ⟨rfl, hp1, hp2, hf⟩
    try dsimp only
    exact tail_ord hk ha ne hz hl (size st' hp2) hf (fin st' hp1 hp2)
/-- what is asked of the keys' making: J of the keys so far -/
structure Keys (prog : Program) (w : World) (A : Around) (f : Value) (vs : List Value) (ltv : Value → Value → Bool) (R : PySem.Fin → Shared → Prop) (a kS : Addr) (e1 : Nat) (J : List Value → Shared → Prop) : Prop where
  obj : ∀ ks s, J ks s → (∃ ek, s.heap.get? kS = some (seqObj "list" ks.toArray ek)) ∧ s.heap.get? a = some (seqObj "list" #[] e1)
  turn : ∀ (ks : List Value) (v : Value) (s : Shared), J ks s → vs[ks.length]? = some v → wpAny (model prog w) A (call f [v]) (fun k s' => (∃ ek, s'.heap.get? kS = some (seqObj "list" ks.toArray ek)) ∧ J (ks ++ [k]) { s' with heap := s'.heap.update kS (Obj.mapSeq (·.push k)) }) (fun _ _ => False) s
  kind : ∀ ks s, J ks s → ks.length = vs.length → 2 ≤ vs.length → ∃ κ, (∀ (Q : SortKind → Shared → Prop) (E : Value → Shared → Prop), Q κ s → wpAny (model prog w) A (keyKind' ks.toArray) Q E s) ∧ Cmp prog w A s κ (fun p => p.1 ∈ ks) (lt2 ltv)
  fin : ∀ ks s, J ks s → ks.length = vs.length → ∀ ps : List Keyed, Srtd (lt2 ltv) ps → Stb (lt2 ltv) ps (ks.zip vs) → R (.done (.ret .none)) { s with heap := doneHeap s.heap kS a (ps.map (·.2)).toArray }
theorem rest_ord {f : Value} {J : List Value → Shared → Prop} (O : Swo ltv) (ne : kS ≠ a) (hz : vs.length ≤ sizeLine) (h0 : J [] s) (Y : Keys prog w A f vs ltv R a kS e1 J) : wpAny (model prog w) A (ksk_rest a f false vs.toArray e1 (.ref kS)) R E s := by
  unfold ksk_rest
  refine wpAny_bind (wpAny_rule ?_)
  first
    | rw [List.forIn_toArray]
    | (rw [← Array.forIn_toList]; simp only [List.toList_toArray])
    | rw [← Array.forIn_toList]
  refine wpAny_bind (ksk_fold (fun i s' => ∃ ks, J ks s' ∧ ks.length = i) vs 0 s ⟨[], h0, rfl⟩ ?step ?done)
  case step =>
    rintro j x s' hx ⟨ks, hJ, lk⟩
    simp only [Nat.zero_add] at lk ⊢
    have hj : j < vs.length := (List.getElem?_eq_some_iff.mp hx).1
    refine wpAny_bind (wpAny_attempt (wpAny_mono (Y.turn ks x s' hJ (by rw [lk]; exact hx)) (fun k s'' he => ?_) fun _ _ hF => hF.elim))
    obtain ⟨⟨ek, hk⟩, hJ2⟩ := he
    try dsimp only
    refine wpAny_bind (listUpdate_at hk rfl ?_ (by rw [List.size_toArray]; omega) (Nat.le_trans (Nat.le_of_eq (Array.size_push ..)) (by rw [List.size_toArray]; omega)))
    exact wpAny_pure ⟨rfl, _, hJ2, by rw [List.length_append, lk]; rfl⟩
  case done =>
    rintro s' ⟨ks, hJ, lk⟩
    rw [Nat.zero_add] at lk
    obtain ⟨⟨ek, hk⟩, ha⟩ := Y.obj ks s' hJ
    try dsimp only
    refine wpAny_bind (listItems_at hk rfl ?_)
    exact end_ord O hk ha ne hz lk (Y.kind ks s' hJ lk) (Y.fin ks s' hJ lk)
theorem tree_ord {f : Value} {n : Nat} (O : Swo ltv) (ho : s.heap.get? a = some (seqObj "list" vs.toArray n)) (hz : vs.length ≤ sizeLine)
    (h : ∀ (h1 : Heap) (kS : Addr) (e1 : Nat), (∀ b o, b ≠ a → s.heap.get? b = some o → h1.get? b = some o) → h1.get? a = some (seqObj "list" #[] e1) → h1.get? kS = some (seqObj "list" #[] 0) → s.heap.objs.size ≤ kS →
      ∃ J, J [] { s with heap := h1 } ∧ Keys prog w A f vs ltv R a kS e1 J) : wpAny (model prog w) A (ksk_tree a f false) R E s := by
  have ha : a < s.heap.objs.size := Heap.lt_size ho
  have s1 := Heap.SameBut.update s.heap a (Obj.mapSeq fun _ => (#[] : Array Value))
  obtain ⟨e1, ho1⟩ : ∃ e1, (s.heap.update a (Obj.mapSeq fun _ => (#[] : Array Value))).get? a = some (seqObj "list" #[] e1) := ⟨_, get?_update_seq ho fun _ => #[]⟩
  have hkS : ((s.heap.update a (Obj.mapSeq fun _ => (#[] : Array Value))).push (seqObj "tuple" vs.toArray 0)).objs.size = s.heap.objs.size + 1 := by rw [size_push', Heap.size_update]
  unfold ksk_tree
  refine wpAny_bind (listItems_at ho rfl ?_)
  refine wpAny_bind (listUpdate_at ho rfl ?_ (by rw [List.size_toArray]; omega) (Nat.zero_le _))
  refine wpAny_bind (seqEpoch_at ho1 rfl ?_)
  refine wpAny_bind (wpAny_newTuple ?_ (by show vs.length ≤ _; exact hz))
  refine wpAny_bind (wpAny_newList ?_ (Nat.zero_le _))
  refine wpAny_holding ?_
  obtain ⟨J, j0, Y⟩ := h (((s.heap.update a (Obj.mapSeq fun _ => (#[] : Array Value))).push (seqObj "tuple" vs.toArray 0)).push (seqObj "list" #[] 0)) ((s.heap.update a (Obj.mapSeq fun _ => (#[] : Array Value))).push (seqObj "tuple" vs.toArray 0)).objs.size e1
    (fun b o hb e => Heap.get?_push_of_some _ (Heap.get?_push_of_some _ ((Heap.get?_update_ne _ _ _ _ hb).trans e))) (Heap.get?_push_of_some _ (Heap.get?_push_of_some _ ho1)) (Heap.get?_push_size _ rfl) (by rw [hkS]; exact Nat.le_succ _)
  exact rest_ord (s := { s with heap := ((s.heap.update a (Obj.mapSeq fun _ => (#[] : Array Value))).push (seqObj "tuple" vs.toArray 0)).push (seqObj "list" #[] 0) }) O (by rw [hkS]; exact Nat.ne_of_gt (Nat.lt_succ_of_lt ha)) hz j0 Y
/-- sorted(l, key=q) -/
theorem sorted_ord {l q : Addr} {Q : Value → Shared → Prop} (O : Swo ltv) (hl : s.heap.IsList l vs.toArray) (hz : vs.length ≤ sizeLine)
    (h : ∀ (h1 : Heap) (d kS : Addr) (e1 : Nat), (∀ b o, s.heap.get? b = some o → h1.get? b = some o) → h1.get? d = some (seqObj "list" #[] e1) → h1.get? kS = some (seqObj "list" #[] 0) → s.heap.objs.size ≤ d → s.heap.objs.size ≤ kS → kS ≠ d →
      ∃ J, J [] { s with heap := h1 } ∧ Keys prog w A.in1.in1 (.ref q) vs ltv (fun r s' => r = .done (.ret .none) ∧ Q (.ref d) s') d kS e1 J) :
    wpAny (model prog w) A (call (.builtin "sorted") [.ref l] [(Str.ofString "key", .ref q)]) Q E s := by
  refine call_function_entry_kw kind_sorted plain_sorted entry_sorted (ksk_s1 _ _) ?_
  unfold Builtin.«sorted»
  refine wpAny_bind (m := checkCount "sorted" 1 1 _) (wpAny_pure ?_)
  refine wpAny_bind (collect_list hl ?_ hz)
  refine wpAny_bind (wpAny_newList ?_ hz)
  have hsz : ((s.heap.push (seqObj "list" #[] 0)).update s.heap.objs.size (Obj.mapSeq (· ++ vs.toArray))).objs.size = s.heap.objs.size + 1 := by
    rw [Heap.size_update, size_push']
  have hoL : (((s.heap.push (seqObj "list" #[] 0)).update s.heap.objs.size (Obj.mapSeq (· ++ vs.toArray))).push (seqObj "list" vs.toArray 0)).get? (s.heap.objs.size + 1) = some (seqObj "list" vs.toArray 0) := by
    rw [← hsz]; exact Heap.get?_push_size _ rfl
  have keep : ∀ b o, s.heap.get? b = some o → b ≠ s.heap.objs.size + 1 ∧ (((s.heap.push (seqObj "list" #[] 0)).update s.heap.objs.size (Obj.mapSeq (· ++ vs.toArray))).push (seqObj "list" vs.toArray 0)).get? b = some o := fun b o q => by
    have hlt : b < s.heap.objs.size := Heap.lt_size q
    refine ⟨Nat.ne_of_lt (Nat.lt_succ_of_lt hlt), Heap.get?_push_of_some _ ?_⟩
    rw [Heap.get?_update_ne _ _ _ _ (Nat.ne_of_lt hlt)]
    exact Heap.get?_push_of_some _ q
  have size2 : (((s.heap.push (seqObj "list" #[] 0)).update s.heap.objs.size (Obj.mapSeq (· ++ vs.toArray))).push (seqObj "list" vs.toArray 0)).objs.size = s.heap.objs.size + 2 := by rw [size_push', hsz]
  show wpAny _ _ _ _ _ { s with heap := ((s.heap.push (seqObj "list" #[] 0)).update s.heap.objs.size (Obj.mapSeq (· ++ vs.toArray))).push (seqObj "list" vs.toArray 0) }
  rw [hsz]
  refine wpAny_bind (wpAny_holding (wpAny_call_entry_kw slot_list_sort ⟨_, hoL, rfl⟩ entry_list_sort ?_ (ksk_l1 _ _)))
  rw [ksk_t1]
  refine tree_ord O hoL hz fun h1 kS e1 hk ha hkS hge => ?_
  dsimp only at hge hk
  rw [size2] at hge
  obtain ⟨J, j0, Y⟩ := h h1 (s.heap.objs.size + 1) kS e1 (fun b o q => hk b o (keep b o q).1 (keep b o q).2) ha hkS (Nat.le_succ _) (Nat.le_trans (Nat.le_add_right _ 2) hge) (Nat.ne_of_gt (Nat.lt_of_lt_of_le (Nat.lt_succ_self _) hge))
  refine ⟨J, j0, ⟨Y.obj, Y.turn, Y.kind, fun ks s' hJ hl ps h1 h2 => ?_⟩⟩
  obtain ⟨_, z⟩ := Y.fin ks s' hJ hl ps h1 h2
  exact ⟨_, rfl, wpAny_pure ⟨_, rfl, z⟩⟩
end
end SrtL
set_option Elab.async false
set_option linter.all false
set_option maxRecDepth 100001
set_option maxHeartbeats 3999999
namespace LamX
open PySem PySem.Spec PyProof.Rows L2
/-! ### a lambda of one parameter -/
structure LamP (sc scope : Scope) (a : Str) : Prop where
  kind : scope.kind = .function
  co : scope.isCoroutine = false
  gen : scope.isGenerator = false
  par : scope.names.lookup a = some .local
  own : ∀ y ∈ scope.names, y.2 ≠ .cell ∧ (y.2 = .local → y.1 = a)
  free : ∀ y ∈ scope.names, y.2 = .free → sc.names.lookup y.1 = some .cell ∨ sc.names.lookup y.1 = some .free
def lamPB (sc scope : Scope) (a : Str) : Bool :=
  decide (scope.kind = .function) && !scope.isCoroutine && !scope.isGenerator && decide (scope.names.lookup a = some .local) && scope.names.all fun y => !decide (y.2 = .cell) && (!decide (y.2 = .local) || decide (y.1 = a)) && (!decide (y.2 = .free) || decide (sc.names.lookup y.1 = some .cell) || decide (sc.names.lookup y.1 = some .free))
theorem lamP_by {sc scope : Scope} {a : Str} (h : lamPB sc scope a = true) : LamP sc scope a := by
  unfold lamPB at h
  simp only [Bool.and_eq_true, Bool.or_eq_true, Bool.not_eq_true', decide_eq_true_eq, decide_eq_false_iff_not, List.all_eq_true] at h
  obtain ⟨⟨⟨⟨h1, h2⟩, h3⟩, h0⟩, h4⟩ := h
  refine ⟨h1, h2, h3, h0, fun y hy => ⟨(h4 y hy).1.1, fun e => ?_⟩, fun y hy e => ?_⟩
  · rcases (h4 y hy).1.2 with z | z
    · exact absurd e z
    · exact z
  · rcases (h4 y hy).2 with (z | z) | z
    · exact absurd e z
    · exact .inl z
    · exact .inr z
theorem LamP.has {X : Cx} {scope : Scope} {a : Str} (L : LamP X.env.scope scope a) (ok : X.Ok) : ∀ y ∈ scope.names, y.2 = .free → ∃ c, X.env.cells.lookup y.1 = some c := fun y hy e => by
  rcases L.free y hy e with k | k
  · exact ok.has _ (.inl k)
  · exact ok.has _ (.inr k)
section
variable {X : Cx} {pins : List (Addr × Obj)} {σ : L2.St} {H : Hp} {s : Shared}
theorem lam_start1 {A : Around} {E : XK} {scope : Scope} {a : Str} {i : Nat} {v : V} {u : Value} {f c' : Addr} {h₁ : Heap} {tk : Nat} (I : Inv X pins σ H s) (L : LamP X.env.scope scope a) (hA : A.frames = some X.stack) (hd : A.handled = none) (nd : X.N.Nodup) (hN : X.N[i]? = some a) (rv : RelV v u)
    (hns : h₁.Ns s.heap.objs.size fun y => ([(a, u)] : List (Str × Value)).reverse.lookup y) (kp : ∀ b o, s.heap.get? b = some o → h₁.get? b = some o) :
    Inv (lamCx X A X.stack s H E scope f c') [] (σ.set i (some v)) H { s with heap := h₁, toks := tk } := by
  have e0 := I.env0
  have hfree := L.has I.ok
  have cm : ∀ {y c}, (cloFrom X.env.cells scope.names []).lookup y = some c → X.env.cells.lookup y = some c := fun {y c} e => by
    rcases cloFrom_mem (PySem.mem_of_lookup e) with hm | ⟨h1, h2⟩
    · cases hm
    · obtain ⟨c1, hc⟩ := hfree _ h1 rfl
      have hc : X.env.cells.lookup y = some c1 := hc
      have e2 : c = c1 := by
        rw [h2, hc] <;> rfl
      rw [e2]
      exact hc
  have look : ∀ {y}, scope.names.lookup y = some .free → ∃ c, (cloFrom X.env.cells scope.names []).lookup y = some c := fun {y} hl => by
    have hy : (y, NameKind.free) ∈ scope.names := PySem.mem_of_lookup hl
    exact mem_lookup (cloFrom_has (cells := X.env.cells) (acc := []) hy)
  have cellK : ∀ {c : Addr} {v : Option Value}, s.heap.IsCell c v → h₁.IsCell c v := fun {c v} ⟨o, ho, hd⟩ => ⟨o, kp _ _ ho, hd⟩
  have noA : ∀ b : Addr, b ∉ (lamCx X A X.stack s H E scope f c').ex := fun b z => absurd (show b ∈ ([] : List Addr) from z) (by simp)
  refine ⟨⟨e0.mod, L.kind, rfl, rfl, Nat.le_refl _, fun y z c e1 e2 => I.ok.inj y z c (cm e1) (cm e2), fun y hy => ?_, fun y c z _ => ?_, fun _ => hd, Around.frames_deeper hA, .inr ⟨rfl, rfl⟩, fun b z => absurd z (noA b), e0.bs, e0.bsz, fun b _ _ => noA b,
      fun b z => absurd z (noA b), e0.funs, e0.frf⟩,
    rfl, e0.bare, Un.kept kp, ⟨_, hns, fun j y w e1 e2 e3 => ?_⟩, fun y c e => ?_, e0.hok.fresh (Nat.le_refl _), fun y c e => I.freeC y c (cm e), fun q hq => absurd (show q ∈ ([] : List (Addr × Obj)) ++ [] from hq) (by simp), e0.hok.kept kp, by rw [List.length_set]; exact I.len⟩
  · have hy : scope.names.lookup y = some .cell ∨ scope.names.lookup y = some .free := hy
    rcases hy with hy | hy
    · exact absurd rfl (L.own _ (PySem.mem_of_lookup hy)).1
    · exact look hy
  · have z : false = true := z
    cases z
  · have e1 : X.N[j]? = some y := e1
    by_cases ej : j = i
    · rw [ej] at e1 e2
      rw [hN] at e1
      cases e1
      have lt : i < σ.length := by rw [I.len]; exact (List.getElem?_eq_some_iff.mp hN).1
      rw [List.getElem?_set_self lt] at e2
      cases e2
      refine ⟨u, rv, .inl ⟨L.par, ?_⟩⟩
      simp [List.lookup]
    · rw [List.getElem?_set_ne (fun z => ej z.symm)] at e2
      have ya : y ≠ a := fun z => ej (nodup_ix nd (z ▸ e1) hN)
      have e3 : Vis scope y := e3
      rcases e3 with k | k | k
      · exact absurd ((L.own _ (PySem.mem_of_lookup k)).2 rfl) ya
      · exact absurd rfl (L.own _ (PySem.mem_of_lookup k)).1
      · obtain ⟨m, hn, hl⟩ := I.loc
        have hvis : Vis X.env.scope y := (L.free _ (PySem.mem_of_lookup k) rfl).elim (fun k => .inr (.inl k)) (fun k => .inr (.inr k))
        obtain ⟨w', r, q⟩ := hl j y w e1 e2 hvis
        obtain ⟨c2, h2⟩ := look k
        refine ⟨w', r, .inr ⟨.inr k, c2, h2, ?_⟩⟩
        have c1 := cm h2
        rcases q with ⟨k', _⟩ | ⟨_, c3, e', z⟩
        · have k' : X.env.scope.names.lookup y = some .local := k'
          rcases L.free _ (PySem.mem_of_lookup k) rfl with k2 | k2 <;> rw [show X.env.scope.names.lookup y = _ from k2] at k' <;> cases k'
        · rw [c1] at e'
          cases e'
          exact cellK z
  · obtain ⟨w', z⟩ := I.cell y c (cm e)
    exact ⟨w', cellK z⟩
/-- the lambda called with one value, in the def that made it -/
theorem lam_call1 {A : Around} {scope : Scope} {a : Str} {i k : Nat} {v : V} {u pm ctv : Value} {f c' : Addr} {params : Arguments} {body : Expr} {tb : TE} {Q : VK} (I : Inv X pins σ H s) (L : LamP X.env.scope scope a) (hA : A.frames = some X.stack) (hr : Room (k + 1) A) (nd : X.N.Nodup) (hN : X.N[i]? = some a) (rv : RelV v u)
    (hf : s.heap.get? f = some (PySem.W.kla_obj "<lambda>" (X.env.qual ++ "<lambda>") params body scope (cloFrom X.env.cells scope.names []) pm c' ctv)) (hc : H c' = some (CodeO c' (X.env.qual ++ "<lambda>")))
    (hbind : bindArgs (PySem.W.kla_fn "<lambda>" (X.env.qual ++ "<lambda>") params body scope (cloFrom X.env.cells scope.names []) pm (.ref c') ctv) ⟨[u], []⟩ = pure [(a, u)])
    (hbody : Room k (A.deeper (lamEnv X scope s.heap.objs.size f c')) → PE (lamCx X A X.stack s H C8.E0 scope f c') body tb) (ht : tb (σ.set i (some v)) H Q) :
    codeAny (model X.prog X.w) A (.call (.ref f) ⟨[u], []⟩) (CR (L2.CX X.prog X.w) X.stack X.prog X.w H s Q C8.E0) s := by
  obtain ⟨⟨oc, vs, t, hoc, hdc, hvc⟩, _, _⟩ := I.hok c' _ hc
  refine PySem.W.kla_callFunE hr.depth hf rfl L.co L.gen rfl ⟨c', oc, vs, t, rfl, hoc, hdc, hvc⟩ ?_
  rw [hbind]
  refine wpAny_pure (wpAny_newFunctionEnv (fun y hy => (L.own y hy).1) (fun y hy => ?_) (fun h₁ hns hsb => ⟨I.nolimit.fresh _ hsb, ?_⟩) L.kind)
  · rw [List.mem_singleton.mp hy]
    exact L.par
  show codeAny _ _ (.expr body (lamEnv X scope s.heap.objs.size f c')) _ _
  have kp : ∀ b o, s.heap.get? b = some o → h₁.get? b = some o := fun b o e => hsb.extBut b o (Nat.ne_of_lt (Heap.lt_size e)) (Heap.get?_push_of_some _ e)
  have J : Inv (lamCx X A X.stack s H C8.E0 scope f c') [] (σ.set i (some v)) H { s with heap := h₁, toks := s.toks + ([(a, u)] : List (Str × Value)).length } := lam_start1 I L hA hr.hd nd hN rv hns kp
  refine PySem.W.kla_codeExpr (wpAny_mono ((hbody (hr.deeper _)).run [] _ _ H Q J ht) (fun v s' hq => ?_) fun e s' hq => hq)
  obtain ⟨w', H', J', rv, q⟩ := hq
  exact ⟨w', H', J'.os, J'.bare, J'.base, J'.hok, rv, q⟩
end
end LamX
set_option Elab.async false
set_option linter.all false
set_option maxRecDepth 100001
set_option maxHeartbeats 3999999
namespace SrtL
open PySem PyProof.Rows Srt SrtO L2 LamX
/-! ### orders of keys -/
structure KeyOrd (α : Type) where
  lt : α → α → Bool
  enc : α → V
  dec : Value → α
  val : α → Value
  swo : Swo lt
  rel : ∀ k u, RelV (enc k) u → dec u = k
  back : ∀ k, dec (val k) = k
  sortable : ∀ {prog : Program} {w : World} {A : Around} {s : Shared} (us : List Value), (∀ u ∈ us, ∃ k, RelV (enc k) u) → 2 ≤ us.length →
    ∃ κ, (∀ (Q : SortKind → Shared → Prop) (E : Value → Shared → Prop), Q κ s → wpAny (model prog w) A (keyKind' us.toArray) Q E s) ∧ Cmp prog w A s κ (fun p => p.1 ∈ us) (lt2 fun x y => lt (dec x) (dec y))
theorem swo_dec {α β : Type} {lt : α → α → Bool} (O : Swo lt) (f : β → α) : Swo fun x y => lt (f x) (f y) := ⟨fun x y h => O.asym _ _ h, fun x y z h1 h2 => O.tr _ _ _ h1 h2⟩
def decI : Value → Int
  | .int i _ => i
  | _ => 0
def decS : Value → Str
  | .str z _ => z
  | _ => Str.empty
theorem ints_dec : ∀ {us : List Value}, (∀ u ∈ us, ∃ k, RelV (.int k) u) → IntsAre us (us.map decI)
  | [], _ => .nil
  | u :: us, h => by
    obtain ⟨k, t, e⟩ := h u List.mem_cons_self
    subst e
    exact .cons k t (ints_dec fun v hv => h v (List.mem_cons_of_mem _ hv))
def ordInt : KeyOrd Int where
  lt i j := decide (i < j)
  enc := .int
  dec := decI
  val i := .int i 0
  swo := ⟨fun x y h => by have := of_decide_eq_true h; exact decide_eq_false (by omega), fun x y z h1 h2 => by have := of_decide_eq_false h1; have := of_decide_eq_false h2; exact decide_eq_false (by omega)⟩
  rel k u h := by obtain ⟨t, rfl⟩ := h; rfl
  back k := rfl
  sortable us h h2 := by
    have hI := ints_dec h
    refine ⟨oneType', fun Q E hq => ?_, fun p q hm hm' => ?_⟩
    · match us, hI, h2 with
      | v1 :: v2 :: rest, hI, _ =>
        rw [keyKind_ints hI]
        exact wpAny_pure hq
      | [], _, h => exact absurd h (by decide)
      | [v], _, h => exact absurd h (by simp)
    · obtain ⟨a, t, e⟩ := h _ hm
      obtain ⟨b, u, e'⟩ := h _ hm'
      show wpAny _ _ (keyLt' oneType' p.1 q.1) (fun r s' => s' = _ ∧ r = decide (decI p.1 < decI q.1)) (fun _ _ => False) _
      rw [e, e', keyLt'_oneType]
      exact oneLt_int ⟨rfl, rfl⟩
theorem strs_dec : ∀ {us : List Value}, (∀ u ∈ us, ∃ k, RelV (.str k) u) → StrsAre us (us.map decS)
  | [], _ => .nil
  | u :: us, h => by
    obtain ⟨k, t, e⟩ := h u List.mem_cons_self
    subst e
    exact .cons k t (strs_dec fun v hv => h v (List.mem_cons_of_mem _ hv))
theorem swo_nats : Swo fun (a b : List Nat) => decide (a < b) := by
  refine ⟨fun x y h => ?_, fun x y z h1 h2 => ?_⟩
  · have h := of_decide_eq_true h
    exact decide_eq_false fun z => List.lt_irrefl x (List.lt_trans h z)
  · have h1 := List.not_lt.mp (of_decide_eq_false h1)
    have h2 := List.not_lt.mp (of_decide_eq_false h2)
    exact decide_eq_false (List.not_lt.mpr (List.le_trans h1 h2))
def ordStr : KeyOrd Str where
  lt a b := decide (a.cps.toList < b.cps.toList)
  enc := .str
  dec := decS
  val z := .str z 0
  swo := swo_dec swo_nats fun a : Str => a.cps.toList
  rel k u h := by obtain ⟨t, rfl⟩ := h; rfl
  back k := rfl
  sortable us h h2 := by
    have hI := strs_dec h
    refine ⟨oneType', fun Q E hq => ?_, fun p q hm hm' => ?_⟩
    · match us, hI, h2 with
      | v1 :: v2 :: rest, hI, _ =>
        rw [keyKind_strs hI]
        exact wpAny_pure hq
      | [], _, h => exact absurd h (by decide)
      | [v], _, h => exact absurd h (by simp)
    · obtain ⟨a, t, e⟩ := h _ hm
      obtain ⟨b, u, e'⟩ := h _ hm'
      show wpAny _ _ (keyLt' oneType' p.1 q.1) (fun r s' => s' = _ ∧ r = decide ((decS p.1).cps.toList < (decS q.1).cps.toList)) (fun _ _ => False) _
      rw [e, e', keyLt'_oneType]
      exact oneLt_str ⟨rfl, rfl⟩
end SrtL
set_option Elab.async false
set_option linter.all false
set_option maxRecDepth 100001
set_option maxHeartbeats 3999999
namespace SrtL
open PySem PyProof.Rows Srt SrtO L2 LamX
def bk (u : Value) : V := (absV u).getD .non
theorem bk_rel {x : V} {u : Value} (r : RelV x u) : bk u = x := by
  unfold bk
  rw [r.abs]
  rfl
section
variable {α : Type} (O : KeyOrd α) (g : V → α)
theorem zip_fact : ∀ {xs : List V} {vs ks : List Value}, Vals xs vs → Vals (xs.map fun x => O.enc (g x)) ks → (∀ p ∈ ks.zip vs, O.dec p.1 = g (bk p.2) ∧ RelV (bk p.2) p.2) ∧ (ks.zip vs).map (fun p => bk p.2) = xs
  | [], _, _, .nil, .nil => ⟨fun _ h => (by simp at h), rfl⟩
  | x :: xs, _, _, .cons r t, .cons r2 t2 => by
    obtain ⟨h1, h2⟩ := zip_fact t t2
    refine ⟨fun p hp => ?_, ?_⟩
    · rw [List.zip_cons_cons] at hp
      rcases List.mem_cons.mp hp with rfl | hp
      · rw [bk_rel r]
        exact ⟨O.rel _ _ r2, r⟩
      · exact h1 p hp
    · rw [List.zip_cons_cons, List.map_cons, h2]
      show bk _ :: xs = x :: xs
      rw [bk_rel r]
abbrev ltG (x y : V) : Bool := O.lt (g x) (g y)
abbrev ltD (x y : Value) : Bool := O.lt (O.dec x) (O.dec y)
theorem conv {xs : List V} {vs ks : List Value} {ps : List Keyed} (hv : Vals xs vs) (hk : Vals (xs.map fun x => O.enc (g x)) ks) (h1 : Srtd (lt2 (ltD O)) ps) (h2 : Stb (lt2 (ltD O)) ps (ks.zip vs)) :
    Vals (ps.map fun p => bk p.2) (ps.map (·.2)) ∧ Srtd (ltG O g) (ps.map fun p => bk p.2) ∧ Stb (ltG O g) (ps.map fun p => bk p.2) xs := by
  obtain ⟨f1, f2⟩ := zip_fact O g hv hk
  have mem : ∀ p ∈ ps, O.dec p.1 = g (bk p.2) ∧ RelV (bk p.2) p.2 := fun p hp => f1 p (h2.perm.mem_iff.mp hp)
  refine ⟨?_, ?_, ?_⟩
  · clear h1 h2
    induction ps with
    | nil => exact .nil
    | cons p ps ih => exact .cons (mem p List.mem_cons_self).2 (ih fun q hq => mem q (List.mem_cons_of_mem _ hq))
  · refine srtd_map (f := fun p : Keyed => bk p.2) (lt := ltG O g) ?_
    refine List.Pairwise.imp_of_mem (fun {p q} hp hq hr => ?_) h1
    show O.lt (g (bk q.2)) (g (bk p.2)) = false
    rw [← (mem p hp).1, ← (mem q hq).1]
    exact hr
  · have h3 : Stb (fun p q : Keyed => ltG O g (bk p.2) (bk q.2)) ps (ks.zip vs) := by
      refine ⟨h2.perm, fun x => ?_⟩
      have e : ∀ p : Keyed, O.dec p.1 = g (bk p.2) → eqv (fun p q : Keyed => ltG O g (bk p.2) (bk q.2)) x p = eqv (lt2 (ltD O)) (O.val (g (bk x.2)), x.2) p := by
        intro p hp
        show (!O.lt (g (bk x.2)) (g (bk p.2)) && !O.lt (g (bk p.2)) (g (bk x.2))) = (!O.lt (O.dec (O.val (g (bk x.2)))) (O.dec p.1) && !O.lt (O.dec p.1) (O.dec (O.val (g (bk x.2)))))
        rw [O.back, hp]
      rw [List.filter_congr fun p hp => e p (mem p hp).1, List.filter_congr fun p hp => e p (f1 p hp).1]
      exact h2.cls _
    have h4 := Stb.map (swo_dec O.swo g) (fun p : Keyed => bk p.2) h3
    rw [f2] at h4
    exact h4
end
/-- sorted(e, key=lambda x: tb): the keys are read at one and the same heap -/
def tSortLam {α : Type} (Tb : List (Addr × Str)) (K : PySem.W.Frag) (O : KeyOrd α) (i : Nat) (te tb : TE) : TE := fun σ H Q => te σ H fun x H1 => ∃ (a : Addr) (xs : List V) (g : V → α), x = .ref a ∧ SqL K H1 a xs ∧ Tabs Tb H1 ∧
  ∀ H2, ExtN H1 H2 → Tabs Tb H2 → SqL K H2 a xs ∧ (∀ v ∈ xs, tb (σ.set i (some v)) H2 fun kv H4 => kv = O.enc (g v) ∧ H4 = H2) ∧
    ∀ ys p, Srtd (ltG O g) ys → Stb (ltG O g) ys xs → H2 p = none → Q (.ref p) (upd H2 p (.lst ys))
section
variable {X : Cx} {pins : List (Addr × Obj)} {σ : L2.St} {H : Hp} {s : Shared}
theorem fp_keep {b : Addr} {o : Obj} {H' : Hp} {h' : Heap} (I : Inv X pins σ H s) (un : Un (frs X.stack) [] H H' s.heap h') (hn : H b = none) (hf : b ∉ frs X.stack) (hb : s.heap.get? b = some o) : h'.get? b = some o := un.keep b o hb hn hf (by simp)
theorem fp_nofr {b : Addr} (I : Inv X pins σ H s) (hf : FpOk X pins H b) : b ∉ frs X.stack := fun z => by
  rcases List.mem_cons.mp (I.stkSub _ z) with e | e
  · exact hf.2.1 e
  · exact hf.2.2.1 e
/-- the sorted list is known from now on -/
theorem inv_done {kS d : Addr} {ks out : List Value} {ys : List V} {ek e1 : Nat} (I : Inv X pins σ H s) (fk : FpOk X pins H kS) (fd : FpOk X pins H d) (ne : kS ≠ d) (hk : s.heap.get? kS = some (seqObj "list" ks.toArray ek)) (hd : s.heap.get? d = some (seqObj "list" #[] e1))
    (hl : ys.length ≤ sizeLine) (hv : Vals ys out) : Inv X pins σ (upd H d (.lst ys)) { s with heap := doneHeap s.heap kS d out.toArray } := by
  have s1 := Heap.SameBut.update s.heap kS (Obj.mapSeq fun _ => (#[] : Array Value))
  have nd1 : (s.heap.update kS (Obj.mapSeq fun _ => (#[] : Array Value))).get? d = some (seqObj "list" #[] e1) := (s1.2 d ne.symm).trans hd
  obtain ⟨e2, hd2⟩ : ∃ e2, (doneHeap s.heap kS d out.toArray).get? d = some (seqObj "list" out.toArray e2) := ⟨_, get?_update_seq nd1 fun _ => out.toArray⟩
  obtain ⟨e3, hk3⟩ : ∃ e3, (s.heap.update kS (Obj.mapSeq fun _ => (#[] : Array Value))).get? kS = some (seqObj "list" #[] e3) := ⟨_, get?_update_seq hk fun _ => #[]⟩
  have kp : ∀ b o, b ≠ kS → b ≠ d → s.heap.get? b = some o → (doneHeap s.heap kS d out.toArray).get? b = some o := fun b o h1 h2 e => by
    show ((s.heap.update kS (Obj.mapSeq fun _ => (#[] : Array Value))).update d _).get? b = _
    rw [Heap.get?_update_ne _ _ _ _ h2, Heap.get?_update_ne _ _ _ _ h1]
    exact e
  have nK : ∀ b u, H b = some u → b ≠ kS := fun b u e z => by rw [z, fk.1] at e; cases e
  have nD : ∀ b u, H b = some u → b ≠ d := fun b u e z => by rw [z, fd.1] at e; cases e
  have stay : ∀ b u, H b = some u → upd H d (.lst ys) b = some u := fun b u e => (upd_ne (nD b u e)).trans e
  refine I.step (g' := s.gens) (t' := s.toks) (d' := s.drawn) (ch := [kS, d]) (fun b hb => ?_) (fun b o _ _ hc e _ => kp b o (fun z => hc (by simp [z])) (fun z => hc (by simp [z])) e) (fun b o _ _ hc e _ => ⟨o.slots, kp b o (fun z => hc (by simp [z])) (fun z => hc (by simp [z])) e⟩)
    (fun b o hc _ n => (upd_ne (fun z => hc (by simp [z]))).trans n) (fun b o hc e => ⟨o, kp b o (fun z => hc (by simp [z])) (fun z => hc (by simp [z])) e⟩) (fun b xs e => stay _ _ e) (fun b o u e => stay _ _ e) (fun b ps e => ⟨#[], by rw [stay _ _ e]; simp⟩) (fun m hm => ?_) (fun b u e => ?_) I.bare
  · rcases List.mem_cons.mp hb with rfl | hb
    · exact ⟨fk.2.2.2.1, fk.2.1, fk.2.2.2.2.1, fk.2.2.2.2.2⟩
    · rw [List.mem_singleton.mp hb]
      exact ⟨fd.2.2.2.1, fd.2.1, fd.2.2.2.2.1, fd.2.2.2.2.2⟩
  · obtain ⟨o, es, ep, ho, r⟩ := hm
    exact ⟨o, es, ep, kp _ o (Ne.symm fk.2.1) (Ne.symm fd.2.1) ho, r⟩
  · by_cases hb : b = d
    · rw [hb, upd_same] at e
      cases e
      rw [hb]
      exact ⟨hl, out, e2, hv, hd2⟩
    · rw [upd_ne hb] at e
      refine (I.hok b u e).stay (fun c v hc q => ?_) (fun _ q => stay _ _ q) fun _ _ q => stay _ _ q
      rcases hc with z | z
      · rw [z] at q ⊢
        exact kp _ _ (nK b u e) hb q
      · exact kp _ _ (nK c _ z) (nD c _ z) q
end
end SrtL
set_option Elab.async false
set_option linter.all false
set_option maxRecDepth 100001
set_option maxHeartbeats 3999999
namespace SrtL
open PySem PyProof.Rows Srt SrtO L2 LamX
section
variable {X : Cx} {p lpos kpos pos : Pos} {e : Expr} {te tb : TE} {α : Type}
theorem frames2 (I : X.Ok) : X.A.in1.in1.frames = some X.stack := I.frames
theorem pe_sortLam (O : KeyOrd α) {Tb : List (Addr × Str)} {c T : Addr} {k i : Nat} {a : Str} {params : Arguments} {body : Expr} {scope : Scope} (hg : Gl X "sorted") (hm : X.mg "sorted" = none) (he : PE X e te) (TB : TabB X.base X.mg c T) (hmT : (T, X.env.qual ++ "<lambda>") ∈ Tb) (hu : ∀ p ∈ Tb, p.1 = T → p.2 = X.env.qual ++ "<lambda>")
    (hr : Room (k + 3) X.A) (L : LamP X.env.scope scope a) (nd : X.N.Nodup) (hN : X.N[i]? = some a)
    (hbody : ∀ (s : Shared) (H : Hp) (f c' : Addr), Room k (X.A.in1.in1.deeper (lamEnv X scope s.heap.objs.size f c')) → PE (lamCx X X.A.in1.in1 X.stack s H C8.E0 scope f c') body tb)
    (hcode : X.env.code = .ref c := by rfl) (hdef : defaultsOf params X.env = ([], []) := by rfl)
    (hbind : ∀ (q : Str) (cl : List (Str × Addr)) (pm cv ctv u : Value), bindArgs (PySem.W.kla_fn "<lambda>" q params body scope cl pm cv ctv) ⟨[u], []⟩ = pure [(a, u)] := by intros; rfl)
    (hs0 : starEach [e] X.env = (false, eval e X.env) :: starEach [] X.env := by rfl) (hs : backTo pos (starEach [e] X.env) = (false, eval e X.env) :: backTo pos (starEach [] X.env) := by rfl) (hpl : (backTo pos (starEach [e] X.env)).any (·.1) = false := by rfl) :
    PE X (.Call (.Name "sorted" p) [e] [⟨some "key", .Lambda params body scope lpos, kpos⟩] pos) (tSortLam Tb X.K O i te tb) := by
  refine ⟨fun pins s σ H Q I h => ?_⟩
  refine wpAny_Call_Name_kw (ld_blt (u := Value.builtin "sorted") I hg hm (by decide +kernel) ?_ (by decide) (by decide))
  refine PyProof.Rows.callWith_kw (thn ((pa_cons he pa_nil hs0).run pos pins s σ H (fun vs H1 => match vs with
    | [x] => ∃ (a : Addr) (xs : List V) (g : V → α), x = .ref a ∧ SqL X.K H1 a xs ∧ Tabs Tb H1 ∧
  ∀ H2, ExtN H1 H2 → Tabs Tb H2 → SqL X.K H2 a xs ∧ (∀ v ∈ xs, tb (σ.set i (some v)) H2 fun kv H4 => kv = O.enc (g v) ∧ H4 = H2) ∧
    ∀ ys p, Srtd (ltG O g) ys → Stb (ltG O g) ys xs → H2 p = none → Q (.ref p) (upd H2 p (.lst ys))
    | _ => False) I h) fun us s1 ⟨vs, H1, I1, r1, q1⟩ => ?_) hs hpl (by rfl) (by rfl)
  obtain ⟨x, rfl, u, rfl, rx, q1⟩ : ∃ x, vs = [x] ∧ ∃ u, us = [u] ∧ RelV x u ∧ ∃ (a : Addr) (xs : List V) (g : V → α), x = .ref a ∧ SqL X.K H1 a xs ∧ Tabs Tb H1 ∧
      ∀ H2, ExtN H1 H2 → Tabs Tb H2 → SqL X.K H2 a xs ∧ (∀ v ∈ xs, tb (σ.set i (some v)) H2 fun kv H4 => kv = O.enc (g v) ∧ H4 = H2) ∧
        ∀ ys p, Srtd (ltG O g) ys → Stb (ltG O g) ys xs → H2 p = none → Q (.ref p) (upd H2 p (.lst ys)) := by
    cases vs with
    | nil => exact q1.elim
    | cons x r =>
      cases r with
      | nil =>
        cases r1 with
        | cons rx t =>
          cases t
          exact ⟨x, rfl, _, rfl, rx, q1⟩
      | cons y r => exact q1.elim
  obtain ⟨l, xs, g, rfl, hl1, hT1, q1⟩ := q1
  obtain rfl : u = Value.ref l := rx
  show wpAny _ _ (evalAll ((do let v ← eval (.Lambda params body scope lpos) X.env; standAt pos; pure v) :: (backToKw pos (keywordEach [] X.env)).map (·.2))) _ _ s1
  refine wpAny_evalAll_cons (wpAny_bind (lam_make2 I1 TB hcode hmT hu hT1 hdef (L.has I1.ok) fun f c' pm ctv H2 s2 I2 e12 hT2 hf hfn hfr hc => wpAny_bind (wpAny_standAt (wpAny_pure ?_))))
  refine wpAny_evalAll_nil ?_
  show wpAny _ _ (call (.builtin "sorted") [.ref l] [(Str.ofString "key", .ref f)]) _ _ s2
  obtain ⟨hl2, hkey, hend⟩ := q1 H2 e12 hT2
  obtain ⟨its, rv, hil, hz⟩ := I2.list hl2
  refine sorted_ord (vs := its) (ltv := ltD O) (swo_dec O.swo O.dec) hil.isList (by rw [← rv.length]; exact hz) fun h1 d kS e1 hkp hd hkS gd gk nkd => ?_
  have fk : FpOk X pins H2 kS := I2.fpOk gk (I2.hok.fresh gk)
  have fd : FpOk X pins H2 d := I2.fpOk gd (I2.hok.fresh gd)
  have hroom : Room (k + 1) X.A.in1.in1 := (Room.in1 (Room.in1 hr))
  refine ⟨fun ks s' => Inv X pins σ H2 s' ∧ (∃ ek, s'.heap.get? kS = some (seqObj "list" ks.toArray ek)) ∧ s'.heap.get? d = some (seqObj "list" #[] e1) ∧ s'.heap.get? f = some (PySem.W.kla_obj "<lambda>" (X.env.qual ++ "<lambda>") params body scope (cloFrom X.env.cells scope.names []) pm c' ctv) ∧ Vals ((xs.take ks.length).map fun x => O.enc (g x)) ks,
    ⟨I2.kept (t' := s2.toks) hkp, ⟨0, hkS⟩, hd, hkp _ _ hf, by rw [List.length_nil, List.take_zero]; exact .nil⟩, ⟨fun ks s' h => ⟨h.2.1, h.2.2.1⟩, ?_, ?_, ?_⟩⟩
  · rintro ks u s' ⟨J, ⟨ek, jk⟩, jd, jf, jv⟩ hu2
    obtain ⟨x, hx, rx⟩ : ∃ x, xs[ks.length]? = some x ∧ RelV x u := by
      have lt : ks.length < xs.length := by rw [rv.length]; exact (List.getElem?_eq_some_iff.mp hu2).1
      obtain ⟨u', h1, h2⟩ := rv.get (List.getElem?_eq_getElem lt)
      rw [hu2] at h1
      cases h1
      exact ⟨_, List.getElem?_eq_getElem lt, h2⟩
    refine wpAny_call (codeAny_mono (lam_call1 (A := X.A.in1.in1) (i := i) (Q := fun kv H4 => kv = O.enc (g x) ∧ H4 = H2) J L J.ok.frames hroom nd hN rx jf hc (hbind _ _ _ _ _ _) (fun _ => hbody s' H2 f c' ‹_›) (hkey x (List.mem_of_getElem? hx))) fun r s'' hq => ?_)
    cases r with
    | error e =>
      obtain ⟨_, _, _, _, _, _, _, _, _, _, _, _, z⟩ := hq
      exact z
    | ok fl =>
      cases fl with
      | ret kv =>
        obtain ⟨v, H', os, bare, un, hok, rk, rfl, rfl⟩ := id hq
        obtain ⟨v2, H3, J2, _, _, rfl⟩ := J.after hq
        have kept : ∀ b o, H3 b = none → b ∉ frs X.stack → s'.heap.get? b = some o → s''.heap.get? b = some o := fun b o h1 h2 h3 => un.keep b o h3 h1 h2 (by simp)
        have jk2 := kept _ _ fk.1 (fp_nofr J fk) jk
        have jd2 := kept _ _ fd.1 (fp_nofr J fd) jd
        have jf2 := kept _ _ hfn hfr jf
        have sb := Heap.SameBut.update s''.heap kS (Obj.mapSeq (·.push kv))
        have kb : ∀ b o, b ≠ kS → s''.heap.get? b = some o → (s''.heap.update kS (Obj.mapSeq (·.push kv))).get? b = some o := fun b o hb e => (sb.2 b hb).trans e
        obtain ⟨c2, hc2⟩ : ∃ c2, (s''.heap.update kS (Obj.mapSeq (·.push kv))).get? kS = some (seqObj "list" (ks.toArray.push kv) c2) := ⟨_, get?_update_seq jk2 (·.push kv)⟩
        have nf : f ≠ kS := fun z => Nat.lt_irrefl _ (Nat.lt_of_lt_of_le (z ▸ Heap.lt_size hf) gk)
        refine ⟨⟨ek, jk2⟩, J2.turned (t' := s''.toks) kb fk.1 fk.2.1 fk.2.2.2.1 fk.2.2.2.2.1 fk.2.2.2.2.2, ⟨c2, by rw [hc2, List.push_toArray]⟩, kb _ _ nkd.symm jd2, kb _ _ nf jf2, ?_⟩
        have e1 : xs.take (ks ++ [kv]).length = xs.take ks.length ++ [x] := by
          rw [List.length_append, List.length_singleton, List.take_add_one, hx]
          rfl
        rw [e1, List.map_append]
        exact Paired.snoc jv rk
      | next => exact False.elim hq
      | brk => exact False.elim hq
      | cont => exact False.elim hq
  · rintro ks s' ⟨J, _, _, _, jv⟩ lk h2
    refine O.sortable ks (fun u hu => ?_) (by omega)
    obtain ⟨j, hj⟩ := List.mem_iff_getElem?.mp hu
    obtain ⟨lt, _⟩ := List.getElem?_eq_some_iff.mp hj
    have lt2 : j < ((xs.take ks.length).map fun x => O.enc (g x)).length := by rw [jv.length]; exact lt
    obtain ⟨u', h3, h4⟩ := jv.get (List.getElem?_eq_getElem lt2)
    rw [hj] at h3
    cases h3
    rw [List.getElem_map] at h4
    exact ⟨_, h4⟩
  · rintro ks s' ⟨J, ⟨ek, jk⟩, jd, _, jv⟩ lk ps h1 h2
    have lx : xs.length = ks.length := by rw [rv.length, lk]
    rw [← lx, List.take_length] at jv
    obtain ⟨y1, y2, y3⟩ := conv O g rv jv h1 h2
    refine ⟨rfl, .ref d, _, inv_done (ys := ps.map fun p => bk p.2) J fk fd nkd jk jd (by rw [y3.len]; exact hz) y1, rfl, hend _ d y2 y3 fd.1⟩
end
end SrtL
set_option Elab.async false
set_option linter.all false
set_option maxRecDepth 100001
set_option maxHeartbeats 1999999
/-! rules for texts: list(s), s * n, s[::-1], and for lists of ints: xs < ys. -/
namespace L2
open PySem.Spec PySem PyProof.Rows
def sgn (c : Nat) : V := .str ⟨#[c]⟩
def sgns (z : Str) : List V := z.cps.toList.map sgn
theorem vals_get : ∀ {xs : List V} {us : List Value}, xs.length = us.length → (∀ (j : Nat) x u, xs[j]? = some x → us[j]? = some u → RelV x u) → Vals xs us
  | [], [], _, _ => .nil
  | [], _ :: _, h, _ => by simp at h
  | _ :: _, [], h, _ => by simp at h
  | x :: xs, u :: us, h, k => .cons (k 0 x u rfl rfl) (vals_get (by simpa using h) fun j a b h1 h2 => k (j + 1) a b (by simpa using h1) (by simpa using h2))
section
variable {X : Cx}
/-- list(s) -/
theorem call_listS (hc : X.calm = true) : CallR X (.type "list") (fun xs H Q => ∃ z : Str, xs = [.str z] ∧ z.length ≤ sizeLine ∧ ∀ p, H p = none → Q (.ref p) (upd H p (.lst (sgns z)))) := by
  intro pins s σ H xs us Q I r h
  obtain ⟨z, rfl, hz, q⟩ := h
  obtain ⟨u, rfl, rx⟩ := vals1 r
  obtain ⟨t, rfl⟩ := rx
  refine PySem.call_list_str (I.ok.hd hc) z t (fun h' tk acc' c' hk hS hacc => ?_) hz
  refine ⟨.ref _, upd H s.heap.objs.size (.lst (sgns z)), I.laid (t' := tk) hk (Nat.le_refl _) ⟨?_, acc'.toList, c', ?_, by rw [hS]⟩, rfl, q _ (I.hok.fresh (Nat.le_refl _))⟩
  · unfold sgns
    rw [List.length_map, Array.length_toList]
    exact hz
  · refine vals_get ?_ fun j x u h1 h2 => ?_
    · unfold sgns
      rw [List.length_map, Array.length_toList, Array.length_toList, hacc.1]
    · unfold sgns at h1
      rw [List.getElem?_map] at h1
      rw [Array.getElem?_toList] at h2
      obtain ⟨c, t', hc', rfl⟩ := hacc.2 j u h2
      rw [Array.getElem?_toList, hc'] at h1
      cases h1
      exact ⟨t', rfl⟩
/-! ### xs < ys -/
theorem firstLt_map (e r : Nat → Bool) (fin : Bool) : ∀ l : List Nat, SeqAt.firstLt e r fin (l.map (· + 1)) = SeqAt.firstLt (fun j => e (j + 1)) (fun j => r (j + 1)) fin l
  | [] => rfl
  | j :: l => by
    rw [List.map_cons]
    unfold SeqAt.firstLt
    rw [firstLt_map e r fin l]
theorem firstLt_lex : ∀ ns ms : List Int, SeqAt.firstLt (fun j => ns.getD j 0 == ms.getD j 0) (fun j => decide (ns.getD j 0 < ms.getD j 0)) (decide (ns.length < ms.length)) (List.range (min ns.length ms.length)) = HT.lexLt ns ms
  | [], [] => rfl
  | [], y :: ys => by simp [SeqAt.firstLt, HT.lexLt]
  | x :: xs, [] => by simp [SeqAt.firstLt, HT.lexLt]
  | x :: xs, y :: ys => by
    have ih := firstLt_lex xs ys
    have e : List.range (min (x :: xs).length (y :: ys).length) = 0 :: (List.range (min xs.length ys.length)).map (· + 1) := by
      rw [List.length_cons, List.length_cons, Nat.succ_min_succ, List.range_succ_eq_map]
    rw [e, HT.lexLt_cons]
    show (if (x == y) = true then _ else decide (x < y)) = _
    by_cases c : x = y
    · rw [if_pos (by simpa using c), if_pos c, firstLt_map, ← ih]
      simp
    · rw [if_neg (by simpa using c), if_neg c]
theorem ints_get : ∀ {ns : List Int} {us : List Value}, Vals (ns.map V.int) us → ∀ (j : Nat) u, us[j]? = some u → ∃ t, u = .int (ns.getD j 0) t
  | [], _, .nil, j, u, h => by simp at h
  | n :: ns, _, .cons ⟨t, e⟩ r, 0, u, h => by
    simp at h
    subst h e
    exact ⟨t, rfl⟩
  | n :: ns, _, .cons _ r, j + 1, u, h => by
    obtain ⟨t, e⟩ := ints_get r j u (by simpa using h)
    exact ⟨t, by simpa using e⟩
def rLtLI (K : PySem.W.Frag) : R2 := fun x y H Q => ∃ a b ns ms, x = .ref a ∧ y = .ref b ∧ SqL K H a (ns.map V.int) ∧ SqL K H b (ms.map V.int) ∧ Q (.bl (HT.lexLt ns ms)) H
theorem op_ltLI (hu : X.A.units < cLine) : OpR X (compareOp .Lt) (rLtLI X.K) := by
  intro pins s σ H x y v u Q I rx ry h
  obtain ⟨a, b, ns, ms, rfl, rfl, ha, hb, q⟩ := h
  cases rx
  cases ry
  obtain ⟨its, r1, p1, _⟩ := I.list ha
  obtain ⟨its2, r2, p2, _⟩ := I.list hb
  have l1 : its.toArray.size = ns.length := by have := r1.length; simp at this ⊢; omega
  have l2 : its2.toArray.size = ms.length := by have := r2.length; simp at this ⊢; omega
  have g1 : ∀ j (h : j < its.toArray.size), ∃ t, its.toArray[j] = .int (ns.getD j 0) t := fun j h => ints_get r1 j _ (by simpa using (List.getElem?_eq_getElem (by simpa using h)))
  have g2 : ∀ j (h : j < its2.toArray.size), ∃ t, its2.toArray[j] = .int (ms.getD j 0) t := fun j h => ints_get r2 j _ (by simpa using (List.getElem?_eq_getElem (by simpa using h)))
  refine SeqAt.RcLt.lists (e := fun j => ns.getD j 0 == ms.getD j 0) (r := fun j => decide (ns.getD j 0 < ms.getD j 0)) p1.isList p2.isList hu (fun j h1 h2 => ?_) (fun j h1 h2 _ => ?_) X.prog X.w _ _ ?_
  · obtain ⟨t, e1⟩ := g1 j h1
    obtain ⟨t', e2⟩ := g2 j h2
    rw [e1, e2]
    exact SeqAt.EqAt.int_int _ _ _ _
  · obtain ⟨t, e1⟩ := g1 j h1
    obtain ⟨t', e2⟩ := g2 j h2
    rw [e1, e2]
    exact fun prog w E Q h => HT.rcLt_int _ _ _ _ _ _ prog w E Q h
  · rw [l1, l2, firstLt_lex]
    exact ⟨.bl _, H, I, rfl, q⟩
/-! ### s * n -/
def repS (z : Str) (k : Nat) : Str := ⟨((List.replicate k z.cps.toList).flatten).toArray⟩
theorem fold_rep (z : Array Nat) : ∀ (k : Nat) (a : Array Nat), ((List.replicate k z).foldl (· ++ ·) a) = a ++ ((List.replicate k z.toList).flatten).toArray
  | 0, a => by simp
  | k + 1, a => by
    rw [List.replicate_succ, List.foldl_cons, fold_rep z k, List.replicate_succ, List.flatten_cons]
    refine Array.ext' ?_
    simp
def rMulS : R2 := fun x y H Q => ∃ (z : Str) (k : Nat), x = .str z ∧ y = .int (k : Nat) ∧ 2 ≤ k ∧ k ≤ 1000 ∧ 1 ≤ z.length ∧ z.length ≤ 1000 ∧ Q (.str (repS z k)) H
theorem op_mulS : OpR X (binaryOp .Mult) rMulS := by
  intro pins s σ H x y v u Q I rx ry h
  obtain ⟨z, k, rfl, rfl, k2, k1, z1, z2, q⟩ := h
  obtain ⟨t, rfl⟩ := rx
  obtain ⟨t', rfl⟩ := ry
  have n1 : ¬ ((k : Nat) : Int) < 1 := by omega
  have n2 : (((k : Nat) : Int) == 1 || z.length == 0) = false := by
    simp
    omega
  refine P.mul_str (by simp; omega) (fun _ _ => ?_) (fun _ _ => ?_) ?_
  · have hk : (9007199254740 : Int) ≤ (2 ^ 63 - 1) / ((k : Nat) : Int) := by
      refine (Int.le_ediv_iff_mul_le (by omega)).mpr ?_
      have : (9007199254740 : Int) * ((k : Nat) : Int) ≤ 9007199254740 * 1000 := Int.mul_le_mul_of_nonneg_left (by omega) (by decide)
      have e : (9007199254740 : Int) * 1000 ≤ 2 ^ 63 - 1 := by decide
      omega
    omega
  · rw [Int.toNat_natCast]
    have : z.length * k ≤ 1000 * 1000 := Nat.mul_le_mul z2 k1
    exact decide_eq_false (Nat.not_lt.mpr (Nat.le_trans this (by decide)))
  · rw [if_neg n1, if_neg (by rw [n2]; decide), Int.toNat_natCast, fold_rep]
    have e : (#[] ++ ((List.replicate k z.cps.toList).flatten).toArray : Array Nat) = ((List.replicate k z.cps.toList).flatten).toArray := by simp
    rw [e]
    refine ⟨?_, .str (repS z k), H, I.tok _, ⟨_, rfl⟩, q⟩
    show (((List.replicate k z.cps.toList).flatten).toArray).size ≤ sizeLine
    rw [List.size_toArray, List.length_flatten, List.map_replicate, List.sum_replicate_nat, Array.length_toList]
    have : k * z.length ≤ 1000 * 1000 := Nat.mul_le_mul k1 z2
    exact Nat.le_trans this (by decide)
/-! ### s[::-1] -/
def revS (z : Str) : Str := ⟨z.cps.toList.reverse.toArray⟩
def tRevS (te : TE) : TE := fun σ H Q => te σ H fun x H1 => ∃ z : Str, x = .str z ∧ z.length ≤ sizeLine ∧ Q (.str (revS z)) H1
theorem pick_rev (z : Str) : (Builtin.Str.strSliceIndices none none (-1) z.length).filterMap (z.cps[·]?) = z.cps.toList.reverse := by
  show (sliceRange ((z.cps.size : Int) - 1) (-1) (-1)).filterMap (z.cps[·]?) = _
  rw [PySem.W.krv_sliceRange, PySem.W.krv_range, List.filterMap_reverse, PySem.W.krv_all]
theorem pe_revS {e : Expr} {te : TE} {k : Nat} {p1 p2 p3 pos : Pos} (he : PE X e te) : PE X (.Subscript e (.Slice none none (some (.UnaryOp .USub (.Constant (.int 1) k p1) p2)) p3) pos) (tRevS te) := by
  refine ⟨fun pins s σ H Q I h => ?_⟩
  refine Subscript_ (thn (he.run pins s σ H _ I h) fun v s1 ⟨x, H1, I1, r1, q1⟩ => ?_)
  obtain ⟨z, ex, hz, q⟩ := q1
  subst ex
  obtain ⟨t, rfl⟩ := r1
  have hst : PO X (some (.UnaryOp .USub (.Constant (.int 1) k p1) p2)) (tPart (tUn (rU fun i => .int (-i)) (tC (.int 1)))) := po_some (pe_un un_neg pe_int)
  refine wpAny_Slice (thn (po_none.run pins s1 σ H1 (fun o H2 => o = none ∧ H2 = H1) I1 ⟨rfl, rfl⟩) fun vl s2 ⟨l, H2, I2, pl, el, e2⟩ => ?_)
  subst el e2
  refine thn (po_none.run pins s2 σ H2 (fun o H3 => o = none ∧ H3 = H2) I2 ⟨rfl, rfl⟩) fun vu s3 ⟨u, H3, I3, pu, eu, e3⟩ => ?_
  subst eu e3
  refine thn (hst.run pins s3 σ H3 (fun o H4 => o = some (-1) ∧ H4 = H3) I3 ⟨1, rfl, -1, rfl, rfl, rfl⟩) fun vs s4 ⟨o, H4, I4, ps, eo, e4⟩ => ?_
  subst eo e4
  have I5 : Inv X pins σ H4 { s4 with heap := s4.heap.push { cls := .type "slice", data := .fields #[vl, vu, vs] } } := I4.kept (t' := s4.toks) fun b ob q => Heap.get?_push_of_some _ q
  obtain ⟨l0, rfl, e0⟩ := IsPart.raw pl
  obtain ⟨u0, rfl, e1⟩ := IsPart.raw pu
  obtain ⟨v0, rfl, e2⟩ := IsPart.raw ps
  have l0n : l0 = none := by cases l0 with | none => rfl | some _ => cases e0
  have u0n : u0 = none := by cases u0 with | none => rfl | some _ => cases e1
  subst l0n u0n
  obtain ⟨tk, rfl⟩ : ∃ tk, v0 = some (-1, tk) := by
    cases v0 with
    | none => cases e2
    | some p =>
      obtain ⟨a, b⟩ := p
      have : a = -1 := Option.some.inj e2
      exact ⟨b, by rw [this]⟩
  show wpAny (model X.prog X.w) X.A (subscriptTail e (.Slice none none (some (.UnaryOp .USub (.Constant (.int 1) k p1) p2)) p3) (.str z t) (.ref s4.heap.objs.size)) (EP X pins σ Q) X.xe _
  refine tail_any (ops := [.str z t, .ref s4.heap.objs.size]) (typeIs_str _ z t) F.slot_str_getitem.lookup ?_ (by with_unfolding_all rfl)
  refine wpAny_getItem_str_slice (l := none) (u := none) (st := some (-1, tk)) ⟨_, Heap.get?_push_size _ rfl, rfl, rfl⟩ rfl ?_
  show Made.post (if ((-1 : Int) == 1 && (Builtin.Str.strSliceIndices none none (-1) z.length).length == z.length) = true then Made.val (.str z t) else Made.str ⟨((Builtin.Str.strSliceIndices none none (-1) z.length).filterMap (z.cps[·]?)).toArray⟩) _ _
  rw [if_neg (by simp), pick_rev]
  refine ⟨?_, .str (revS z), H4, I5.tok _, ⟨_, rfl⟩, q⟩
  show (z.cps.toList.reverse.toArray).size ≤ sizeLine
  rw [List.size_toArray, List.length_reverse, Array.length_toList]
  exact hz
/-! ### sep.join(s), s a text -/
theorem mt_joinS (hc : X.calm = true) : MtR X "str.join" (fun x xs H Q => ∃ a z : Str, x = .str a ∧ xs = [.str z] ∧ JoinOk a (PyProof.Rows.signs z) = true ∧ Q (.str (Txt.join a (PyProof.Rows.signs z))) H) := by
  intro pins s σ H x xs v us Q I rx rs h
  obtain ⟨a, z, rfl, rfl, ok, q⟩ := h
  obtain ⟨t, rfl⟩ := rx
  obtain ⟨u, rfl, ru⟩ := vals1 rs
  obtain ⟨t', rfl⟩ := ru
  exact SC.joinStr (I.ok.hd hc) ok fun h' k t2 hk => ⟨.str _, H, I.kept (t' := k) hk, ⟨t2, rfl⟩, q⟩
end
end L2
set_option Elab.async false
set_option linter.all false
set_option maxRecDepth 100001
set_option maxHeartbeats 3999999
namespace K61
open PySem L2
def topS (i : Nat) : Stmt := PySem.Challenge.pw_wordvault_k61_whole_tells_as_soon_as_it.main.body.getD i (.Pass ⟨0, 0, 0, 0⟩)
abbrev sWhole : Stmt := topS 5
abbrev sBetween : Stmt := topS 6
abbrev sPen : Stmt := topS 60
abbrev sDraw : Stmt := topS 61
/-! what kinds of values are met -/
inductive Kn (H : Hp) : V → Prop where
  | non : Kn H .non
  | bl (b : Bool) : Kn H (.bl b)
  | int (i : Int) : Kn H (.int i)
  | str (x : Str) : Kn H (.str x)
  | lst {a : Addr} {xs : List V} (e : H a = some (.lst xs)) : Kn H (.ref a)
  | tup {a : Addr} {xs : List V} (e : H a = some (.tup xs)) : Kn H (.ref a)
theorem Kn.same {H H2 : Hp} {v : V} (k : Kn H v) (s : Same H H2) : Kn H2 v := by
  cases k with
  | non => exact .non
  | bl b => exact .bl b
  | int i => exact .int i
  | str x => exact .str x
  | lst e => exact .lst (s _ _ e)
  | tup e => exact .tup (s _ _ e)
def isI : V → Bool
  | .int _ => true
  | _ => false
def isB : V → Bool
  | .bl _ => true
  | _ => false
def isT (H : Hp) : V → Bool
  | .ref a => match H a with
    | some (.tup _) => true
    | _ => false
  | _ => false
def isL (H : Hp) : V → Bool
  | .ref a => match H a with
    | some (.lst _) => true
    | _ => false
  | _ => false
theorem isT_lst {H : Hp} {a : Addr} {xs : List V} (e : H a = some (.lst xs)) : isT H (.ref a) = false := by simp only [isT, e]
theorem isT_tup {H : Hp} {a : Addr} {xs : List V} (e : H a = some (.tup xs)) : isT H (.ref a) = true := by simp only [isT, e]
theorem isL_lst {H : Hp} {a : Addr} {xs : List V} (e : H a = some (.lst xs)) : isL H (.ref a) = true := by simp only [isL, e]
theorem isL_tup {H : Hp} {a : Addr} {xs : List V} (e : H a = some (.tup xs)) : isL H (.ref a) = false := by simp only [isL, e]
def KT (K : PySem.W.Frag) (t : String) (bi bb bt bl : Bool) : Prop := PySem.W.kitOne K (.type t) (.type "int") = some bi ∧ PySem.W.kitOne K (.type t) (.type "bool") = some bb ∧
    PySem.W.kitOne K (.type t) (.type "tuple") = some bt ∧ PySem.W.kitOne K (.type t) (.type "list") = some bl ∧ PySem.W.kitOne K (.type t) (.type "dict") = some false
theorem kt_of {K : PySem.W.Frag} {t : String} {bi bb bt bl : Bool} (h : kitB t "int" = some bi ∧ kitB t "bool" = some bb ∧ kitB t "tuple" = some bt ∧ kitB t "list" = some bl ∧ kitB t "dict" = some false) : KT K t bi bb bt bl := h
theorem kt_non {K : PySem.W.Frag} : KT K "NoneType" false false false false := kt_of (by decide +kernel)
theorem kt_bl {K : PySem.W.Frag} : KT K "bool" true true false false := kt_of (by decide +kernel)
theorem kt_int {K : PySem.W.Frag} : KT K "int" true false false false := kt_of (by decide +kernel)
theorem kt_str {K : PySem.W.Frag} : KT K "str" false false false false := kt_of (by decide +kernel)
theorem kt_lst {K : PySem.W.Frag} : KT K "list" false false false true := kt_of (by decide +kernel)
theorem kt_tup {K : PySem.W.Frag} : KT K "tuple" false false true false := kt_of (by decide +kernel)
/-- a known value's type, and what isinstance says of it -/
theorem Kn.kinds (K : PySem.W.Frag) {H : Hp} {v : V} (k : Kn H v) : ∃ t : String, TyX K H v (.type t) ∧ KT K t (isI v || isB v) (isB v) (isT H v) (isL H v) := by
  cases k with
  | non => exact ⟨_, .base .non, kt_non⟩
  | bl b => exact ⟨_, .base (.bl b), kt_bl⟩
  | int i => exact ⟨_, .base (.int i), kt_int⟩
  | str x => exact ⟨_, .base (.str x), kt_str⟩
  | lst e =>
    rw [isT_lst e, isL_lst e]
    exact ⟨_, .base (.lst e), kt_lst⟩
  | tup e =>
    rw [isT_tup e, isL_tup e]
    exact ⟨_, .base (.tup e), kt_tup⟩
def spWhole : Sp := fun vs H Q _ => ∃ v, vs = [v] ∧ Kn H v ∧ Q (.bl (isI v)) H
def btw : V → Int → Int → Bool
  | .int i, lo, hi => decide (lo ≤ i ∧ i ≤ hi)
  | _, _, _ => false
def spBetween : Sp := fun vs H Q _ => ∃ v lo hi, vs = [v, .int lo, .int hi] ∧ Kn H v ∧ Q (.bl (btw v lo hi)) H
/-- how many items a known tuple has -/
def isTn (H : Hp) (v : V) (n : Int) : Bool := match v with
  | .ref a => match H a with
    | some (.tup xs) => decide ((xs.length : Int) = n)
    | _ => false
  | _ => false
def spTupOf : Sp := fun vs H Q _ => ∃ v n, vs = [v, .int n] ∧ Kn H v ∧ Q (.bl (isTn H v n)) H
section
variable {P : Program} {w : World} {K : PySem.W.Frag} {mg : Str → Option Value} {base : Heap}
/-- a def of the top that may be called by its name; CX: what it may let out -/
structure Cal (CX : CXT) (P : Program) (w : World) (K : PySem.W.Frag) (mg : Str → Option Value) (base : Heap) (k : Nat) (x : Str) (sp : Sp) : Prop where
  ex : ∃ (f : Addr) (fd : FuncData) (ps : List Str), FnOk P w K mg base CX k f fd ps sp ∧ mg x = some (.ref f) ∧ PySem.W.keepIn K (.ref f) = true ∧ Binds K fd ps []
/-- a method of the class at C -/
structure Met (CX : CXT) (P : Program) (w : World) (K : PySem.W.Frag) (mg : Str → Option Value) (base : Heap) (k : Nat) (C : Addr) (m : Str) (sp : Sp) : Prop where
  ex : ∃ (f : Addr) (fd : FuncData) (ps : List Str), Cls K C ∧ Meth K C m f ∧ FnOk P w K mg base CX k f fd ps sp ∧ Binds K fd ps []
/-- a class that may be made by its name -/
structure Mak (CX : CXT) (P : Program) (w : World) (K : PySem.W.Frag) (mg : Str → Option Value) (base : Heap) (k : Nat) (x : Str) (C : Addr) (sp : Sp) : Prop where
  ex : ∃ (f : Addr) (fd : FuncData) (ps : List Str), Mk K C f ∧ FnOk P w K mg base CX k f fd ps sp ∧ mg x = some (.ref C) ∧ Binds K fd ps []
section
variable {X : Cx} {CX : CXT} {k j : Nat} {C : Addr} {x m : Str} {sp : Sp} {p pos apos : Pos} {e o : Expr} {es : List Expr} {ta : TE} {t : TA} {E : XK}
theorem pe_c (c : Cal CX X.prog X.w X.K X.mg X.base k x sp) (hr : Room j X.A) (hx : Passes CX X E) (ha : PA X (e :: es) t) (hk : k ≤ j := by decide) (hg : Gl X x := by rfl) (hdb : (x == ("__debug__" : Str)) = false := by decide)
    (he : starEach (e :: es) X.env = (false, eval e X.env) :: starEach es X.env := by rfl) (hpl : (backTo pos (starEach es X.env)).any (·.1) = false := by rfl) : PE X (.Call (.Name x p) (e :: es) [] pos) (tCall sp [] E t) := by
  obtain ⟨f, fd, ps, F, hm, kp, b⟩ := c.ex
  exact pe_call F (hr.mono hk) hg hm kp b .nil hx ha hdb he hpl
theorem pe_mt (c : Met CX X.prog X.w X.K X.mg X.base k C m sp) (hr : Room j X.A) (hx : Passes CX X E) (he : PE X o ta) (ha : PA X (e :: es) t) (hk : k ≤ j := by decide) {pl : Sem Bool}
    (hst : starEach (e :: es) X.env = (false, eval e X.env) :: starEach es X.env := by rfl) (hpl : (backTo pos (starEach es X.env)).any (·.1) = false := by rfl)
    (hc : eval (.Call (.Attribute o m apos) (e :: es) [] pos) X.env = (do
      let ov ← eval o X.env
      standAt apos.atName
      let (f, first) ← holding [ov] (getMethod ov m pl)
      callWith pos f first (backTo pos (starEach (e :: es) X.env)) (backToKw pos (keywordEach [] X.env))) := by rfl) :
    PE X (.Call (.Attribute o m apos) (e :: es) [] pos) (tMeth C m sp [] E ta t) := by
  obtain ⟨f, fd, ps, cc, hm, F, b⟩ := c.ex
  exact pe_meth he cc hm F (hr.mono hk) b .nil hx ha hst hpl hc
theorem pe_mt0 (c : Met CX X.prog X.w X.K X.mg X.base k C m sp) (hr : Room j X.A) (hx : Passes CX X E) (he : PE X o ta) (hk : k ≤ j := by decide) {pl : Sem Bool}
    (hc : eval (.Call (.Attribute o m apos) [] [] pos) X.env = (do
      let ov ← eval o X.env
      standAt apos.atName
      let (f, first) ← holding [ov] (getMethod ov m pl)
      callWith pos f first (backTo pos (starEach [] X.env)) (backToKw pos (keywordEach [] X.env))) := by rfl) :
    PE X (.Call (.Attribute o m apos) [] [] pos) (tMeth C m sp [] E ta tNil) := by
  obtain ⟨f, fd, ps, cc, hm, F, b⟩ := c.ex
  exact pe_meth0 he cc hm F (hr.mono hk) b .nil hx hc
theorem pe_mk (c : Mak CX X.prog X.w X.K X.mg X.base k x C sp) (hr : Room j X.A) (hx : Passes CX X E) (ha : PA X (e :: es) t) (hk : k + 1 ≤ j := by decide) (hg : Gl X x := by rfl) (hdb : (x == ("__debug__" : Str)) = false := by decide)
    (he : starEach (e :: es) X.env = (false, eval e X.env) :: starEach es X.env := by rfl) (hpl : (backTo pos (starEach es X.env)).any (·.1) = false := by rfl) : PE X (.Call (.Name x p) (e :: es) [] pos) (tMake C sp [] E t) := by
  obtain ⟨f, fd, ps, M, F, hm, b⟩ := c.ex
  exact pe_make M F (hr.mono hk) hg hm b .nil hx ha hdb he hpl
end
/-- the built-in names that the module leaves as they are -/
structure Bi (mg : Str → Option Value) : Prop where
  isi : mg "isinstance" = none
  int : mg "int" = none
  bool : mg "bool" = none
  tuple : mg "tuple" = none
  list : mg "list" = none
  dict : mg "dict" = none
  len : mg "len" = none
  enum : mg "enumerate" = none
  range : mg "range" = none
  abs : mg "abs" = none
  max : mg "max" = none
  min : mg "min" = none
section
variable {X : Cx}
theorem pe_isi {a : Expr} {es : List Expr} {t : TA} {p pos : Pos} (hm : X.mg "isinstance" = none) (ha : PA X (a :: es) t) (hg : Gl X "isinstance" := by rfl)
    (he : starEach (a :: es) X.env = (false, eval a X.env) :: starEach es X.env := by rfl) (hpl : (backTo pos (starEach es X.env)).any (·.1) = false := by rfl) :
    PE X (.Call (.Name "isinstance" p) (a :: es) [] pos) (tCB (rIsi X.K) t) := pe_callB call_isi hg hm PyProof.Rows.boot_isinstance ha (he := he) (hpl := hpl)
theorem pe_ty (n : String) {x : Str} {p : Pos} (hm : X.mg x = none) (hv : bootBuiltins x = some (.type n) := by decide +kernel) (hg : Gl X x := by rfl) (h1 : x ≠ "__name__" := by decide) (h2 : (x == ("__debug__" : Str)) = false := by decide) : PE X (.Name x p) (tC (.ty n)) :=
  pe_bltn (v := .ty n) hg hm hv rfl h1 h2
theorem pe_len {a : Expr} {es : List Expr} {t : TA} {p pos : Pos} (hm : X.mg "len" = none) (ha : PA X (a :: es) t) (hg : Gl X "len" := by rfl) (he : starEach (a :: es) X.env = (false, eval a X.env) :: starEach es X.env := by rfl)
    (hpl : (backTo pos (starEach es X.env)).any (·.1) = false := by rfl) :
    PE X (.Call (.Name "len" p) (a :: es) [] pos) (tCB (fun xs H Q => ∃ p ys, xs = [.ref p] ∧ (SqL X.K H p ys ∨ SqT X.K H p ys) ∧ Q (.int ys.length) H) t) := pe_callB call_len_seq hg hm PySem.boot_len ha (he := he) (hpl := hpl)
theorem pa1 {a : Expr} {ta : TE} (ha : PE X a ta) (hs : starEach (a :: []) X.env = (false, eval a X.env) :: starEach [] X.env := by rfl) : PA X [a] (tCons ta tNil) := pa_cons ha pa_nil hs
end
theorem scWhole : FnScope ["value"] ["value"] (defScope sWhole) := ⟨rfl, rfl, rfl, by decide +kernel, rfl, by decide +kernel, by decide +kernel⟩
theorem ok_whole {f : Addr} {fd : FuncData} (F : Fun K "is_whole" "is_whole" sWhole f fd) (B : Bi mg) : FnOk P w K mg base CX0 1 f fd ["value"] spWhole := by
  refine F.ok scWhole (fun vs H Q E h => ?_) (fun cdv A outer s H vs Q E hr h => ?_)
  · obtain ⟨v, rfl, _⟩ := h
    rfl
  · obtain ⟨v, rfl, k, q⟩ := h
    refine ⟨_, pss_one (ps_ret (pe_and (pe_isi B.isi (pa_cons (pv 0) (pa_cons (pe_ty "int" B.int) pa_nil))) (pe_one (pe_not (pe_isi B.isi (pa_cons (pv 0) (pa_cons (pe_ty "bool" B.bool) pa_nil))))))), ?_⟩
    obtain ⟨t, ty, k1, k2, _⟩ := k.kinds K
    refine ⟨v, rfl, v, _, _, _, _, rfl, .ty "int", ty, k1, _, rfl, ?_⟩
    cases v with
    | bl b => exact ⟨_, rfl, _, _, _, _, _, rfl, .ty "bool", ty, k2, _, rfl, q⟩
    | int i => exact ⟨_, rfl, _, _, _, _, _, rfl, .ty "bool", ty, k2, _, rfl, q⟩
    | _ => exact q
theorem scBetween : FnScope ["value", "low", "high"] ["value", "low", "high"] (defScope sBetween) := ⟨rfl, rfl, rfl, by decide +kernel, rfl, by decide +kernel, by decide +kernel⟩
theorem ok_between {f : Addr} {fd : FuncData} (F : Fun K "is_between" "is_between" sBetween f fd) (cW : Cal CX0 P w K mg base 1 "is_whole" spWhole) : FnOk P w K mg base CX0 2 f fd ["value", "low", "high"] spBetween := by
  refine F.ok scBetween (fun vs H Q E h => ?_) (fun cdv A outer s H vs Q E hr h => ?_)
  · obtain ⟨v, lo, hi, rfl, _⟩ := h
    rfl
  · obtain ⟨v, lo, hi, rfl, k, q⟩ := h
    refine ⟨_, pss_one (ps_ret (pe_and (pe_c cW hr pass0 (pa_cons (pv 0) pa_nil)) (pe_one (pe_chain op_le op_le (pv 1) (pv 0) (pv 2))))), ?_⟩
    refine ⟨v, rfl, v, rfl, k, _, rfl, ?_⟩
    cases v with
    | int i =>
      refine ⟨_, rfl, _, rfl, _, _, rfl, rfl, _, rfl, ?_⟩
      by_cases c : lo ≤ i
      · rw [decide_eq_true c]
        refine ⟨_, rfl, _, _, rfl, rfl, ?_⟩
        have e : decide (i ≤ hi) = btw (.int i) lo hi := by
          show decide (i ≤ hi) = decide (lo ≤ i ∧ i ≤ hi)
          exact decide_eq_decide.mpr ⟨fun h => ⟨c, h⟩, fun h => h.2⟩
        show Q (.bl (decide (i ≤ hi))) H
        rw [e]
        exact q
      · rw [decide_eq_false c]
        have e : false = btw (.int i) lo hi := (decide_eq_false fun h => c h.1).symm
        show Q (.bl false) H
        rw [e]
        exact q
    | _ => exact q
end
theorem Same.seqT {K : PySem.W.Frag} {H H' : Hp} {a : Addr} {xs : List V} (e : Same H H') (h : SqT K H a xs) : SqT K H' a xs := by
  rcases h with (h | ⟨o, h⟩) | h
  · exact .inl (.inl (e _ _ h))
  · exact .inl (.inr ⟨o, e _ _ h⟩)
  · exact .inr h
theorem same_new {H : Hp} {p : Addr} {o : HO} (n : H p = none) : Same H (upd H p o) := fun b u e => by
  rw [upd_ne (ne_of_none e n)]
  exact e
/-- a list or a tuple of these items -/
def Sq (K : PySem.W.Frag) (H : Hp) (a : Addr) (xs : List V) : Prop := SqL K H a xs ∨ SqT K H a xs
theorem Sq.same {K : PySem.W.Frag} {H H' : Hp} {a : Addr} {xs : List V} (q : Sq K H a xs) (e : Same H H') : Sq K H' a xs := q.imp (fun h => e.seq h) fun h => Same.seqT e h
section
variable {X : Cx} {tg e : Expr} {w1 w2 : TI}
/-- a list or a tuple, item by item -/
def iSqS (K : PySem.W.Frag) (te : TE) : TI := fun σ H R => te σ H fun x H1 => ∃ a xs, x = .ref a ∧ Sq K H1 a xs ∧ ∀ (J : It) (G : Hp → Prop), Walk J xs.length G (YAt xs) → (∀ H', Same H1 H' → G H') → R J H1
open PySem.Spec PyProof.Rows in
theorem pi_sq {te : TE} (he : PE X e te) : PI X tg e (iSqS X.K te) := by
  constructor
  intro pins s σ H R I h
  refine thn (he.run pins s σ H _ I h) fun u s1 hh => ?_
  obtain ⟨v, H1, I1, r1, a, xs, ev, sq, k⟩ := hh
  subst ev
  cases r1
  have near : ∀ b ∈ [s1.heap.objs.size], FpOk X pins H1 b := fun b hb => by
    rw [List.mem_singleton.mp hb]
    exact I1.fpOk (Nat.le_refl _) (I1.hok.fresh (Nat.le_refl _))
  have J1 : ∀ o : Obj, Inv X pins σ H1 { s1 with heap := s1.heap.push o } := fun o => I1.kept (t' := s1.toks) fun b u z => Heap.get?_push_of_some _ z
  rcases sq with hq | hq
  · obtain ⟨its, rv, p1, hz⟩ := I1.list hq
    exact wpAny_pyIter_list p1.isList ⟨s1.heap.objs.size, _, _, _, H1, rfl, J1 _, turn_list a _, ⟨_, Heap.get?_push_size _ rfl, rfl, rfl⟩, near, k _ _ walk_list fun H' z => z.seq hq⟩
  · obtain ⟨its, rv, p2, hz⟩ := I1.tuple hq
    exact wpAny_pyIter_tuple (show s1.heap.IsTuple a its.toArray from p2) ⟨s1.heap.objs.size, _, _, _, H1, rfl, J1 _, turn_tuple a _, ⟨_, Heap.get?_push_size _ rfl, rfl, rfl⟩, near, k _ _ walk_tup fun H' z => Same.seqT z hq⟩
end
/-! ### None or an int -/
def Num (v : V) : Prop := v = .non ∨ ∃ i, v = .int i
def dOf : V → PyData
  | .int i => .int i
  | .bl b => .bool b
  | .str x => .str x
  | _ => .none
theorem eqv_num {a b : V} (ha : Num a) (hb : Num b) : PyData.eqv (dOf a) (dOf b) = decide (a = b) := by
  rcases ha with rfl | ⟨i, rfl⟩ <;> rcases hb with rfl | ⟨j, rfl⟩
  · simp [dOf, PyData.eqv]
  · simp [dOf, PyData.eqv]
  · simp [dOf, PyData.eqv]
  · rw [dec_int]
    simp [dOf, PyData.eqv]
theorem eqvAll_num : ∀ {xs ys : List V}, (∀ v ∈ xs, Num v) → (∀ v ∈ ys, Num v) → PyData.eqvAll (xs.map dOf) (ys.map dOf) = decide (xs = ys)
  | [], [], _, _ => by simp [PyData.eqvAll]
  | [], _ :: _, _, _ => by simp [PyData.eqvAll]
  | _ :: _, [], _, _ => by simp [PyData.eqvAll]
  | x :: xs, y :: ys, hx, hy => by
    have ih := eqvAll_num (fun v m => hx v (List.mem_cons_of_mem _ m)) fun v m => hy v (List.mem_cons_of_mem _ m)
    have e : PyData.eqvAll ((x :: xs).map dOf) ((y :: ys).map dOf) = (PyData.eqv (dOf x) (dOf y) && PyData.eqvAll (xs.map dOf) (ys.map dOf)) := by simp only [List.map_cons, PyData.eqvAll]
    rw [e, ih, eqv_num (hx x List.mem_cons_self) (hy y List.mem_cons_self)]
    by_cases h1 : x = y
    · by_cases h2 : xs = ys
      · simp [h1, h2]
      · simp [h1, h2]
    · simp [h1]
theorem dp_num {K : PySem.W.Frag} {H : Hp} {v : V} (h : Num v) : Dp K H v (dOf v) := by
  rcases h with rfl | ⟨i, rfl⟩
  · exact .non
  · exact .int i
theorem dpAll_num {K : PySem.W.Frag} {H : Hp} : ∀ {xs : List V}, (∀ v ∈ xs, Num v) → DpAll K H xs (xs.map dOf)
  | [], _ => .nil
  | x :: xs, h => .cons (dp_num (h x List.mem_cons_self)) (dpAll_num fun v m => h v (List.mem_cons_of_mem _ m))
theorem lay_num : ∀ {xs : List V}, (∀ v ∈ xs, Num v) → PyData.canLayAll0 (xs.map dOf) = true
  | [], _ => by simp [PyData.canLayAll0]
  | x :: xs, h => by
    have ih := lay_num fun v m => h v (List.mem_cons_of_mem x m)
    rw [List.map_cons, PyData.canLayAll0, ih, Bool.and_true]
    rcases h x List.mem_cons_self with rfl | ⟨i, rfl⟩ <;> simp [dOf, PyData.canLay0]
theorem depth_num : ∀ {xs : List V}, (∀ v ∈ xs, Num v) → PyData.depthAll (xs.map dOf) ≤ 1
  | [], _ => by simp [PyData.depthAll]
  | x :: xs, h => by
    have ih := depth_num fun v m => h v (List.mem_cons_of_mem x m)
    simp only [List.map_cons, PyData.depthAll]
    rcases h x List.mem_cons_self with rfl | ⟨i, rfl⟩ <;> simp only [dOf, PyData.depth] <;> omega
theorem shL_num {xs : List V} (h : ∀ v ∈ xs, Num v) : SeqAt.shaped (.list (xs.map dOf)) = true := by
  have h1 := lay_num h
  have h2 := depth_num h
  show (PyData.canLay0 (.list (xs.map dOf)) && decide (PyData.depth (.list (xs.map dOf)) ≤ 64)) = true
  rw [Bool.and_eq_true]
  refine ⟨by simp only [PyData.canLay0]; exact h1, decide_eq_true ?_⟩
  simp only [PyData.depth]
  omega
theorem shT_num {xs : List V} (h : ∀ v ∈ xs, Num v) : SeqAt.shaped (.tuple (xs.map dOf)) = true := by
  have h1 := lay_num h
  have h2 := depth_num h
  show (PyData.canLay0 (.tuple (xs.map dOf)) && decide (PyData.depth (.tuple (xs.map dOf)) ≤ 64)) = true
  rw [Bool.and_eq_true]
  refine ⟨by simp only [PyData.canLay0]; exact h1, decide_eq_true ?_⟩
  simp only [PyData.depth]
  omega
/-- two lists, or two tuples, of None and ints -/
def rEqN (K : PySem.W.Frag) (neg : Bool) : R2 := fun x y H Q => ∃ a b xs ys, x = .ref a ∧ y = .ref b ∧ ((SqL K H a xs ∧ SqL K H b ys) ∨ (SqT K H a xs ∧ SqT K H b ys)) ∧ (∀ v ∈ xs, Num v) ∧ (∀ v ∈ ys, Num v) ∧ Q (.bl (if neg then !decide (xs = ys) else decide (xs = ys))) H
section
variable {X : Cx}
theorem op_eqN (hu : X.A.units + 64 < cLine) : OpR X (compareOp .Eq) (rEqN X.K false) := by
  intro pins s σ H x y v u Q I rx ry h
  obtain ⟨a, b, xs, ys, rfl, rfl, d, nx, ny, q⟩ := h
  rcases d with ⟨d1, d2⟩ | ⟨d1, d2⟩
  · refine op_eqD hu pins s σ H _ _ v u Q I rx ry ⟨.list (xs.map dOf), .list (ys.map dOf), .lst d1 (dpAll_num nx), .lst d2 (dpAll_num ny), shL_num nx, shL_num ny, ?_⟩
    rw [show PyData.eqv (.list (xs.map dOf)) (.list (ys.map dOf)) = decide (xs = ys) by rw [← eqvAll_num nx ny]; simp only [PyData.eqv]]
    exact q
  · refine op_eqD hu pins s σ H _ _ v u Q I rx ry ⟨.tuple (xs.map dOf), .tuple (ys.map dOf), .tup d1 (dpAll_num nx), .tup d2 (dpAll_num ny), shT_num nx, shT_num ny, ?_⟩
    rw [show PyData.eqv (.tuple (xs.map dOf)) (.tuple (ys.map dOf)) = decide (xs = ys) by rw [← eqvAll_num nx ny]; simp only [PyData.eqv]]
    exact q
theorem op_neN (hu : X.A.units + 64 < cLine) : OpR X (compareOp .NotEq) (rEqN X.K true) := by
  intro pins s σ H x y v u Q I rx ry h
  obtain ⟨a, b, xs, ys, rfl, rfl, d, nx, ny, q⟩ := h
  rcases d with ⟨d1, d2⟩ | ⟨d1, d2⟩
  · refine op_neD hu pins s σ H _ _ v u Q I rx ry ⟨.list (xs.map dOf), .list (ys.map dOf), .lst d1 (dpAll_num nx), .lst d2 (dpAll_num ny), shL_num nx, shL_num ny, ?_⟩
    rw [show PyData.eqv (.list (xs.map dOf)) (.list (ys.map dOf)) = decide (xs = ys) by rw [← eqvAll_num nx ny]; simp only [PyData.eqv]]
    exact q
  · refine op_neD hu pins s σ H _ _ v u Q I rx ry ⟨.tuple (xs.map dOf), .tuple (ys.map dOf), .tup d1 (dpAll_num nx), .tup d2 (dpAll_num ny), shT_num nx, shT_num ny, ?_⟩
    rw [show PyData.eqv (.tuple (xs.map dOf)) (.tuple (ys.map dOf)) = decide (xs = ys) by rw [← eqvAll_num nx ny]; simp only [PyData.eqv]]
    exact q
/-- x == y, x an instance of the class at C with an own __eq__ -/
def rOwnEq (K : PySem.W.Frag) (C : Addr) (sp : Sp) : R2 := fun x y H Q => ∃ a dx fs tb, x = .ref a ∧ H a = some (.ins C dx fs) ∧ TyX K H y tb ∧ PySem.W.notFirst K C tb = true ∧ sp [x, y] H (fun v H' => (∃ b, v = .bl b) ∧ Q v H') E0
theorem op_ownEq {CX : CXT} {n j : Nat} {C f : Addr} {fd : FuncData} {ps : List Str} {sp : Sp} (F : FnOk X.prog X.w X.K X.mg X.base CX n f fd ps sp) (hs : PySem.W.findIn X.K (.ref C) "__eq__" = some (some (.ref f))) (hf : PySem.W.isFn X.K (.ref f) = true) (hb : Binds X.K fd ps [])
    (hx : Passes CX X E0) (hr : Room j X.A) (hj : n ≤ j) : OpR X (compareOp .Eq) (rOwnEq X.K C sp) := by
  intro pins s σ H x y v u Q I rx ry h
  obtain ⟨a, dx, fs, tb, rfl, ha, ty, nf, h⟩ := h
  have hr := hr.mono hj
  cases (show v = Value.ref a from rx)
  obtain ⟨mA, J, _⟩ := ins_get I.hok ha
  obtain ⟨od, J, _⟩ := J.look
  obtain ⟨Pz, Z, p, _⟩ := kit_of I ry ty
  obtain ⟨m, hF⟩ := I.fr
  show wpAny (model X.prog X.w) X.A (richCompare .Eq (.ref a) u) (EP X pins σ Q) X.xe s
  have hu : X.A.units < cLine := by have := hr.un; omega
  refine PySem.W.cmp_K (op := .Eq) (tb := tb) hu hF I.ok.mod.kin J (Z.ty _ _ I.kIn p) nf hs hf ?_
  have hl := F.len _ _ _ _ h
  have r2 : Vals [V.ref a, y] [Value.ref a, u] := .cons rfl (.cons ry .nil)
  refine wpAny_call (codeAny_mono (F.run X.A X.stack s H ⟨[.ref a, u], []⟩ [.ref a, u] [.ref a, y] _ E0 hr I.env0 (by
    have := hb s [.ref a, u] I.kIn (by simpa using hl)
    simpa using this) r2 h) fun r s' hq => ?_)
  cases r with
  | error e => exact hx pins σ H s e s' I hq
  | ok fl =>
    cases fl with
    | ret w =>
      obtain ⟨z, H', I', rz, ⟨b, ez⟩, q⟩ := I.after hq
      subst ez
      cases rz
      exact ⟨.bl b, H', I', rfl, q⟩
    | next => exact False.elim hq
    | brk => exact False.elim hq
    | cont => exact False.elim hq
end
theorem kit_self {K : PySem.W.Frag} {C : Addr} : PySem.W.kitOne K (.ref C) (.ref C) = some true := by
  unfold PySem.W.kitOne
  rw [if_pos (by simp)]

theorem hu64 {A : Around} {k : Nat} (hr : Room k A) : A.units + 64 < cLine := by have := hr.un; omega
theorem hu65 {A : Around} {k : Nat} (hr : Room k A) : A.units + 65 < cLine := by have := hr.un; omega
theorem small2000 {n : Nat} (h : n ≤ 2100) : n < sizeLine := Nat.lt_of_le_of_lt h (by decide)
theorem small10 {n : Nat} (h : n ≤ 10000) : n < sizeLine := Nat.lt_of_le_of_lt h (by decide)
theorem num_kn {H : Hp} {v : V} (h : Num v) : Kn H v := by
  rcases h with rfl | ⟨i, rfl⟩
  · exact .non
  · exact .int i

section
variable {X : Cx} (K : PySem.W.Frag)
theorem pe_fldK (hK : X.K = K) {e : Expr} {ta : TE} {f : Str} {pos : Pos} (he : PE X e ta) (hb : attributeBase e f X.env (eval e X.env) = eval e X.env := by rfl) : PE X (.Attribute e f pos) (tFld K ta f) := by
  subst hK
  exact pe_fld he hb
theorem ix_tupK (hK : X.K = K) : IxR X (rIxT K) := by
  subst hK
  exact ix_tup
theorem ix_listK (hK : X.K = K) : IxR X (rIxL K) := by
  subst hK
  exact ix_list
end

theorem paired_last {α β : Type} {F : α → β → Prop} : ∀ {ts : List α} {ps : List β} {p : β}, Paired F ts (ps ++ [p]) → ∃ us v, ts = us ++ [v] ∧ Paired F us ps ∧ F v p
  | _, [], _, .cons h .nil => ⟨[], _, rfl, .nil, h⟩
  | _, _ :: _, _, .cons h t =>
    let ⟨us, v, e, q1, q2⟩ := paired_last t
    ⟨_ :: us, v, by rw [e]; rfl, .cons h q1, q2⟩
section
variable {X : Cx} {tg e : Expr}
/-- a list or a tuple, item by item; it stays where its own object does -/
def iSqA (K : PySem.W.Frag) (te : TE) : TI := fun σ H R => te σ H fun x H1 => ∃ a xs, x = .ref a ∧ Sq K H1 a xs ∧ ∀ (J : It) (G : Hp → Prop), Walk J xs.length G (YAt xs) → (∀ H', (∀ o, H1 a = some o → H' a = some o) → G H') → R J H1
theorem sqL_at {K : PySem.W.Frag} {H H' : Hp} {a : Addr} {xs : List V} (h : SqL K H a xs) (e : ∀ o, H a = some o → H' a = some o) : SqL K H' a xs := by
  rcases h with (h | ⟨o, h⟩) | h
  · exact .inl (.inl (e _ h))
  · exact .inl (.inr ⟨o, e _ h⟩)
  · exact .inr h
theorem sqT_at {K : PySem.W.Frag} {H H' : Hp} {a : Addr} {xs : List V} (h : SqT K H a xs) (e : ∀ o, H a = some o → H' a = some o) : SqT K H' a xs := by
  rcases h with (h | ⟨o, h⟩) | h
  · exact .inl (.inl (e _ h))
  · exact .inl (.inr ⟨o, e _ h⟩)
  · exact .inr h
open PySem.Spec PyProof.Rows in
theorem pi_sqA {te : TE} (he : PE X e te) : PI X tg e (iSqA X.K te) := by
  constructor
  intro pins s σ H R I h
  refine thn (he.run pins s σ H _ I h) fun u s1 hh => ?_
  obtain ⟨v, H1, I1, r1, a, xs, ev, sq, k⟩ := hh
  subst ev
  cases r1
  have near : ∀ b ∈ [s1.heap.objs.size], FpOk X pins H1 b := fun b hb => by
    rw [List.mem_singleton.mp hb]
    exact I1.fpOk (Nat.le_refl _) (I1.hok.fresh (Nat.le_refl _))
  have J1 : ∀ o : Obj, Inv X pins σ H1 { s1 with heap := s1.heap.push o } := fun o => I1.kept (t' := s1.toks) fun b u z => Heap.get?_push_of_some _ z
  rcases sq with hq | hq
  · obtain ⟨its, rv, p1, hz⟩ := I1.list hq
    exact wpAny_pyIter_list p1.isList ⟨s1.heap.objs.size, _, _, _, H1, rfl, J1 _, turn_list a _, ⟨_, Heap.get?_push_size _ rfl, rfl, rfl⟩, near, k _ _ walk_list fun H' z => sqL_at hq z⟩
  · obtain ⟨its, rv, p2, hz⟩ := I1.tuple hq
    exact wpAny_pyIter_tuple (show s1.heap.IsTuple a its.toArray from p2) ⟨s1.heap.objs.size, _, _, _, H1, rfl, J1 _, turn_tuple a _, ⟨_, Heap.get?_push_size _ rfl, rfl, rfl⟩, near, k _ _ walk_tup fun H' z => sqT_at hq z⟩
end

/-! ### the law's pen -/
def penK (cl : Addr) (k left : Int) : List (Key × V) := [(.inr "cells", .ref cl), (.inr "next", .int k), (.inr "left", .int left)]
theorem valV_eq {k : Key} {v : V} {r : List (Key × V)} : valV ((k, v) :: r) k = some v := by
  unfold valV
  rw [List.find?_cons_of_pos (by simp)]
  rfl
theorem valV_ne {k j : Key} {v : V} {r : List (Key × V)} (h : ¬ j = k) : valV ((j, v) :: r) k = valV r k := by
  unfold valV
  rw [List.find?_cons_of_neg (by simpa using h)]
theorem k12 : ¬ (Sum.inr ("cells" : Str) : Key) = Sum.inr ("next" : Str) := by decide +kernel
theorem k13 : ¬ (Sum.inr ("cells" : Str) : Key) = Sum.inr ("left" : Str) := by decide +kernel
theorem k23 : ¬ (Sum.inr ("next" : Str) : Key) = Sum.inr ("left" : Str) := by decide +kernel
theorem k32 : ¬ (Sum.inr ("left" : Str) : Key) = Sum.inr ("next" : Str) := by decide +kernel
theorem pen_cells (cl : Addr) (k l : Int) : valV (penK cl k l) (.inr "cells") = some (.ref cl) := valV_eq
theorem pen_opened (cl : Addr) (k l : Int) : valV (penK cl k l) (.inr "next") = some (.int k) := (valV_ne k12).trans valV_eq
theorem pen_left (cl : Addr) (k l : Int) : valV (penK cl k l) (.inr "left") = some (.int l) := (valV_ne k13).trans ((valV_ne k23).trans valV_eq)
theorem put_opened (cl : Addr) (k l j : Int) : putK (penK cl k l) (.inr "next") (.int j) = penK cl j l := by
  unfold putK penK
  rw [if_pos (by simp)]
  simp only [List.map_cons, List.map_nil, k12, k32, if_false, if_true]
theorem put_left (cl : Addr) (k l j : Int) : putK (penK cl k l) (.inr "left") (.int j) = penK cl k j := by
  unfold putK penK
  rw [if_pos (by simp)]
  simp only [List.map_cons, List.map_nil, k13, k23, if_false, if_true]
/-- at pn: the pen, at most b cells opened -/
def Pen (H : Hp) (pn cl : Addr) (b : Nat) : Prop := ∃ (k : Nat) (l : Int) (cs : List Int), H pn = some (.dK (penK cl (k : Nat) l)) ∧ H cl = some (.lst (cs.map V.int)) ∧ k ≤ b ∧ cs.length ≤ 63
/-- all but what is at pn is as it was -/
def But (pn : Addr) (H H' : Hp) : Prop := ∀ b o, b ≠ pn → H b = some o → H' b = some o
theorem But.refl {pn : Addr} {H : Hp} : But pn H H := fun _ _ _ h => h
theorem But.trans {pn : Addr} {H H1 H2 : Hp} (a : But pn H H1) (b : But pn H1 H2) : But pn H H2 := fun c o n h => b c o n (a c o n h)
def spDraw : Sp := fun vs H Q _ => ∃ (pn cl : Addr) (m : Int) (b : Nat), vs = [.ref pn, .int m] ∧ Pen H pn cl b ∧ b ≤ 1000000 ∧ 0 < m ∧ m < 1073741824 ∧ ∀ (r : Int) H', 0 ≤ r → r < m → But pn H H' → Pen H' pn cl (b + 1) → Q (.int r) H'
def spPen (K : PySem.W.Frag) : Sp := fun vs H Q _ => ∃ (a : Addr) (ns : List Int), vs = [.ref a] ∧ SqL K H a (ns.map V.int) ∧ ∀ pn cl H', H pn = none → H cl = none → Same H H' → Pen H' pn cl 0 → Q (.ref pn) H'
section
variable {P : Program} {w : World} {K : PySem.W.Frag} {mg : Str → Option Value} {base : Heap}
theorem scPen : FnScope ["_law_script"] ["_law_script"] (defScope sPen) := ⟨rfl, rfl, rfl, by decide +kernel, rfl, by decide +kernel, by decide +kernel⟩
theorem ok_pen {f : Addr} {fd : FuncData} (F : Fun K "_law_pen_of" "_law_pen_of" sPen f fd) (B : Bi mg) : FnOk P w K mg base CX0 1 f fd ["_law_script"] (spPen K) := by
  refine F.ok scPen (fun vs H Q E h => ?_) (fun cdv A outer s H vs Q E hr h => ?_)
  · obtain ⟨a, ns, rfl, _⟩ := h
    rfl
  · obtain ⟨a, ns, rfl, hs, q⟩ := h
    refine ⟨_, pss_one (ps_ret (pe_disp (pps_cons pe_str (pe_callTy call_list_of rfl B.list (by decide +kernel) (pa_cons (pe_slice sl_list (pv 0) po_none (po_some pe_int)) pa_nil)) (pps_cons pe_str pe_int (pps_cons pe_str pe_int pps_nil))) rfl rfl (by simp) (by decide))), ?_⟩
    intro p np
    have hs2 := (same_new (o := .dK []) np).seq hs
    refine ⟨_, rfl, 63, rfl, a, _, rfl, hs2, fun c nc => ⟨c, _, rfl, .inl (SqL.of upd_same), fun l nl => ?_⟩⟩
    have npl : p ≠ l := ne_of_none ((upd_ne (ne_of_none upd_same nc)).trans upd_same) nl
    have npc : p ≠ c := ne_of_none upd_same nc
    have ec : cutV (ns.map V.int) none (some 63) = (ns.take 63).map V.int := by
      unfold cutV
      rw [show ((63 : Int)) = ((63 : Nat) : Int) from rfl, HT.sIx_nat, HT.sIx_none, List.drop_zero, Nat.sub_zero, List.length_map, ← List.map_take]
      congr 1
      by_cases c : 63 ≤ ns.length
      · rw [Nat.min_eq_left c]
      · rw [Nat.min_eq_right (by omega), List.take_of_length_le (Nat.le_refl _), List.take_of_length_le (by omega)]
    refine ⟨(upd_ne npl).trans ((upd_ne npc).trans upd_same), [(.inr "cells", .ref l), (.inr "next", .int 0), (.inr "left", .int 0)], rfl, (by show 3 ≤ 15; decide), ?_⟩
    have em : mergeK [] [((.inr ("cells" : Str) : Key), V.ref l), (.inr ("next" : Str), .int 0), (.inr ("left" : Str), .int 0)] = penK l ((0 : Nat) : Int) 0 := by
      unfold mergeK penK
      simp only [List.foldl_cons, List.foldl_nil]
      have h1 : valV ([(.inr ("cells" : Str), V.ref l)] : List (Key × V)) (.inr ("next" : Str)) = none := (valV_ne k12).trans rfl
      have h2 : valV ([(.inr ("cells" : Str), V.ref l), (.inr ("next" : Str), V.int 0)] : List (Key × V)) (.inr ("left" : Str)) = none := (valV_ne k13).trans ((valV_ne k23).trans rfl)
      rw [show putK ([] : List (Key × V)) (.inr ("cells" : Str)) (.ref l) = [(.inr ("cells" : Str), .ref l)] from rfl, putK_new _ h1]
      simp only [List.cons_append, List.nil_append]
      rw [putK_new _ h2]
      rfl
    rw [em]
    have nl0 : H l = none := by
      cases z : H l with
      | none => rfl
      | some o =>
        have z1 : upd H p (.dK []) l = some o := (upd_ne (ne_of_none z np)).trans z
        rw [(upd_ne (ne_of_none z1 nc)).trans z1] at nl
        cases nl
    refine q p l _ np nl0 (fun b o z => ?_) ⟨0, 0, ns.take 63, upd_same, ?_, Nat.le_refl _, by rw [List.length_take]; omega⟩
    · have nb : b ≠ p := ne_of_none z np
      have z1 : upd H p (.dK []) b = some o := (upd_ne nb).trans z
      have nc2 : b ≠ c := ne_of_none z1 nc
      have z2 : upd (upd H p (.dK [])) c (.lst (cutV (ns.map V.int) none (some 63))) b = some o := (upd_ne nc2).trans z1
      rw [upd_ne nb, upd_ne (ne_of_none z2 nl)]
      exact z2
    · rw [upd_ne (Ne.symm npl), upd_same, ec]
theorem getL {H : Hp} {pn cl : Addr} {k l : Int} (hp : H pn = some (.dK (penK cl k l))) : DGet H pn (.str "left") (some (.int l)) := by
  have z := DGet.k (k := .inr ("left" : Str)) hp
  rw [pen_left] at z
  exact z
theorem getO {H : Hp} {pn cl : Addr} {k l : Int} (hp : H pn = some (.dK (penK cl k l))) : DGet H pn (.str "next") (some (.int k)) := by
  have z := DGet.k (k := .inr ("next" : Str)) hp
  rw [pen_opened] at z
  exact z
theorem getC {H : Hp} {pn cl : Addr} {k l : Int} (hp : H pn = some (.dK (penK cl k l))) : DGet H pn (.str "cells") (some (.ref cl)) := by
  have z := DGet.k (k := .inr ("cells" : Str)) hp
  rw [pen_cells] at z
  exact z
theorem putL {H : Hp} {pn cl : Addr} {k l : Int} (j : Int) (hp : H pn = some (.dK (penK cl k l))) : DPut H pn (.str "left") (.int j) (upd H pn (.dK (penK cl k j))) := by
  have z := DPut.k (k := .inr ("left" : Str)) (v := .int j) hp (by show 3 < sizeLine; decide)
  rw [put_left] at z
  exact z
theorem putO' {H : Hp} {pn cl : Addr} {k l : Int} (j : Int) (hp : H pn = some (.dK (penK cl k l))) : DPut H pn (.str "next") (.int j) (upd H pn (.dK (penK cl j l))) := by
  have z := DPut.k (k := .inr ("next" : Str)) (v := .int j) hp (by show 3 < sizeLine; decide)
  rw [put_opened] at z
  exact z
theorem scDraw : FnScope ["_law_pen", "_law_many", "_law_digit", "_law_index", "_law_size", "_law_cell", "_law_mixed"] ["_law_pen", "_law_many"] (defScope sDraw) := ⟨rfl, rfl, rfl, by decide +kernel, rfl, by decide +kernel, by decide +kernel⟩
theorem mix_lt (x : Int) {m : Int} (h : 0 < m) : 0 ≤ x % m ∧ x % m < m := ⟨Int.emod_nonneg _ (by omega), Int.emod_lt_of_pos _ h⟩
section
variable {X : Cx}
theorem pe_int1 {a : Expr} {es : List Expr} {t : TA} {p pos : Pos} (hm : X.mg "int" = none) (ha : PA X (a :: es) t) (hg : Gl X "int" := by rfl) (he : starEach (a :: es) X.env = (false, eval a X.env) :: starEach es X.env := by rfl)
    (hpl : (backTo pos (starEach es X.env)).any (·.1) = false := by rfl) : PE X (.Call (.Name "int" p) (a :: es) [] pos) (tCB (fun xs H Q => (∃ i, xs = [.int i] ∧ Q (.int i) H) ∨ ∃ k, xs = [.bl k] ∧ Q (.int (if k then 1 else 0)) H) t) :=
  pe_callTy call_int1 hg hm (by decide +kernel) ha (he := he) (hpl := hpl)
theorem pe_abs {a : Expr} {es : List Expr} {t : TA} {p pos : Pos} (hm : X.mg "abs" = none) (ha : PA X (a :: es) t) (hg : Gl X "abs" := by rfl) (he : starEach (a :: es) X.env = (false, eval a X.env) :: starEach es X.env := by rfl)
    (hpl : (backTo pos (starEach es X.env)).any (·.1) = false := by rfl) : PE X (.Call (.Name "abs" p) (a :: es) [] pos) (tCB (fun xs H Q => ∃ i, xs = [.int i] ∧ Q (.int (if i < 0 then -i else i)) H) t) :=
  pe_callB call_abs hg hm (by decide +kernel) ha (he := he) (hpl := hpl)
end
theorem ok_draw {f : Addr} {fd : FuncData} (F : Fun K "_law_draw" "_law_draw" sDraw f fd) (B : Bi mg) : FnOk P w K mg base CX0 1 f fd ["_law_pen", "_law_many"] spDraw := by
  refine F.ok scDraw (fun vs H Q E h => ?_) (fun cdv A outer s H vs Q E hr h => ?_)
  · obtain ⟨pn, cl, m, b, rfl, _⟩ := h
    rfl
  · obtain ⟨pn, cl, m, b, rfl, ⟨k, l, cs, hp, hc, hk, lc⟩, hb, m0, m1, q⟩ := h
    refine ⟨_, pss_cons (ps_if (pt_cmpR op_gt (pe_dget (hu_of hr) (pv 0) pe_str (fun _ _ => rfl)) pe_int (nomark _))
        (pss_cons (ps_set (i := 2) scDraw.nd rfl (Or.inl rfl) (pe_op op_mod (pe_int1 B.int (pa_cons (pe_dget (hu_of hr) (pv 0) pe_str (fun _ _ => rfl)) pa_nil)) (pv 1)))
        (pss_cons (ps_dput (hu_of hr) (pv 0) pe_str (pe_op op_fdiv (pe_dget (hu_of hr) (pv 0) pe_str (fun _ _ => rfl)) (pv 1)) rfl) (pss_one (ps_ret (pv 2))))) pss_nil)
      (pss_cons (ps_par (i := 3) (j := 4) rfl scDraw.nd rfl rfl (by decide) rfl rfl (pa_cons (pe_dget (hu_of hr) (pv 0) pe_str (fun _ _ => rfl)) (pa_cons (pe_len B.len (pa_cons (pe_dget (hu_of hr) (pv 0) pe_str (fun _ _ => rfl)) pa_nil)) pa_nil)) rfl)
      (pss_cons (ps_dput (hu_of hr) (pv 0) pe_str (pe_op op_add (pv 3) pe_int) rfl)
      (pss_cons (ps_if (pt_cmpR op_eq (pv 4) pe_int (nomark _)) (pss_one (ps_ret (pe_op op_mod (pe_int1 B.int (pa_cons (pe_op op_add (pe_op op_mul pe_int (pv 3)) pe_int) pa_nil)) (pv 1)))) pss_nil)
      (pss_cons (ps_set (i := 5) scDraw.nd rfl (Or.inl rfl) (pe_ix ix_list (pe_dget (hu_of hr) (pv 0) pe_str (fun _ _ => rfl)) (pe_op op_mod (pe_int1 B.int (pa_cons (pv 3) pa_nil)) (pv 4)) (fun _ _ => rfl)))
      (pss_cons (ps_if (PW.pt (pw_and (pt_cmpR op_lt (pv 3) (pv 4) (nomark _)) (pw_and1 (pt_cmpR op_ge (pe_abs B.abs (pa_cons (pv 5) pa_nil)) (pe_op op_pow pe_int pe_int) (nomark _)))))
        (pss_cons (ps_dput (hu_of hr) (pv 0) pe_str (pe_op op_fdiv (pe_op op_sub (pe_abs B.abs (pa_cons (pv 5) pa_nil)) (pe_op op_pow pe_int pe_int)) (pv 1)) rfl)
        (pss_one (ps_ret (pe_op op_mod (pe_int1 B.int (pa_cons (pe_op op_sub (pe_abs B.abs (pa_cons (pv 5) pa_nil)) (pe_op op_pow pe_int pe_int)) pa_nil)) (pv 1))))) pss_nil)
      (pss_cons (ps_set (i := 6) scDraw.nd rfl (Or.inl rfl) (pe_op op_add (pe_op op_mul (pe_op op_mod (pe_int1 B.int (pa_cons (pv 5) pa_nil)) pe_int) pe_int) (pe_op op_mul (pe_op op_mul pe_int (pv 3)) (pv 3))))
      (pss_cons (ps_set (i := 6) scDraw.nd rfl (Or.inl rfl) (pe_op op_mod (pe_int1 B.int (pa_cons (pe_op op_add (pe_op op_add (pv 6) (pe_op op_mul pe_int (pv 3))) pe_int) pa_nil)) pe_int))
      (pss_cons (ps_set (i := 6) scDraw.nd rfl (Or.inl rfl) (pe_op op_mod (pe_int1 B.int (pa_cons (pe_op op_add (pe_op op_add (pe_op op_add (pe_op op_mul (pv 6) (pv 6)) (pe_op op_mul pe_int (pv 6))) (pe_op op_mul pe_int (pv 3))) pe_int) pa_nil)) pe_int))
      (pss_one (ps_ret (pe_op op_mod (pe_int1 B.int (pa_cons (pe_op op_fdiv (pe_op op_mod (pe_int1 B.int (pa_cons (pe_op op_mul (pv 6) (pe_op op_add (pv 6) pe_int)) pa_nil)) pe_int) pe_int) pa_nil)) (pv 1)))))))))))), ?_⟩
    have ncp : cl ≠ pn := ne_of hc hp (fun z => by cases z)
    refine ⟨_, rfl, pn, _, rfl, getL hp, _, _, rfl, rfl, _, rfl, ?_⟩
    refine ite2 (fun _ => ?_) fun _ => ?_
    · refine ⟨_, rfl, pn, _, rfl, getL hp, .inl ⟨_, rfl, _, rfl, _, _, rfl, rfl, m0, ?_⟩⟩
      refine ⟨_, rfl, pn, _, rfl, getL hp, _, rfl, _, _, rfl, rfl, ⟨m0, m1⟩, _, rfl, pn, _, rfl, putL _ hp, ?_⟩
      exact ⟨_, rfl, q _ _ (mix_lt _ m0).1 (mix_lt _ m0).2 (fun c o n z => (upd_ne n).trans z) ⟨k, _, cs, upd_same, (upd_ne ncp).trans hc, Nat.le_succ_of_le hk, lc⟩⟩
    · refine ⟨_, rfl, pn, _, rfl, getO hp, _, rfl, pn, _, rfl, getC hp, cl, _, rfl, .inl (SqL.of hc), _, _, rfl, ?_⟩
      refine ⟨_, rfl, _, _, rfl, rfl, _, rfl, pn, _, rfl, putO' _ hp, ?_⟩
      have ek : ((k : Nat) : Int) + 1 = ((k + 1 : Nat) : Int) := by omega
      rw [ek]
      generalize eH2 : upd H pn (.dK (penK cl ((k + 1 : Nat) : Int) l)) = H3
      have hp3 : H3 pn = some (.dK (penK cl ((k + 1 : Nat) : Int) l)) := by rw [← eH2]; exact upd_same
      have hc3 : H3 cl = some (.lst (cs.map V.int)) := by rw [← eH2]; exact (upd_ne ncp).trans hc
      have e3 : But pn H H3 := fun c o n z => by rw [← eH2]; exact (upd_ne n).trans z
      have fin : ∀ (r : Int) (H4 : Hp) (l2 : Int), 0 ≤ r → r < m → H4 = H3 ∨ H4 = upd H3 pn (.dK (penK cl ((k + 1 : Nat) : Int) l2)) → Q (.int r) H4 := fun r H4 l2 r0 r1 e4 => by
        rcases e4 with rfl | rfl
        · exact q r _ r0 r1 e3 ⟨k + 1, l, cs, hp3, hc3, Nat.succ_le_succ hk, lc⟩
        · exact q r _ r0 r1 (fun c o n z => (upd_ne n).trans (e3 c o n z)) ⟨k + 1, l2, cs, upd_same, (upd_ne ncp).trans hc3, Nat.succ_le_succ hk, lc⟩
      refine ⟨_, rfl, rfl, _, rfl, ?_⟩
      refine ite2 (fun c => ?_) fun c => ?_
      · refine ⟨_, rfl, _, _, rfl, rfl, .inl ⟨by decide, by decide⟩, ?_⟩
        refine ⟨_, _, rfl, rfl, .inl ⟨_, rfl, _, rfl, _, _, rfl, rfl, m0, ?_⟩⟩
        exact fin _ _ 0 (mix_lt _ m0).1 (mix_lt _ m0).2 (.inl rfl)
      have cne : cs ≠ [] := fun z => by
        rw [z] at c
        exact c (by decide)
      have lpos : 0 < cs.length := List.length_pos_iff.mpr cne
      refine ⟨_, rfl, pn, _, rfl, getC hp3, _, rfl, .inl ⟨_, rfl, _, rfl, _, _, rfl, rfl, (by rw [List.length_map]; omega), cl, _, _, .int (cs[k % cs.length]'(Nat.mod_lt _ lpos)), rfl, rfl, SqL.of hc3, ?_, ?_⟩⟩
      · rw [List.length_map]
        have em : ((k : Nat) : Int) % ((cs.length : Nat) : Int) = ((k % cs.length : Nat) : Int) := by omega
        rw [em]
        refine atI_nat ?_
        rw [List.getElem?_map, List.getElem?_eq_getElem (Nat.mod_lt _ lpos)]
        rfl
      generalize cs[k % cs.length]'(Nat.mod_lt _ lpos) = cell
      refine ⟨_, rfl, _, rfl, _, _, rfl, rfl, _, rfl, ?_⟩
      refine ite2 (fun _ => ?_) fun _ => iteF ?_
      refine ⟨_, rfl, _, rfl, _, _, rfl, rfl, ⟨by decide, by decide, by decide⟩, _, _, rfl, rfl, _, rfl, ?_⟩
      refine ite2 (fun _ => ?_) fun _ => ?_
      refine ⟨_, rfl, _, rfl, _, _, rfl, rfl, ⟨by decide, by decide, by decide⟩, _, _, rfl, rfl, _, rfl, _, _, rfl, rfl, ⟨m0, m1⟩, _, rfl, pn, _, rfl, putL _ hp3, ?_⟩
      refine ⟨_, rfl, _, rfl, _, _, rfl, rfl, ⟨by decide, by decide, by decide⟩, _, _, rfl, rfl, .inl ⟨_, rfl, _, rfl, _, _, rfl, rfl, m0, ?_⟩⟩
      exact fin _ _ _ (mix_lt _ m0).1 (mix_lt _ m0).2 (.inr rfl)
      all_goals
        refine ⟨_, rfl, .inl ⟨_, rfl, _, _, rfl, rfl, (by show (0 : Int) < _; decide), _, _, rfl, rfl, .inr ⟨by decide, by decide⟩, ?_⟩⟩
        refine ⟨_, rfl, _, _, rfl, rfl, .inl ⟨by decide, by decide⟩, _, rfl, _, _, rfl, rfl, .inr ⟨by omega, by omega⟩, _, _, rfl, rfl, ?_⟩
        refine ⟨_, rfl, _, rfl, _, _, rfl, rfl, .inl ⟨by decide, by decide⟩, _, _, rfl, rfl, _, _, rfl, rfl, .inl ⟨_, rfl, _, _, rfl, rfl, (by show (0 : Int) < _; decide), ?_⟩⟩
        generalize emx : (cell % 4294967197 * 52711 + 20353 * ((k : Nat) : Int) * ((k : Nat) : Int) + 1531 * ((k : Nat) : Int) + 11) % 4294967189 = mx
        have b1 : 0 ≤ mx ∧ mx < 4294967189 := by rw [← emx]; exact mix_lt _ (by decide)
        refine ⟨_, rfl, _, rfl, _, _, rfl, rfl, .inl ⟨by omega, by omega⟩, ?_⟩
        refine ⟨_, rfl, _, _, rfl, rfl, .inl ⟨by decide, by decide⟩, _, _, rfl, rfl, _, rfl, _, _, rfl, rfl, .inl ⟨by decide, by decide⟩, _, _, rfl, rfl, _, _, rfl, rfl, .inl ⟨_, rfl, _, _, rfl, rfl, (by show (0 : Int) < _; decide), ?_⟩⟩
        generalize emy : (mx * mx + 68903 * mx + 23 * ((k : Nat) : Int) + 7) % 4294967161 = my
        have b2 : 0 ≤ my ∧ my < 4294967161 := by rw [← emy]; exact mix_lt _ (by decide)
        refine ⟨_, rfl, _, rfl, _, _, rfl, rfl, _, _, rfl, rfl, .inl ⟨by omega, by omega⟩, .inl ⟨_, rfl, _, _, rfl, rfl, (by show (0 : Int) < _; decide), _, _, rfl, rfl, ⟨by decide, by decide⟩, .inl ⟨_, rfl, _, rfl, _, _, rfl, rfl, m0, ?_⟩⟩⟩
        exact fin _ _ 0 (mix_lt _ m0).1 (mix_lt _ m0).2 (.inl rfl)
end
theorem Pen.mono {H : Hp} {pn cl : Addr} {b c : Nat} (h : Pen H pn cl b) (e : b ≤ c) : Pen H pn cl c := let ⟨k, l, cs, h1, h2, h3, h4⟩ := h; ⟨k, l, cs, h1, h2, Nat.le_trans h3 e, h4⟩
theorem Pen.same {H H' : Hp} {pn cl : Addr} {b : Nat} (h : Pen H pn cl b) (e : Same H H') : Pen H' pn cl b := let ⟨k, l, cs, h1, h2, h3, h4⟩ := h; ⟨k, l, cs, e _ _ h1, e _ _ h2, h3, h4⟩
theorem Pen.ne {H : Hp} {pn cl a : Addr} {b : Nat} {o : HO} (h : Pen H pn cl b) (ha : H a = some o) (d : ∀ kvs, o ≠ .dK kvs) : a ≠ pn := let ⟨_, _, _, h1, _⟩ := h; ne_of ha h1 (d _)
/-- the pen stays where another object is written -/
theorem Pen.upd {H : Hp} {pn cl a : Addr} {b : Nat} {o : HO} (h : Pen H pn cl b) (n1 : pn ≠ a) (n2 : cl ≠ a) : Pen (L2.upd H a o) pn cl b := let ⟨k, l, cs, h1, h2, h3, h4⟩ := h; ⟨k, l, cs, (upd_ne n1).trans h1, (upd_ne n2).trans h2, h3, h4⟩
theorem Pen.off {H : Hp} {pn cl a : Addr} {b : Nat} (h : Pen H pn cl b) (n : H a = none) : pn ≠ a ∧ cl ≠ a := let ⟨_, _, _, h1, h2, _⟩ := h; ⟨ne_of_none h1 n, ne_of_none h2 n⟩
theorem same_but {pn : Addr} {H H' : Hp} (e : Same H H') : But pn H H' := fun b o _ h => e b o h
section
variable {P : Program} {w : World} {K : PySem.W.Frag} {mg : Str → Option Value} {base : Heap}
end
def Flat : V → Prop
  | .non | .bl _ | .int _ => True
  | .str x => PyData.strOk x = true
  | _ => False
theorem dp_flat {K : PySem.W.Frag} {H : Hp} {v : V} (h : Flat v) : Dp K H v (dOf v) := by
  cases v with
  | non => exact .non
  | bl b => exact .bl b
  | int i => exact .int i
  | str x => exact .str x
  | _ => exact h.elim
theorem dpAll_flat {K : PySem.W.Frag} {H : Hp} : ∀ {xs : List V}, (∀ v ∈ xs, Flat v) → DpAll K H xs (xs.map dOf)
  | [], _ => .nil
  | x :: xs, h => .cons (dp_flat (h x List.mem_cons_self)) (dpAll_flat fun v m => h v (List.mem_cons_of_mem _ m))
theorem lay_flat : ∀ {xs : List V}, (∀ v ∈ xs, Flat v) → PyData.canLayAll0 (xs.map dOf) = true
  | [], _ => by simp [PyData.canLayAll0]
  | x :: xs, h => by
    have ih := lay_flat fun v m => h v (List.mem_cons_of_mem x m)
    have hx := h x List.mem_cons_self
    rw [List.map_cons, PyData.canLayAll0, ih, Bool.and_true]
    cases x <;> simp [dOf, PyData.canLay0, Flat] at hx ⊢
    exact hx
theorem depth_flat : ∀ (xs : List V), PyData.depthAll (xs.map dOf) ≤ 1
  | [] => by simp [PyData.depthAll]
  | x :: xs => by
    have ih := depth_flat xs
    simp only [List.map_cons, PyData.depthAll]
    cases x <;> simp only [dOf, PyData.depth] <;> omega
theorem shT_flat {xs : List V} (h : ∀ v ∈ xs, Flat v) : SeqAt.shaped (.tuple (xs.map dOf)) = true := by
  have h1 := lay_flat h
  have h2 := depth_flat xs
  show (PyData.canLay0 (.tuple (xs.map dOf)) && decide (PyData.depth (.tuple (xs.map dOf)) ≤ 64)) = true
  rw [Bool.and_eq_true]
  refine ⟨by simp only [PyData.canLay0]; exact h1, decide_eq_true ?_⟩
  simp only [PyData.depth]
  omega
/-- two tuples with the same flat items -/
def rSm (b : Bool) : R2 := fun x y H Q => ∃ s t us, x = .ref s ∧ y = .ref t ∧ H s = some (.tup us) ∧ H t = some (.tup us) ∧ (∀ v ∈ us, Flat v) ∧ Q (.bl b) H
section
variable {X : Cx}
theorem op_neSm (hu : X.A.units + 64 < cLine) : OpR X (compareOp .NotEq) (rSm false) := by
  intro pins s σ H x y v u Q I rx ry h
  obtain ⟨a, b, us, rfl, rfl, d1, d2, f, q⟩ := h
  have sh := shT_flat f
  refine op_neD hu pins s σ H _ _ v u Q I rx ry ⟨_, _, .tup (SqT.of d1) (dpAll_flat f), .tup (SqT.of d2) (dpAll_flat f), sh, sh, ?_⟩
  rw [SeqAt.eqv_refl _ (Bool.and_eq_true_iff.mp sh).1]
  exact q
theorem op_eqSm (hu : X.A.units + 64 < cLine) : OpR X (compareOp .Eq) (rSm true) := by
  intro pins s σ H x y v u Q I rx ry h
  obtain ⟨a, b, us, rfl, rfl, d1, d2, f, q⟩ := h
  have sh := shT_flat f
  refine op_eqD hu pins s σ H _ _ v u Q I rx ry ⟨_, _, .tup (SqT.of d1) (dpAll_flat f), .tup (SqT.of d2) (dpAll_flat f), sh, sh, ?_⟩
  rw [SeqAt.eqv_refl _ (Bool.and_eq_true_iff.mp sh).1]
  exact q
end
theorem cut_to {xs : List V} {k : Nat} (h : k ≤ xs.length) : cutV xs none (some (k : Int)) = xs.take k := by
  unfold cutV
  rw [HT.sIx_nat, HT.sIx_none, List.drop_zero, Nat.sub_zero, Nat.min_eq_left h]
theorem cut_from {xs : List V} {k : Nat} (h : k ≤ xs.length) : cutV xs (some (k : Int)) none = xs.drop k := by
  unfold cutV
  rw [HT.sIx_nat, HT.sIx_none, Nat.min_eq_left h, List.take_of_length_le (by rw [List.length_drop]; exact Nat.le_refl _)]
theorem kn_flat {H : Hp} {v : V} (h : Flat v) : Kn H v := by
  cases v with
  | non => exact .non
  | bl b => exact .bl b
  | int i => exact .int i
  | str x => exact .str x
  | _ => exact h.elim
theorem flat_ref {v : V} (h : Flat v) : ∀ b, v ≠ .ref b := fun b e => by
  rw [e] at h
  exact h
end K61
set_option Elab.async false
set_option linter.all false
set_option maxRecDepth 100001
set_option maxHeartbeats 3999999
namespace K61
open PySem L2
abbrev sCopied : Stmt := topS 11
abbrev sTMany : Stmt := inClass (topS 14) 0
abbrev sBBits : Stmt := inClass (topS 18) 0
abbrev sBLen : Stmt := inClass (topS 23) 0
abbrev sNFull : Stmt := inClass (topS 24) 0
abbrev sBegins : Stmt := inClass (topS 25) 0
def spCopied : Sp := fun vs H Q _ => ∃ v, vs = [v] ∧ Flat v ∧ Q v H
section
variable {P : Program} {w : World} {K : PySem.W.Frag} {mg : Str → Option Value} {base : Heap}
theorem scCopied : FnScope ["value", "part", "key"] ["value"] (defScope sCopied) := ⟨rfl, rfl, rfl, by decide +kernel, rfl, by decide +kernel, by decide +kernel⟩
theorem ok_copied {f : Addr} {fd : FuncData} (F : Fun K "copied" "copied" sCopied f fd) (B : Bi mg) : FnOk P w K mg base CX0 1 f fd ["value"] spCopied := by
  refine F.ok scCopied (fun vs H Q E h => ?_) (fun cdv A outer s H vs Q E hr h => ?_)
  · obtain ⟨v, rfl, _⟩ := h
    rfl
  · obtain ⟨v, rfl, fl, q⟩ := h
    refine ⟨_, pss_cons (ps_if (pt_val (pe_isi B.isi (pa_cons (pv 0) (pa_cons (pe_ty "list" B.list) pa_nil)))) pss_never pss_nil) (pss_cons (ps_if (pt_val (pe_isi B.isi (pa_cons (pv 0) (pa_cons (pe_ty "tuple" B.tuple) pa_nil)))) pss_never pss_nil)
      (pss_cons (ps_if (pt_val (pe_isi B.isi (pa_cons (pv 0) (pa_cons (pe_ty "dict" B.dict) pa_nil)))) pss_never pss_nil) (pss_one (ps_ret (pv 0))))), ?_⟩
    obtain ⟨t, ty, _, _, k3, k4, k5⟩ := (kn_flat (H := H) fl).kinds K
    have f3 : isT H v = false := by cases v <;> first | rfl | exact fl.elim
    have f4 : isL H v = false := by cases v <;> first | rfl | exact fl.elim
    rw [f3] at k3
    rw [f4] at k4
    exact ⟨v, rfl, v, _, _, _, _, rfl, .ty "list", ty, k4, _, rfl, iteF ⟨v, rfl, v, _, _, _, _, rfl, .ty "tuple", ty, k3, _, rfl, iteF ⟨v, rfl, v, _, _, _, _, rfl, .ty "dict", ty, k5, _, rfl, iteF ⟨v, rfl, q⟩⟩⟩⟩
def frm : V → Int → Bool
  | .int i, lo => decide (lo ≤ i)
  | _, _ => false
def spFrom : Sp := fun vs H Q _ => ∃ v lo, vs = [v, .int lo] ∧ Kn H v ∧ Q (.bl (frm v lo)) H
end
/-- an exception of three flat fields -/
def spX3 (K : PySem.W.Frag) (f g h : Str) : Sp := fun vs H Q _ => ∃ (a C : Addr) (u v w : V), vs = [.ref a, u, v, w] ∧ OexC K C ∧ PySem.W.findIn K (.ref C) f = some none ∧ PySem.W.findIn K (.ref C) g = some none ∧ PySem.W.findIn K (.ref C) h = some none ∧
  Flat u ∧ Flat v ∧ Flat w ∧ H a = some (exo a C none) ∧
  ∀ dx H', H dx = none → dx ≠ a → (∀ b, b ≠ a → b ≠ dx → H' b = H b) → H' a = some (exo a C (some dx)) → H' dx = some (exd dx [(h, w), (g, v), (f, u)]) → Q .non H'
def spX0 : Sp := fun vs H Q _ => ∃ a : Addr, vs = [.ref a] ∧ Q .non H
/-- an exception of one flat field -/
def spX1 (K : PySem.W.Frag) (f : Str) : Sp := fun vs H Q _ => ∃ (a C : Addr) (u : V), vs = [.ref a, u] ∧ OexC K C ∧ PySem.W.findIn K (.ref C) f = some none ∧ Flat u ∧ H a = some (exo a C none) ∧
  ∀ dx H', H dx = none → dx ≠ a → (∀ b, b ≠ a → b ≠ dx → H' b = H b) → H' a = some (exo a C (some dx)) → H' dx = some (exd dx [(f, u)]) → Q .non H'
/-- an exception of two flat fields -/
def spX2 (K : PySem.W.Frag) (f g : Str) : Sp := fun vs H Q _ => ∃ (a C : Addr) (u v : V), vs = [.ref a, u, v] ∧ OexC K C ∧ PySem.W.findIn K (.ref C) f = some none ∧ PySem.W.findIn K (.ref C) g = some none ∧ Flat u ∧ Flat v ∧ H a = some (exo a C none) ∧
  ∀ dx H', H dx = none → dx ≠ a → (∀ b, b ≠ a → b ≠ dx → H' b = H b) → H' a = some (exo a C (some dx)) → H' dx = some (exd dx [(g, v), (f, u)]) → Q .non H'
section
variable {P : Program} {w : World} {K : PySem.W.Frag} {mg : Str → Option Value} {base : Heap}
theorem scTMany : FnScope ["self", "what", "many", "most"] ["self", "what", "many", "most"] (defScope sTMany) := ⟨rfl, rfl, rfl, by decide +kernel, rfl, by decide +kernel, by decide +kernel⟩
theorem ok_TMany {f : Addr} {fd : FuncData} (F : Fun K "__init__" "TooMany.__init__" sTMany f fd) (cC : Cal CX0 P w K mg base 1 "copied" spCopied) : FnOk P w K mg base CX0 2 f fd ["self", "what", "many", "most"] (spX3 K "what" "many" "most") := by
  refine F.ok scTMany (fun vs H Q E h => ?_) (fun cdv A outer s H vs Q E hr h => ?_)
  · obtain ⟨a, C, u, v, z, rfl, _⟩ := h
    rfl
  · obtain ⟨a, C, u, v, z, rfl, T, n1, n2, n3, k1, k2, k3, ha, q⟩ := h
    refine ⟨_, pss_cons (ps_ost (pv 0) (pe_c cC hr pass0 (pa_cons (pv 1) pa_nil))) (pss_cons (ps_ost (pv 0) (pe_c cC hr pass0 (pa_cons (pv 2) pa_nil))) (pss_one (ps_ost (pv 0) (pe_c cC hr pass0 (pa_cons (pv 3) pa_nil))))), ?_⟩
    refine ⟨u, rfl, u, rfl, k1, _, rfl, a, C, rfl, T, n1, .inl ⟨ha, fun dx nd na => ?_⟩⟩
    refine ⟨v, rfl, v, rfl, k2, _, rfl, a, C, rfl, T, n2, .inr ⟨dx, _, upd_same, by rw [upd_ne na]; exact upd_same, by show 1 ≤ 900; decide, ?_⟩⟩
    refine ⟨z, rfl, z, rfl, k3, _, rfl, a, C, rfl, T, n3, .inr ⟨dx, _, by rw [upd_ne (Ne.symm na)]; exact upd_same, upd_same, by show 2 ≤ 900; decide, ?_⟩⟩
    refine q dx _ nd na (fun b h1 h2 => ?_) ?_ upd_same
    · rw [upd_ne h2, upd_ne h2, upd_ne h1, upd_ne h2]
    · rw [upd_ne (Ne.symm na), upd_ne (Ne.symm na)]
      exact upd_same
theorem scBBits : FnScope ["self", "index"] ["self", "index"] (defScope sBBits) := ⟨rfl, rfl, rfl, by decide +kernel, rfl, by decide +kernel, by decide +kernel⟩
theorem ok_BBits {f : Addr} {fd : FuncData} (F : Fun K "__init__" "BadBits.__init__" sBBits f fd) (cC : Cal CX0 P w K mg base 1 "copied" spCopied) : FnOk P w K mg base CX0 2 f fd ["self", "index"] (spX1 K "index") := by
  refine F.ok scBBits (fun vs H Q E h => ?_) (fun cdv A outer s H vs Q E hr h => ?_)
  · obtain ⟨a, C, u, rfl, _⟩ := h
    rfl
  · obtain ⟨a, C, u, rfl, T, n1, k1, ha, q⟩ := h
    refine ⟨_, pss_one (ps_ost (pv 0) (pe_c cC hr pass0 (pa_cons (pv 1) pa_nil))), ?_⟩
    refine ⟨u, rfl, u, rfl, k1, _, rfl, a, C, rfl, T, n1, .inl ⟨ha, fun dx nd na => ?_⟩⟩
    refine q dx _ nd na (fun b h1 h2 => ?_) upd_same ?_
    · rw [upd_ne h1, upd_ne h2]
    · rw [upd_ne na]
      exact upd_same
theorem scBLen : FnScope ["self", "index"] ["self", "index"] (defScope sBLen) := ⟨rfl, rfl, rfl, by decide +kernel, rfl, by decide +kernel, by decide +kernel⟩
theorem ok_BLen {f : Addr} {fd : FuncData} (F : Fun K "__init__" "BadLength.__init__" sBLen f fd) (cC : Cal CX0 P w K mg base 1 "copied" spCopied) : FnOk P w K mg base CX0 2 f fd ["self", "index"] (spX1 K "index") := by
  refine F.ok scBLen (fun vs H Q E h => ?_) (fun cdv A outer s H vs Q E hr h => ?_)
  · obtain ⟨a, C, u, rfl, _⟩ := h
    rfl
  · obtain ⟨a, C, u, rfl, T, n1, k1, ha, q⟩ := h
    refine ⟨_, pss_one (ps_ost (pv 0) (pe_c cC hr pass0 (pa_cons (pv 1) pa_nil))), ?_⟩
    refine ⟨u, rfl, u, rfl, k1, _, rfl, a, C, rfl, T, n1, .inl ⟨ha, fun dx nd na => ?_⟩⟩
    refine q dx _ nd na (fun b h1 h2 => ?_) upd_same ?_
    · rw [upd_ne h1, upd_ne h2]
    · rw [upd_ne na]
      exact upd_same
theorem scBegins : FnScope ["self", "index", "other"] ["self", "index", "other"] (defScope sBegins) := ⟨rfl, rfl, rfl, by decide +kernel, rfl, by decide +kernel, by decide +kernel⟩
theorem ok_Begins {f : Addr} {fd : FuncData} (F : Fun K "__init__" "Begins.__init__" sBegins f fd) (cC : Cal CX0 P w K mg base 1 "copied" spCopied) : FnOk P w K mg base CX0 2 f fd ["self", "index", "other"] (spX2 K "index" "other") := by
  refine F.ok scBegins (fun vs H Q E h => ?_) (fun cdv A outer s H vs Q E hr h => ?_)
  · obtain ⟨a, C, u, v, rfl, _⟩ := h
    rfl
  · obtain ⟨a, C, u, v, rfl, T, n1, n2, k1, k2, ha, q⟩ := h
    refine ⟨_, pss_cons (ps_ost (pv 0) (pe_c cC hr pass0 (pa_cons (pv 1) pa_nil))) (pss_one (ps_ost (pv 0) (pe_c cC hr pass0 (pa_cons (pv 2) pa_nil)))), ?_⟩
    refine ⟨u, rfl, u, rfl, k1, _, rfl, a, C, rfl, T, n1, .inl ⟨ha, fun dx nd na => ?_⟩⟩
    refine ⟨v, rfl, v, rfl, k2, _, rfl, a, C, rfl, T, n2, .inr ⟨dx, _, upd_same, by rw [upd_ne na]; exact upd_same, by show 1 ≤ 900; decide, ?_⟩⟩
    refine q dx _ nd na (fun b h1 h2 => ?_) ?_ upd_same
    · rw [upd_ne h2, upd_ne h1, upd_ne h2]
    · rw [upd_ne (Ne.symm na)]
      exact upd_same
theorem scNFull : FnScope ["self"] ["self"] (defScope sNFull) := ⟨rfl, rfl, rfl, by decide +kernel, rfl, by decide +kernel, by decide +kernel⟩
theorem ok_NFull {f : Addr} {fd : FuncData} (F : Fun K "__init__" "NotFull.__init__" sNFull f fd) : FnOk P w K mg base CX0 1 f fd ["self"] spX0 := by
  refine F.ok scNFull (fun vs H Q E h => ?_) (fun cdv A outer s H vs Q E hr h => ?_)
  · obtain ⟨a, rfl, _⟩ := h
    rfl
  · obtain ⟨a, rfl, q⟩ := h
    exact ⟨_, pss_one ps_pass, q⟩
end
/-- behind a raise: all that was there, and the error's fields at d -/
structure Rsd (H H' : Hp) (d : Addr) (fs : List (Str × V)) : Prop where
  new : H d = none
  same : Same H H'
  at_ : H' d = some (.xd fs)
theorem rsd_of {H H2 : Hp} {a d C : Addr} {fs : List (Str × V)} (na : H a = none) (nd : H d = none) (h : ∀ b, b ≠ a → b ≠ d → H2 b = H b) : Rsd H (upd (del H2 a) d (.xd fs)) d fs :=
  ⟨nd, fun b o e => by
    rw [upd_ne (ne_of_none e nd), del_ne (ne_of_none e na), h b (ne_of_none e na) (ne_of_none e nd)]
    exact e, upd_same⟩
theorem raise3 {H : Hp} {C : Addr} {f g h : Str} {u v z : V} {R : XK} {K : PySem.W.Frag} (T : OexC K C) (n1 : PySem.W.findIn K (.ref C) f = some none) (n2 : PySem.W.findIn K (.ref C) g = some none) (n3 : PySem.W.findIn K (.ref C) h = some none)
    (k1 : Flat u) (k2 : Flat v) (k3 : Flat z) (r : ∀ d H', Rsd H H' d [(h, z), (g, v), (f, u)] → R (.ref C) (some d) H') :
    ([u, v, z] : List V).length ≤ 1000 ∧ ∀ a, H a = none → spX3 K f g h (.ref a :: ([u, v, z] ++ [])) (upd H a (exo a C none)) (fun y H2 => y = .non ∧ ∃ (d : Addr) (fs : List (Str × V)), H2 a = some (exo a C (some d)) ∧ H2 d = some (exd d fs) ∧ H d = none ∧ R (.ref C) (some d) (upd (del H2 a) d (.xd fs))) (fun _ _ _ => False) := by
  refine ⟨by show 3 ≤ 1000; decide, fun a na => ⟨a, C, u, v, z, rfl, T, n1, n2, n3, k1, k2, k3, upd_same, fun dx H' nd ne hk ha hd => ⟨rfl, dx, _, ha, hd, ?_, r _ _ ?_⟩⟩⟩
  · rw [upd_ne ne] at nd
    exact nd
  · refine rsd_of (C := C) na (by rw [upd_ne ne] at nd; exact nd) fun b h1 h2 => ?_
    rw [hk b h1 h2, upd_ne h1]
theorem raise0 {H : Hp} {C : Addr} {R : XK} {K : PySem.W.Frag} (r : ∀ H', Same H H' → R (.ref C) none H') :
    ∀ a, H a = none → spX0 [.ref a] (upd H a (exo a C none)) (fun v H2 => v = .non ∧ H2 a = some (exo a C none) ∧ R (.ref C) none (del H2 a)) (fun _ _ _ => False) := fun a na =>
  ⟨a, rfl, rfl, upd_same, r _ fun b o e => by rw [del_ne (ne_of_none e na), upd_ne (ne_of_none e na)]; exact e⟩
theorem raise2 {H : Hp} {C : Addr} {f g : Str} {u v : V} {R : XK} {K : PySem.W.Frag} (T : OexC K C) (n1 : PySem.W.findIn K (.ref C) f = some none) (n2 : PySem.W.findIn K (.ref C) g = some none)
    (k1 : Flat u) (k2 : Flat v) (r : ∀ d H', Rsd H H' d [(g, v), (f, u)] → R (.ref C) (some d) H') :
    ([u, v] : List V).length ≤ 1000 ∧ ∀ a, H a = none → spX2 K f g (.ref a :: ([u, v] ++ [])) (upd H a (exo a C none)) (fun y H2 => y = .non ∧ ∃ (d : Addr) (fs : List (Str × V)), H2 a = some (exo a C (some d)) ∧ H2 d = some (exd d fs) ∧ H d = none ∧ R (.ref C) (some d) (upd (del H2 a) d (.xd fs))) (fun _ _ _ => False) := by
  refine ⟨by show 2 ≤ 1000; decide, fun a na => ⟨a, C, u, v, rfl, T, n1, n2, k1, k2, upd_same, fun dx H' nd ne hk ha hd => ⟨rfl, dx, _, ha, hd, ?_, r _ _ ?_⟩⟩⟩
  · rw [upd_ne ne] at nd
    exact nd
  · refine rsd_of (C := C) na (by rw [upd_ne ne] at nd; exact nd) fun b h1 h2 => ?_
    rw [hk b h1 h2, upd_ne h1]
theorem raise1 {H : Hp} {C : Addr} {f : Str} {u : V} {R : XK} {K : PySem.W.Frag} (T : OexC K C) (n1 : PySem.W.findIn K (.ref C) f = some none)
    (k1 : Flat u) (r : ∀ d H', Rsd H H' d [(f, u)] → R (.ref C) (some d) H') :
    ([u] : List V).length ≤ 1000 ∧ ∀ a, H a = none → spX1 K f (.ref a :: ([u] ++ [])) (upd H a (exo a C none)) (fun y H2 => y = .non ∧ ∃ (d : Addr) (fs : List (Str × V)), H2 a = some (exo a C (some d)) ∧ H2 d = some (exd d fs) ∧ H d = none ∧ R (.ref C) (some d) (upd (del H2 a) d (.xd fs))) (fun _ _ _ => False) := by
  refine ⟨by show 1 ≤ 1000; decide, fun a na => ⟨a, C, u, rfl, T, n1, k1, upd_same, fun dx H' nd ne hk ha hd => ⟨rfl, dx, _, ha, hd, ?_, r _ _ ?_⟩⟩⟩
  · rw [upd_ne ne] at nd
    exact nd
  · refine rsd_of (C := C) na (by rw [upd_ne ne] at nd; exact nd) fun b h1 h2 => ?_
    rw [hk b h1 h2, upd_ne h1]
/-! ### lists, tuples, what stays -/
/-- a list or a tuple at u -/
def LT (H : Hp) (u : Addr) (ts : List V) : Prop := H u = some (.lst ts) ∨ H u = some (.tup ts)
theorem LT.sq {K : PySem.W.Frag} {H : Hp} {u : Addr} {ts : List V} (h : LT H u ts) : Sq K H u ts := h.elim (fun h => .inl (SqL.of h)) fun h => .inr (SqT.of h)
theorem LT.same {H H' : Hp} {u : Addr} {ts : List V} (h : LT H u ts) (e : Same H H') : LT H' u ts := h.imp (fun h => e _ _ h) fun h => e _ _ h
theorem LT.kn {H : Hp} {u : Addr} {ts : List V} (h : LT H u ts) : Kn H (.ref u) := h.elim .lst .tup
def isLT (H : Hp) (v : V) : Bool := isL H v || isT H v
theorem LT.is {H : Hp} {u : Addr} {ts : List V} (h : LT H u ts) : isLT H (.ref u) = true := by
  unfold isLT
  rcases h with h | h
  · rw [isL_lst h]
    rfl
  · rw [isT_tup h, Bool.or_true]
theorem Kn.any (K : PySem.W.Frag) {H : Hp} {v : V} (k : Kn H v) : ∃ t : String, TyX K H v (.type t) ∧ PySem.W.kitAny K (.type t) [.type "list", .type "tuple"] = some (isLT H v) := by
  obtain ⟨t, ty, _, _, k3, k4, _⟩ := k.kinds K
  refine ⟨t, ty, kitAny_cons k4 (fun z => ?_) (fun z => by unfold isLT; rw [z]; rfl)⟩
  refine kitAny_cons k3 (fun z2 => by unfold isLT; rw [z, z2]; rfl) (fun z2 => by unfold isLT; rw [z2, Bool.or_true])
theorem Kn.lt_same {H H' : Hp} {v : V} (k : Kn H v) (e : Same H H') : isLT H' v = isLT H v := by
  unfold isLT
  cases k with
  | lst h => rw [isL_lst h, isL_lst (e _ _ h)]; rfl
  | tup h => rw [isT_tup h, isT_tup (e _ _ h), Bool.or_true, Bool.or_true]
  | _ => rfl
theorem paired_get {α β : Type} {F : α → β → Prop} : ∀ {ts : List α} {ps : List β} {i : Nat} {v : α}, Paired F ts ps → ts[i]? = some v → ∃ p, ps[i]? = some p ∧ F v p
  | _, _, _, _, .nil, h => by simp at h
  | _, _, 0, _, .cons h _, e => by cases e; exact ⟨_, rfl, h⟩
  | _, _, i + 1, v, .cons _ t, e => paired_get (i := i) t (by simpa using e)
theorem paired_to {α β : Type} {F : α → β → Prop} : ∀ {ts : List α} {ps : List β} {i : Nat} {p : β}, Paired F ts ps → ps[i]? = some p → ∃ v, ts[i]? = some v ∧ F v p
  | _, _, _, _, .nil, h => by simp at h
  | _, _, 0, _, .cons h _, e => by cases e; exact ⟨_, rfl, h⟩
  | _, _, i + 1, v, .cons _ t, e => paired_to (i := i) t (by simpa using e)
theorem paired_map {α β γ : Type} {F : α → β → Prop} {G : α → γ → Prop} {g : β → γ} (h : ∀ a b, F a b → G a (g b)) : ∀ {ts : List α} {ps : List β}, Paired F ts ps → Paired G ts (ps.map g)
  | _, _, .nil => .nil
  | _, _, .cons x t => .cons (h _ _ x) (paired_map h t)
theorem paired_unmap {α β γ : Type} {F : α → β → Prop} {G : α → γ → Prop} {g : β → γ} (h : ∀ a b, G a (g b) → F a b) : ∀ {ps : List β} {ts : List α}, Paired G ts (ps.map g) → Paired F ts ps
  | [], _, .nil => .nil
  | _ :: _, _, .cons x t => .cons (h _ _ x) (paired_unmap h t)
/-- tuples stay -/
def TT (H H' : Hp) : Prop := ∀ a xs, H a = some (.tup xs) → H' a = some (.tup xs)
theorem TT.same {H H' : Hp} (e : Same H H') : TT H H' := fun a xs z => e _ _ z
theorem TT.trans {H H1 H2 : Hp} (a : TT H H1) (b : TT H1 H2) : TT H H2 := fun c xs z => b _ _ (a _ _ z)
theorem TT.lst {H : Hp} {D : Addr} {xs ys : List V} (hD : H D = some (.lst xs)) : TT H (upd H D (.lst ys)) := fun a zs z => (upd_ne (ne_of z hD fun y => nomatch y)).trans z
/-- what is not at p stays -/
def ButI (p : Addr) (H H' : Hp) : Prop := ∀ b o, b ≠ p → H b = some o → H' b = some o
structure RsC (p : Addr) (H H' : Hp) (d : Addr) (fs : List (Str × V)) : Prop where
  new : H d = none
  same : ButI p H H'
  at_ : H' d = some (.xd fs)
structure TL (H H' : Hp) : Prop where
  l : ∀ a xs, H a = some (.lst xs) → H' a = some (.lst xs)
  t : ∀ a xs, H a = some (.tup xs) → H' a = some (.tup xs)
theorem TL.but {H H' : Hp} {C p dx : Addr} {fs : List (Str × V)} (hp : H p = some (.ins C dx fs)) (u : ButI p H H') : TL H H' := ⟨fun a xs z => u _ _ (ne_of z hp fun y => nomatch y) z, fun a xs z => u _ _ (ne_of z hp fun y => nomatch y) z⟩
theorem TL.pen {H H' : Hp} {pn cl : Addr} {b : Nat} (pen : Pen H pn cl b) (u : But pn H H') : TL H H' := by
  obtain ⟨k, l, cs, h1, _⟩ := pen
  exact ⟨fun a xs z => u _ _ (ne_of z h1 fun y => nomatch y) z, fun a xs z => u _ _ (ne_of z h1 fun y => nomatch y) z⟩
theorem TL.trans {H H1 H2 : Hp} (a : TL H H1) (b : TL H1 H2) : TL H H2 := ⟨fun c xs z => b.l _ _ (a.l _ _ z), fun c xs z => b.t _ _ (a.t _ _ z)⟩
theorem TL.same {H H' : Hp} (e : Same H H') : TL H H' := ⟨fun a xs z => e _ _ z, fun a xs z => e _ _ z⟩
structure Xc (P : Program) (w : World) (K : PySem.W.Frag) (mg : Str → Option Value) (base : Heap) (k : Nat) (x : Str) (C : Addr) (sp : Sp) : Prop where
  T : OexC K C
  mgC : mg x = some (.ref C)
  ex : ∃ (f : Addr) (fd : FuncData) (ps : List Str), PySem.W.findIn K (.ref C) "__init__" = some (some (.ref f)) ∧ PySem.W.typeIn K (.ref f) = some (.type "function") ∧ FnOk P w K mg base CX0 k f fd ps sp ∧ Binds K fd ps []
section
variable {X : Cx} {k j : Nat} {x : Str} {C : Addr} {sp : Sp} {e : Expr} {es : List Expr} {t : TA} {p pos : Pos}
theorem pmk_x (c : Xc X.prog X.w X.K X.mg X.base k x C sp) (hr : Room j X.A) (ha : PA X (e :: es) t) (hk : k + 1 ≤ j := by decide) (hg : Gl X x := by rfl) (hdb : (x == ("__debug__" : Str)) = false := by decide)
    (he : starEach (e :: es) X.env = (false, eval e X.env) :: starEach es X.env := by rfl) (hpl : (backTo pos (starEach es X.env)).any (·.1) = false := by rfl) : PMk X (.Call (.Name x p) (e :: es) [] pos) (tMkO C sp [] t) := by
  obtain ⟨f, fd, ps, i1, i2, F, b⟩ := c.ex
  exact pmk_oex c.T i1 i2 F (hr.mono hk) b .nil pass0 hg c.mgC ha hdb he hpl
end
/-- an exception class, caught -/
structure Ct (K : PySem.W.Frag) (mg : Str → Option Value) (x : Str) (C : Addr) : Prop where
  g : mg x = some (.ref C)
  T : XfC K C
  me : PySem.W.exmOne K (.ref C) (.ref C) = some true
section
variable {X : Cx}
def rSmD (K : PySem.W.Frag) : R2 := fun x y H Q => ∃ d, Dp K H x d ∧ Dp K H y d ∧ SeqAt.shaped d = true ∧ Q (.bl false) H
theorem op_neSmD (hu : X.A.units + 64 < cLine) : OpR X (compareOp .NotEq) (rSmD X.K) := by
  intro pins s σ H x y v u Q I rx ry h
  obtain ⟨d, d1, d2, sh, q⟩ := h
  refine op_neD hu pins s σ H _ _ v u Q I rx ry ⟨d, d, d1, d2, sh, sh, ?_⟩
  rw [SeqAt.eqv_refl _ (Bool.and_eq_true_iff.mp sh).1]
  exact q
def rSmE (K : PySem.W.Frag) : R2 := fun x y H Q => ∃ d, Dp K H x d ∧ Dp K H y d ∧ SeqAt.shaped d = true ∧ Q (.bl true) H
theorem op_eqSmD (hu : X.A.units + 64 < cLine) : OpR X (compareOp .Eq) (rSmE X.K) := by
  intro pins s σ H x y v u Q I rx ry ⟨d, d1, d2, sh, q⟩
  refine op_eqD hu pins s σ H _ _ v u Q I rx ry ⟨d, d, d1, d2, sh, sh, ?_⟩
  rw [SeqAt.eqv_refl _ (Bool.and_eq_true_iff.mp sh).1]
  exact q
end
section
variable {X : Cx} {k j : Nat} {x : Str} {C : Addr} {sp : Sp} {p pos : Pos}
theorem pmk_x0 (c : Xc X.prog X.w X.K X.mg X.base k x C sp) (hr : Room j X.A) (hk : k + 1 ≤ j := by decide) (hg : Gl X x := by rfl) (hdb : (x == ("__debug__" : Str)) = false := by decide) : PMk X (.Call (.Name x p) [] [] pos) (tMkO0 C sp) := by
  obtain ⟨f, fd, ps, i1, i2, F, b⟩ := c.ex
  exact pmk_oex0 c.T i1 i2 F (hr.mono hk) b pass0 hg c.mgC hdb
end
/-- all but dicts and tables stay -/
def Ks (H H' : Hp) : Prop := ∀ b o, H b = some o → (∀ ps, o ≠ .tbl ps) → (∀ kvs, o ≠ .dK kvs) → H' b = some o
theorem Ks.of {H H' : Hp} (e : Same H H') : Ks H H' := fun b o h _ _ => e b o h
theorem Ks.trans {H H1 H2 : Hp} (a : Ks H H1) (b : Ks H1 H2) : Ks H H2 := fun c o h n m => b c o (a c o h n m) n m
theorem Ks.refl (H : Hp) : Ks H H := fun _ _ h _ _ => h
theorem Ks.ext {H H' : Hp} (e : LamX.ExtN H H') : Ks H H' := fun b o h n _ => e b o h n
theorem Ks.pen {H H' : Hp} {pn cl : Addr} {b : Nat} (pen : Pen H pn cl b) (e : But pn H H') : Ks H H' := fun c o h _ m => e c o (pen.ne h m) h
theorem Ks.tl {H H' : Hp} (e : Ks H H') : TL H H' := ⟨fun a xs z => e _ _ z (fun _ y => nomatch y) (fun _ y => nomatch y), fun a xs z => e _ _ z (fun _ y => nomatch y) (fun _ y => nomatch y)⟩
theorem Ks.ins {H H' : Hp} {a C dx : Addr} {fs : List (Str × V)} (e : Ks H H') (h : H a = some (.ins C dx fs)) : H' a = some (.ins C dx fs) := e _ _ h (fun _ y => nomatch y) fun _ y => nomatch y
theorem Kn.tl {H H2 : Hp} {v : V} (k : Kn H v) (s : TL H H2) : Kn H2 v := by
  cases k with
  | non => exact .non
  | bl b => exact .bl b
  | int i => exact .int i
  | str x => exact .str x
  | lst e => exact .lst (s.l _ _ e)
  | tup e => exact .tup (s.t _ _ e)
theorem tabs_at {Tb : List (Addr × Str)} {H H' : Hp} {p : Addr} {o : HO} (t : LamX.Tabs Tb H) (hp : H p = some o) (n1 : ∀ ps, o ≠ .tbl ps) (n2 : ∀ f, o ≠ .ext f) (e : ButI p H H') : LamX.Tabs Tb H' := fun pt hpt => by
  obtain ⟨ps, a1, a2, a3⟩ := t pt hpt
  refine ⟨ps, e _ _ (ne_of a1 hp fun z => n1 _ z.symm) a1, a2, fun pos cv hc => ?_⟩
  obtain ⟨c0, e1, e2⟩ := a3 pos cv hc
  exact ⟨c0, e1, e _ _ (ne_of e2 hp fun z => n2 _ (by unfold LamX.CodeO at z; exact z.symm)) e2⟩
theorem tabs_but {Tb : List (Addr × Str)} {H H' : Hp} {pn cl : Addr} {b : Nat} (tabs : LamX.Tabs Tb H) (pen : Pen H pn cl b) (bt : But pn H H') : LamX.Tabs Tb H' := by
  obtain ⟨k, l, cs, p1, _⟩ := pen
  exact tabs_at tabs p1 (fun _ z => nomatch z) (fun _ z => nomatch z) bt
theorem Pen.ext {H H' : Hp} {pn cl : Addr} {b : Nat} (h : Pen H pn cl b) (e : LamX.ExtN H H') : Pen H' pn cl b := let ⟨k, l, cs, h1, h2, h3, h4⟩ := h; ⟨k, l, cs, e _ _ h1 (fun _ z => nomatch z), e _ _ h2 (fun _ z => nomatch z), h3, h4⟩
/-- the pen and the tables -/
structure PT (Tb : List (Addr × Str)) (H : Hp) (pn cl : Addr) (b : Nat) : Prop where
  pen : Pen H pn cl b
  tabs : LamX.Tabs Tb H
section
variable {Tb : List (Addr × Str)} {H H' : Hp} {pn cl : Addr} {b c : Nat}
theorem PT.same (h : PT Tb H pn cl b) (e : Same H H') : PT Tb H' pn cl b := ⟨h.pen.same e, h.tabs.ext e⟩
theorem PT.but (h : PT Tb H pn cl b) (e : But pn H H') (p : Pen H' pn cl c) : PT Tb H' pn cl c := ⟨p, tabs_but h.tabs h.pen e⟩
theorem PT.ext (h : PT Tb H pn cl b) (e : LamX.ExtN H H') (t : LamX.Tabs Tb H') : PT Tb H' pn cl b := ⟨h.pen.ext e, t⟩
end
theorem same_ins {H : Hp} {p dx C : Addr} {fs : List (Str × V)} (np : H p = none) (nd : H dx = none) : Same H (upd (upd H dx (.own p)) p (.ins C dx fs)) := fun b o z => by
  rw [upd_ne (ne_of_none z np), upd_ne (ne_of_none z nd)]
  exact z
theorem butI_same {H H1 H' : Hp} {p : Addr} (e : Same H H1) (np : H p = none) (b : ButI p H1 H') : Same H H' := fun c o z => b c o (ne_of_none z np) (e _ _ z)
theorem rSmD_of {K : PySem.W.Frag} {H : Hp} {t t2 : Addr} {us : List V} {Q : VK} (nt : H t = none) (nt2 : upd H t (.tup us) t2 = none) (fl : ∀ v ∈ us, Flat v) (q : ∀ H', Same H H' → Q (.bl false) H') : rSmD K (.ref t) (.ref t2) (upd (upd H t (.tup us)) t2 (.tup us)) Q :=
  ⟨.tuple (us.map dOf), .tup (SqT.of ((upd_ne (ne_of_none (show upd H t (.tup us) t = some (.tup us) from upd_same) nt2)).trans upd_same)) (dpAll_flat fl), .tup (SqT.of upd_same) (dpAll_flat fl), shT_flat fl, q _ ((same_new nt).trans (same_new nt2))⟩
theorem rSmE_of {K : PySem.W.Frag} {H : Hp} {t t2 : Addr} {us : List V} {Q : VK} (nt : H t = none) (nt2 : upd H t (.tup us) t2 = none) (fl : ∀ v ∈ us, Flat v) (q : ∀ H', Same H H' → Q (.bl true) H') : rSmE K (.ref t) (.ref t2) (upd (upd H t (.tup us)) t2 (.tup us)) Q :=
  ⟨.tuple (us.map dOf), .tup (SqT.of ((upd_ne (ne_of_none (show upd H t (.tup us) t = some (.tup us) from upd_same) nt2)).trans upd_same)) (dpAll_flat fl), .tup (SqT.of upd_same) (dpAll_flat fl), shT_flat fl, q _ ((same_new nt).trans (same_new nt2))⟩
theorem cutSeq {D : Ends} {t u : TS} {σ : St} {H : Hp} (R : St → Hp → Prop) (h1 : ∀ nx : St → Hp → Prop, (∀ σ' H', R σ' H' → nx σ' H') → t { D with nx := nx } σ H) (h2 : ∀ σ' H', R σ' H' → u D σ' H') : tSeq t u D σ H := h1 _ h2
end K61
set_option Elab.async false
set_option linter.all false
set_option maxRecDepth 100001
set_option maxHeartbeats 3999999
namespace K61
open PySem L2
open Builtin Builtin.Str Builtin.Int
/-- a number, in twos -/
def binT (n : Nat) : Str := ⟨((Nat.toDigits 2 n).map Char.toNat).toArray⟩
theorem name_int {a : Int} {t : Tok} {n : Nat} {k : String → Sem Fin} {m : Made} (g : Gives (k "int") m) : Gives (do let z ← typeNameOfCut n (.int a t); k z) m :=
  fun prog w A R s hq => wpAny_bind (PyProof.Rows.wpAny_typeNameOfCut_int (g prog w A R s hq))
theorem gives_ret {x y : Str} (h : x = y) : Gives (retStr x) (.str y) := by
  subst h
  exact .of_eq rfl
theorem dig2 (n : Nat) : ((Nat.toDigits 2 n).map fun c => (if (98 == 88) = true then c.toUpper else c).toNat) = (Nat.toDigits 2 n).map Char.toNat := rfl
theorem gives_bin (n : Nat) (t u : Tok) : Gives («int.__format__» ⟨[.int (n : Nat) t, .str "b" u], []⟩) (.str (binT n)) := by
  unfold «int.__format__»
  simp only [selfAndOne, noKeywords, Int.intOfSelf, asInt?, asStr?, List.isEmpty_nil, if_true, pure_bind, bind_pure, bind_assoc]
  rw [if_neg (fun z => nomatch z)]
  refine gives_after_typeNameOf (T := "str") (fun s => typeIs_str s _ _) (by decide) fun _ => ?_
  rw [if_neg (by decide +kernel), if_neg (by decide +kernel)]
  refine name_int ?_
  have hp : Float.parseFormatSpec (Str.ofString "b").cps.toList "int" 62 = .ok { fill := 32, align := 62, type := some 98 } := by rfl
  rw [hp]
  dsimp only
  rw [if_pos (by decide +kernel)]
  rw [show (some 98).getD (if ((Str.ofString "b").cps.back? == some 0) = true then 0 else 100) = 98 from rfl]
  clear hp
  generalize hf : ({ align := 62, type := some 98 } : Float.FormatSpec) = f
  have f1 : f.precision = none := by rw [← hf]
  have f2 : f.noNeg0 = false := by rw [← hf]
  have f3 : f.width = none := by rw [← hf]
  have f4 : f.alt = false := by rw [← hf]
  have f5 : f.sign = none := by rw [← hf]
  have f6 : f.grouping = none := by rw [← hf]
  have f7 : f.align = 62 := by rw [← hf]
  have f8 : f.fill = 32 := by rw [← hf]
  clear hf
  show Gives (if _ then _ else _) _
  rw [if_neg (by simp [f1])]
  show Gives (if _ then _ else _) _
  rw [if_neg (by simp [f2])]
  show Gives (if _ then _ else _) _
  rw [if_neg (by decide)]
  show Gives (if _ then _ else _) _
  rw [if_neg (by simp [f3])]
  show Gives (if _ then _ else _) _
  rw [if_neg (by simp [f3])]
  refine gives_ret ?_
  simp only [f4, Bool.false_eq_true, if_false]
  rw [decide_eq_false (show ¬ ((n : Nat) : Int) < 0 by omega), dig2, Int.natAbs_natCast, if_neg (by decide)]
  have ne : ((Nat.toDigits 2 n).map Char.toNat).isEmpty = false := by
    have := PyProof.Rows.tDigits_len_ge 2 n
    cases h : Nat.toDigits 2 n with
    | nil => rw [h] at this; simp at this
    | cons _ _ => rfl
  unfold binT
  generalize (Nat.toDigits 2 n).map Char.toNat = ds at ne ⊢
  obtain ⟨fl, al, sg, nz, at_, wd, gr, pr, ty⟩ := f
  dsimp only at f1 f2 f3 f4 f5 f6 f7 f8
  subst f1 f2 f3 f4 f5 f6 f7 f8
  conv => lhs; whnf
  simp [ne]
section
variable {X : Cx} {e : Expr} {te : TE} {p1 p2 p3 p4 p5 : Pos} {k : Option Str}
/-- a number, in twos -/
def tBin (te : TE) : TE := fun σ H Q => te σ H fun x H1 => ∃ n : Nat, x = .int (n : Nat) ∧ (binT n).length ≤ sizeLine ∧ Q (.str (binT n)) H1
open PyProof.Rows in
theorem pe_bin (he : PE X e te) : PE X (.JoinedStr [.FormattedValue e (-1) (some (.JoinedStr [.Constant (.str "b") 0 p1] p2)) p3] p4) (tBin te) := by
  refine pe_joined1 ⟨fun pins s σ H Q I h => ?_⟩
  refine wpAny_FormattedValue_spec (thn (he.run pins s σ H _ I h) fun v s1 hv => ?_)
  obtain ⟨x, H1, I1, r1, n, rfl, hz, q⟩ := hv
  obtain ⟨t, rfl⟩ := r1
  refine wpAny_JoinedStr_one (wpAny_Constant_str ⟨Str.ofString "b", _, rfl, ?_⟩)
  refine wpAny_formatField_spec (T := "int") (x := binT n) (by decide +kernel) (fun s' => typeIs_int s' _ _) PySem.F.slot_int_format PySem.F.entry_int_format PySem.F.args_int_format_2 (fun u => gives_bin n t u) ?_ (by decide +kernel) hz
  exact ⟨.str (binT n), H1, (I1.tok _).tok _, ⟨_, rfl⟩, q⟩
end
end K61
set_option linter.all false
set_option maxRecDepth 100001
set_option maxHeartbeats 3999999
namespace K61
/-! ### words of bits -/
abbrev W := List Bool
/-- no word begins another one -/
def PF (ws : List W) : Prop := ws.Pairwise fun a b => ¬ a <+: b ∧ ¬ b <+: a
def kr (L : Nat) (ws : List W) : Nat := (ws.map fun w => 2 ^ (L - w.length)).sum
inductive Full : List W → Prop
  | one : Full [[]]
  | two {zs os : List W} (a : Full zs) (b : Full os) : Full (zs.map (false :: ·) ++ os.map (true :: ·))
theorem Full.pos {ws : List W} (h : Full ws) : 1 ≤ ws.length := by
  induction h with
  | one => simp
  | two a b ia ib => rw [List.length_append, List.length_map]; omega
theorem Full.parts {ws : List W} (h : Full ws) (l : 2 ≤ ws.length) : ∃ zs os, Full zs ∧ Full os ∧ ws = zs.map (false :: ·) ++ os.map (true :: ·) := by
  cases h with
  | one => simp at l
  | two a b => exact ⟨_, _, a, b, rfl⟩
def tl (b : Bool) (ws : List W) : List W := ws.filterMap fun w => match w with
  | h :: t => if h = b then some t else none
  | [] => none
theorem kr_cons (L : Nat) (w : W) (ws : List W) : kr L (w :: ws) = 2 ^ (L - w.length) + kr L ws := by simp [kr]
theorem kr_split (L : Nat) : ∀ (ws : List W), (∀ w ∈ ws, w ≠ []) → kr (L + 1) ws = kr L (tl false ws) + kr L (tl true ws)
  | [], _ => rfl
  | [] :: r, h => absurd rfl (h _ List.mem_cons_self)
  | (x :: t) :: r, h => by
    have ih := kr_split L r fun w hw => h w (List.mem_cons_of_mem _ hw)
    have e : L + 1 - (x :: t).length = L - t.length := by rw [List.length_cons]; omega
    rw [kr_cons, e, ih]
    cases x with
    | false =>
      have e1 : tl false ((false :: t) :: r) = t :: tl false r := by simp [tl]
      have e2 : tl true ((false :: t) :: r) = tl true r := by simp [tl]
      rw [e1, e2, kr_cons]
      omega
    | true =>
      have e1 : tl true ((true :: t) :: r) = t :: tl true r := by simp [tl]
      have e2 : tl false ((true :: t) :: r) = tl false r := by simp [tl]
      rw [e1, e2, kr_cons]
      omega
theorem mem_tl {b : Bool} {ws : List W} {t : W} (h : t ∈ tl b ws) : b :: t ∈ ws := by
  unfold tl at h
  rw [List.mem_filterMap] at h
  obtain ⟨w, hw, e⟩ := h
  cases w with
  | nil => cases e
  | cons x r =>
    dsimp only at e
    by_cases c : x = b
    · rw [if_pos c] at e
      cases e
      rw [← c]
      exact hw
    · rw [if_neg c] at e
      cases e
theorem pf_tl {b : Bool} {ws : List W} (h : PF ws) : PF (tl b ws) := by
  unfold PF tl
  refine List.Pairwise.filterMap _ ?_ h
  intro a a' r t ht t' ht'
  cases a with
  | nil => cases ht
  | cons x s =>
    cases a' with
    | nil => cases ht'
    | cons x' s' =>
      dsimp only at ht ht'
      by_cases c : x = b
      · by_cases c' : x' = b
        · rw [if_pos c] at ht
          rw [if_pos c'] at ht'
          cases ht
          cases ht'
          subst c c'
          exact ⟨fun z => r.1 (List.cons_prefix_cons.mpr ⟨rfl, z⟩), fun z => r.2 (List.cons_prefix_cons.mpr ⟨rfl, z⟩)⟩
        · rw [if_neg c'] at ht'
          cases ht'
      · rw [if_neg c] at ht
        cases ht
theorem pf_nil {ws : List W} (h : PF ws) (m : [] ∈ ws) : ws = [[]] := by
  cases ws with
  | nil => cases m
  | cons w r =>
    obtain ⟨h1, h2⟩ := List.pairwise_cons.mp h
    rcases List.mem_cons.mp m with e | m
    · subst e
      cases r with
      | nil => rfl
      | cons v s => exact absurd (List.nil_prefix) (h1 v List.mem_cons_self).1
    · exact absurd (List.nil_prefix) (h1 [] m).2
theorem kraft : ∀ (L : Nat) (ws : List W), PF ws → (∀ w ∈ ws, w.length ≤ L) → kr L ws ≤ 2 ^ L
  | L, ws, h, hl => by
    by_cases m : [] ∈ ws
    · rw [pf_nil h m]
      simp [kr]
    · match L with
      | 0 =>
        cases ws with
        | nil => simp [kr]
        | cons w r =>
          have := hl w List.mem_cons_self
          have : w = [] := List.length_eq_zero_iff.mp (by omega)
          exact absurd (this ▸ List.mem_cons_self) m
      | L + 1 =>
        have nn : ∀ w ∈ ws, w ≠ [] := fun w hw z => m (z ▸ hw)
        rw [kr_split L ws nn]
        have a := kraft L (tl false ws) (pf_tl h) fun t ht => by have := hl _ (mem_tl ht); rw [List.length_cons] at this; omega
        have b := kraft L (tl true ws) (pf_tl h) fun t ht => by have := hl _ (mem_tl ht); rw [List.length_cons] at this; omega
        rw [Nat.pow_succ]
        omega
/-- in order -/
def cd (b : Bool) : Nat := if b then 49 else 48
def Asc (ws : List W) : Prop := ws.Pairwise fun a b => ¬ b.map cd < a.map cd
theorem asc_tl {b : Bool} {ws : List W} (h : Asc ws) : Asc (tl b ws) := by
  unfold Asc tl
  refine List.Pairwise.filterMap _ ?_ h
  intro a a' r t ht t' ht'
  cases a with
  | nil => cases ht
  | cons x s =>
    cases a' with
    | nil => cases ht'
    | cons x' s' =>
      dsimp only at ht ht'
      by_cases c : x = b
      · by_cases c' : x' = b
        · rw [if_pos c] at ht
          rw [if_pos c'] at ht'
          cases ht
          cases ht'
          subst c c'
          intro z
          exact r (by rw [List.map_cons, List.map_cons]; exact List.cons_lt_cons_self.mpr z)
        · rw [if_neg c'] at ht'
          cases ht'
      · rw [if_neg c] at ht
        cases ht
theorem asc_split : ∀ {ws : List W}, Asc ws → (∀ w ∈ ws, w ≠ []) → ws = (tl false ws).map (false :: ·) ++ (tl true ws).map (true :: ·)
  | [], _, _ => rfl
  | [] :: r, _, h => absurd rfl (h _ List.mem_cons_self)
  | (false :: t) :: r, a, h => by
    have ih := asc_split (List.pairwise_cons.mp a).2 fun w hw => h w (List.mem_cons_of_mem _ hw)
    have e1 : tl false ((false :: t) :: r) = t :: tl false r := by simp [tl]
    have e2 : tl true ((false :: t) :: r) = tl true r := by simp [tl]
    rw [e1, e2, List.map_cons, List.cons_append, ← ih]
  | (true :: t) :: r, a, h => by
    have ih := asc_split (List.pairwise_cons.mp a).2 fun w hw => h w (List.mem_cons_of_mem _ hw)
    have e1 : tl true ((true :: t) :: r) = t :: tl true r := by simp [tl]
    have e2 : tl false ((true :: t) :: r) = tl false r := by simp [tl]
    have z : tl false r = [] := by
      cases q : tl false r with
      | nil => rfl
      | cons s ss =>
        have m : s ∈ tl false r := by rw [q]; exact List.mem_cons_self
        have lt := (List.pairwise_cons.mp a).1 _ (mem_tl m)
        refine absurd ?_ lt
        rw [List.map_cons, List.map_cons]
        exact List.Lex.rel (by decide)
    rw [e1, e2, z]
    rw [z] at ih
    simp only [List.map_nil, List.nil_append, List.map_cons] at ih ⊢
    rw [← ih]
theorem full_of : ∀ (L : Nat) (ws : List W), PF ws → Asc ws → (∀ w ∈ ws, w.length ≤ L) → kr L ws = 2 ^ L → Full ws
  | L, ws, h, a, hl, e => by
    by_cases m : [] ∈ ws
    · rw [pf_nil h m]
      exact .one
    · match L with
      | 0 =>
        cases ws with
        | nil => simp [kr] at e
        | cons w r =>
          have := hl w List.mem_cons_self
          have : w = [] := List.length_eq_zero_iff.mp (by omega)
          exact absurd (this ▸ List.mem_cons_self) m
      | L + 1 =>
        have nn : ∀ w ∈ ws, w ≠ [] := fun w hw z => m (z ▸ hw)
        have l1 : ∀ b, ∀ t ∈ tl b ws, t.length ≤ L := fun b t ht => by have := hl _ (mem_tl ht); rw [List.length_cons] at this; omega
        rw [kr_split L ws nn, Nat.pow_succ] at e
        have k1 := kraft L (tl false ws) (pf_tl h) (l1 _)
        have k2 := kraft L (tl true ws) (pf_tl h) (l1 _)
        rw [asc_split a nn]
        exact .two (full_of L _ (pf_tl h) (asc_tl a) (l1 _) (by omega)) (full_of L _ (pf_tl h) (asc_tl a) (l1 _) (by omega))
end K61
set_option linter.all false
set_option maxRecDepth 100001
set_option maxHeartbeats 3999999
namespace K61
/-- so many bits of a number, the greatest first -/
def bits : Nat → Nat → W
  | 0, _ => []
  | l + 1, n => bits l (n / 2) ++ [decide (n % 2 = 1)]
theorem bits_len : ∀ (l n : Nat), (bits l n).length = l
  | 0, _ => rfl
  | l + 1, n => by rw [bits, List.length_append, bits_len l, List.length_singleton]
theorem bits_take : ∀ (d l n : Nat), (bits (l + d) n).take l = bits l (n / 2 ^ d)
  | 0, l, n => by
    rw [Nat.add_zero, Nat.pow_zero, Nat.div_one, List.take_of_length_le (by rw [bits_len]; exact Nat.le_refl _)]
  | d + 1, l, n => by
    rw [← Nat.add_assoc, bits, List.take_append_of_le_length (by rw [bits_len]; omega), bits_take d l, Nat.div_div_eq_div_mul, Nat.pow_succ, Nat.mul_comm]
theorem bits_inj : ∀ (l : Nat) {n m : Nat}, n < 2 ^ l → m < 2 ^ l → bits l n = bits l m → n = m
  | 0, n, m, hn, hm, _ => by
    rw [Nat.pow_zero] at hn hm
    omega
  | l + 1, n, m, hn, hm, e => by
    rw [bits, bits] at e
    obtain ⟨e1, e2⟩ := List.append_inj e (by rw [bits_len, bits_len])
    rw [Nat.pow_succ] at hn hm
    have := bits_inj l (n := n / 2) (m := m / 2) (by omega) (by omega) e1
    have e3 : decide (n % 2 = 1) = decide (m % 2 = 1) := List.singleton_inj.mp e2
    have : (n % 2 = 1 ↔ m % 2 = 1) := by
      rw [decide_eq_decide] at e3
      exact e3
    omega
/-- the words of a code told by its lengths alone; nx: the next number, of sz bits -/
def canoW : Nat → Nat → List Nat → List W
  | _, _, [] => []
  | nx, sz, l :: r => bits l (nx * 2 ^ (l - sz)) :: canoW (nx * 2 ^ (l - sz) + 1) l r
theorem canoW_lens : ∀ (nx sz : Nat) (ls : List Nat), (canoW nx sz ls).map List.length = ls
  | _, _, [] => rfl
  | nx, sz, l :: r => by rw [canoW, List.map_cons, bits_len, canoW_lens]
def kl (L : Nat) (ls : List Nat) : Nat := (ls.map fun l => 2 ^ (L - l)).sum
theorem kl_cons (L l : Nat) (ls : List Nat) : kl L (l :: ls) = 2 ^ (L - l) + kl L ls := by simp [kl]
theorem kr_kl (L : Nat) (ws : List W) : kr L ws = kl L (ws.map List.length) := by
  unfold kr kl
  rw [List.map_map]
  rfl
/-- the numbers stand in their room -/
structure Room_ (L nx sz : Nat) (ls : List Nat) : Prop where
  asc : ls.Pairwise (· ≤ ·)
  lo : ∀ l ∈ ls, sz ≤ l
  hi : ∀ l ∈ ls, l ≤ L
  szL : sz ≤ L
  fit : nx * 2 ^ (L - sz) + kl L ls ≤ 2 ^ L
theorem pow_cut {a b c : Nat} (h1 : a ≤ b) (h2 : b ≤ c) : 2 ^ (b - a) * 2 ^ (c - b) = 2 ^ (c - a) := by
  rw [← Nat.pow_add]
  congr 1
  omega
theorem Room_.next {L nx sz l : Nat} {r : List Nat} (h : Room_ L nx sz (l :: r)) : Room_ L (nx * 2 ^ (l - sz) + 1) l r := by
  obtain ⟨a1, a2⟩ := List.pairwise_cons.mp h.asc
  have l1 := h.lo l List.mem_cons_self
  have l2 := h.hi l List.mem_cons_self
  refine ⟨a2, a1, fun x hx => h.hi x (List.mem_cons_of_mem _ hx), l2, ?_⟩
  have f := h.fit
  rw [kl_cons] at f
  rw [Nat.add_mul, Nat.one_mul, Nat.mul_assoc, pow_cut l1 l2]
  omega
theorem canoW_mem : ∀ {L : Nat} {ls : List Nat} {nx sz : Nat}, Room_ L nx sz ls → ∀ w ∈ canoW nx sz ls, ∃ l n, w = bits l n ∧ l ∈ ls ∧ n < 2 ^ l ∧ nx * 2 ^ (L - sz) ≤ n * 2 ^ (L - l)
  | _, [], _, _, _, w, h => nomatch h
  | L, l :: r, nx, sz, R, w, h => by
    have l1 := R.lo l List.mem_cons_self
    have l2 := R.hi l List.mem_cons_self
    have R2 := R.next
    rw [canoW] at h
    rcases List.mem_cons.mp h with rfl | h
    · refine ⟨l, _, rfl, List.mem_cons_self, ?_, ?_⟩
      · have f := R2.fit
        have p : 0 < 2 ^ (L - l) := Nat.two_pow_pos _
        have : (nx * 2 ^ (l - sz) + 1) * 2 ^ (L - l) ≤ 2 ^ l * 2 ^ (L - l) := by
          rw [← Nat.pow_add, show l + (L - l) = L by omega]
          omega
        have := Nat.le_of_mul_le_mul_right this p
        omega
      · rw [Nat.mul_assoc, pow_cut l1 l2]
        exact Nat.le_refl _
    · obtain ⟨l', n, e, m, lt, le⟩ := canoW_mem R2 w h
      refine ⟨l', n, e, List.mem_cons_of_mem _ m, lt, Nat.le_trans ?_ le⟩
      rw [Nat.add_mul, Nat.mul_assoc, pow_cut l1 l2]
      omega
theorem bits_pre {l d n m : Nat} (hn : n < 2 ^ l) (hm : m < 2 ^ (l + d)) (h : bits l n <+: bits (l + d) m) : m < (n + 1) * 2 ^ d := by
  have e : bits l n = bits l (m / 2 ^ d) := by
    have := List.prefix_iff_eq_take.mp h
    rw [bits_len] at this
    rw [← bits_take]
    exact this
  have p : 0 < 2 ^ d := Nat.two_pow_pos _
  have lt : m / 2 ^ d < 2 ^ l := (Nat.div_lt_iff_lt_mul p).mpr (by rw [← Nat.pow_add]; exact hm)
  have := bits_inj l hn lt e
  rw [this, Nat.mul_comm]
  exact Nat.lt_mul_div_succ m p
theorem canoW_pf : ∀ {L : Nat} {ls : List Nat} {nx sz : Nat}, Room_ L nx sz ls → PF (canoW nx sz ls)
  | _, [], _, _, _ => .nil
  | L, l :: r, nx, sz, R => by
    have l2 := R.hi l List.mem_cons_self
    have R2 := R.next
    have n0 : nx * 2 ^ (l - sz) < 2 ^ l := by
      have f := R2.fit
      have p : 0 < 2 ^ (L - l) := Nat.two_pow_pos _
      have : (nx * 2 ^ (l - sz) + 1) * 2 ^ (L - l) ≤ 2 ^ l * 2 ^ (L - l) := by
        rw [← Nat.pow_add, show l + (L - l) = L by omega]
        omega
      have := Nat.le_of_mul_le_mul_right this p
      omega
    rw [canoW]
    refine List.Pairwise.cons (fun w hw => ?_) (canoW_pf R2)
    obtain ⟨l', n, rfl, m, lt, le⟩ := canoW_mem R2 w hw
    have ll : l ≤ l' := R2.lo l' m
    have lL : l' ≤ L := R2.hi l' m
    generalize nx * 2 ^ (l - sz) = k at n0 le ⊢
    have key : ¬ bits l k <+: bits l' n := fun h => by
      obtain ⟨d, rfl⟩ := Nat.exists_eq_add_of_le ll
      have b := bits_pre n0 lt h
      have c : n * 2 ^ (L - (l + d)) < (k + 1) * 2 ^ (L - l) := by
        have e : 2 ^ (L - l) = 2 ^ d * 2 ^ (L - (l + d)) := by
          rw [← Nat.pow_add]
          congr 1
          omega
        rw [e, ← Nat.mul_assoc]
        exact Nat.mul_lt_mul_of_pos_right b (Nat.two_pow_pos _)
      omega
    refine ⟨key, fun h => key ?_⟩
    have le2 := h.length_le
    rw [bits_len, bits_len] at le2
    have : bits l' n = bits l k := h.eq_of_length (by rw [bits_len, bits_len]; omega)
    rw [this]
    exact List.prefix_refl _
theorem room_start {L : Nat} {ls : List Nat} (a : ls.Pairwise (· ≤ ·)) (h : ∀ l ∈ ls, l ≤ L) (f : kl L ls ≤ 2 ^ L) : Room_ L 0 0 ls := ⟨a, fun _ _ => Nat.zero_le _, h, Nat.zero_le _, by rw [Nat.zero_mul, Nat.zero_add]; exact f⟩
end K61
set_option Elab.async false
set_option linter.all false
set_option maxRecDepth 100001
set_option maxHeartbeats 3999999
namespace K61
open PySem L2
/-! ### texts -/
def S (l : List Nat) : Str := ⟨l.toArray⟩
theorem S_list (l : List Nat) : (S l).cps.toList = l := rfl
theorem S_size (l : List Nat) : (S l).cps.size = l.length := by simp [S]
theorem S_len (l : List Nat) : (S l).length = l.length := S_size l
theorem S_get (l : List Nat) (i : Nat) : (S l).cps[i]? = l[i]? := by simp [S]
theorem S_inj {l m : List Nat} (h : S l = S m) : l = m := congrArg (fun z : Str => z.cps.toList) h
theorem S_of (z : Str) : z = S z.cps.toList := rfl
def isS : V → Bool
  | .str _ => true
  | _ => false
theorem ks_of {K : PySem.W.Frag} {t : String} {b : Bool} (h : kitB t "str" = some b) : PySem.W.kitOne K (.type t) (.type "str") = some b := h
theorem Kn.isStr (K : PySem.W.Frag) {H : Hp} {v : V} (k : Kn H v) : ∃ t : String, TyX K H v (.type t) ∧ PySem.W.kitOne K (.type t) (.type "str") = some (isS v) := by
  cases k with
  | non => exact ⟨_, .base .non, ks_of (show kitB "NoneType" "str" = some false by decide +kernel)⟩
  | bl b => exact ⟨_, .base (.bl b), ks_of (show kitB "bool" "str" = some false by decide +kernel)⟩
  | int i => exact ⟨_, .base (.int i), ks_of (show kitB "int" "str" = some false by decide +kernel)⟩
  | str x => exact ⟨_, .base (.str x), ks_of (show kitB "str" "str" = some true by decide +kernel)⟩
  | lst e => exact ⟨_, .base (.lst e), ks_of (show kitB "list" "str" = some false by decide +kernel)⟩
  | tup e => exact ⟨_, .base (.tup e), ks_of (show kitB "tuple" "str" = some false by decide +kernel)⟩
theorem yesT {te : TE} {σ : St} {H : Hp} {Q : VK} {N : Hp → Prop} (h : te σ H Q) : tYes σ H fun b H3 => if b = true then te σ H3 Q else N H3 := by
  unfold tYes
  exact iteT h
/-- a comprehension whose elements change nothing -/
theorem lcP {J : It} {n : Nat} {G : Hp → Prop} {Y : Nat → Hp → V → Hp → Prop} (wk : Walk J n G Y) {g : TG} {tt : L2.TT} {te : TE} {vs : List Nat} {σ : St} {H1 : Hp} {D : Addr} {Qd : Hp → Prop} (us fs : List V) (hn : us.length = n) (hf : fs.length = n) (hb : n ≤ 10000)
    (hY : ∀ (i : Nat) (x : V) (H H' : Hp), Y i H x H' → H' = H ∧ us[i]? = some x) (hG : ∀ H', Same H1 H' → G H') (nD : H1 D = none)
    (hs : ∀ (i : Nat) (x y : V) (H : Hp) (Q : VK) (N : Hp → Prop), us[i]? = some x → fs[i]? = some y → Same H1 H → Q y H → g x (wipe σ vs) H fun σ2 H2 => wipe σ2 vs = wipe σ vs ∧ tt σ2 H2 fun b H3 => if b = true then te σ2 H3 Q else N H3)
    (hd : ∀ H, Same H1 H → H D = some (.lst fs) → Qd H) :
    ∃ W : Nat → Nat → Hp → Prop, (∃ m, W 0 m (upd H1 D (.lst []))) ∧ ∀ i m H, W i m H →
      (J.stop i H ∧ Qd H) ∨ (J.go i H ∧ ∃ Nx : Hp → Prop, (∀ H', Nx H' → ∃ m', m' < m ∧ W (i + 1) m' H') ∧ ∀ x H', J.yld i H x H' → g x (wipe σ vs) H' fun σ2 H2 => wipe σ2 vs = wipe σ vs ∧ tt σ2 H2 fun b H3 =>
        if b = true then te σ2 H3 fun y H4 => ∃ acc, H4 D = some (.lst acc) ∧ acc.length < sizeLine ∧ Nx (upd H4 D (.lst (acc ++ [y]))) else Nx H3) := by
  refine lc_it wk (fun i H' => Same H1 H' ∧ H' D = some (.lst (fs.take i))) ⟨same_new nD, upd_same⟩ (fun i H' _ z => hG H' z.1) ?_ ?_
  · rintro i x H H' hi ⟨e1, hD⟩ y
    obtain ⟨rfl, hx⟩ := hY i x H H' y
    have hi2 : i < fs.length := by omega
    refine hs i x fs[i] H' _ _ hx (List.getElem?_eq_getElem hi2) e1 ⟨_, hD, ?_, fun b o z => ?_, ?_⟩
    · rw [List.length_take]
      exact small10 (by omega)
    · rw [upd_ne (ne_of_none z nD)]
      exact e1 _ _ z
    · rw [List.take_add_one, List.getElem?_eq_getElem hi2]
      exact upd_same
  · rintro H ⟨e1, hD⟩
    refine hd H e1 ?_
    rw [hD, List.take_of_length_le (by omega)]
/-- a comprehension over a text -/
theorem lcS {z : Str} {g : TG} {tt : L2.TT} {te : TE} {vs : List Nat} {σ : St} {H1 : Hp} {D : Addr} {Qd : Hp → Prop} (f : Nat → V) (hb : z.cps.size ≤ 10000) (nD : H1 D = none)
    (hs : ∀ c H (Q : VK) (N : Hp → Prop), c ∈ z.cps.toList → Same H1 H → Q (f c) H → g (.str ⟨#[c]⟩) (wipe σ vs) H fun σ2 H2 => wipe σ2 vs = wipe σ vs ∧ tt σ2 H2 fun b H3 => if b = true then te σ2 H3 Q else N H3)
    (hd : ∀ H, Same H1 H → H D = some (.lst (z.cps.toList.map f)) → Qd H) :
    ∃ W : Nat → Nat → Hp → Prop, (∃ m, W 0 m (upd H1 D (.lst []))) ∧ ∀ i m H, W i m H →
      ((Its z).stop i H ∧ Qd H) ∨ ((Its z).go i H ∧ ∃ Nx : Hp → Prop, (∀ H', Nx H' → ∃ m', m' < m ∧ W (i + 1) m' H') ∧ ∀ x H', (Its z).yld i H x H' → g x (wipe σ vs) H' fun σ2 H2 => wipe σ2 vs = wipe σ vs ∧ tt σ2 H2 fun b H3 =>
        if b = true then te σ2 H3 fun y H4 => ∃ acc, H4 D = some (.lst acc) ∧ acc.length < sizeLine ∧ Nx (upd H4 D (.lst (acc ++ [y]))) else Nx H3) := by
  refine lcP walk_str (sgns z) (z.cps.toList.map f) (by simp [sgns]) (by simp) hb ?_ (fun _ _ => True.intro) nD ?_ hd
  · rintro i x H H' ⟨rfl, c, hc, rfl⟩
    refine ⟨rfl, ?_⟩
    unfold sgns
    rw [List.getElem?_map, Array.getElem?_toList, hc]
    rfl
  · intro i x y H Q N hx hy e q
    unfold sgns at hx
    rw [List.getElem?_map] at hx hy
    cases hc : z.cps.toList[i]? with
    | none =>
      rw [hc] at hx
      cases hx
    | some c =>
      rw [hc] at hx hy
      cases hx
      cases hy
      exact hs c H Q N (List.mem_of_getElem? hc) e q
section
variable {X : Cx}
theorem pe_isStr {a : Expr} {es : List Expr} {t : TA} {p pos : Pos} (hm : X.mg "isinstance" = none) (ha : PA X (a :: es) t) (hg : Gl X "isinstance" := by rfl)
    (he : starEach (a :: es) X.env = (false, eval a X.env) :: starEach es X.env := by rfl) (hpl : (backTo pos (starEach es X.env)).any (·.1) = false := by rfl) :
    PE X (.Call (.Name "isinstance" p) (a :: es) [] pos) (tCB (rIsi X.K) t) := pe_isi hm ha hg he hpl
theorem pe_lenS {a : Expr} {es : List Expr} {t : TA} {p pos : Pos} (hm : X.mg "len" = none) (ha : PA X (a :: es) t) (hg : Gl X "len" := by rfl) (he : starEach (a :: es) X.env = (false, eval a X.env) :: starEach es X.env := by rfl)
    (hpl : (backTo pos (starEach es X.env)).any (·.1) = false := by rfl) :
    PE X (.Call (.Name "len" p) (a :: es) [] pos) (tCB (fun xs H Q => ∃ z, xs = [.str z] ∧ z.length ≤ sizeLine ∧ Q (.int z.length) H) t) := pe_callB call_len_str hg hm PySem.boot_len ha (he := he) (hpl := hpl)
theorem pe_all {a : Expr} {es : List Expr} {t : TA} {p pos : Pos} (hc : X.calm = true) (hm : X.mg "all" = none) (ha : PA X (a :: es) t) (hg : Gl X "all" := by rfl) (he : starEach (a :: es) X.env = (false, eval a X.env) :: starEach es X.env := by rfl)
    (hpl : (backTo pos (starEach es X.env)).any (·.1) = false := by rfl) :
    PE X (.Call (.Name "all" p) (a :: es) [] pos) (tCB (rAll X.K) t) := pe_callB (cr_all hc) hg hm (by decide +kernel) ha (he := he) (hpl := hpl)
end
/-! ### texts of bits -/
def bS (w : W) : Str := S (w.map cd)
theorem bS_len (w : W) : (bS w).length = w.length := by rw [bS, S_len, List.length_map]
def isBit (c : Nat) : Bool := c == 48 || c == 49
/-- a text of bits -/
def isBs : V → Bool
  | .str x => x.cps.toList.all isBit
  | _ => false
theorem cd_bit (b : Bool) : isBit (cd b) = true := by cases b <;> rfl
theorem bits_of : ∀ (l : List Nat), l.all isBit = true → ∃ w : W, l = w.map cd
  | [], _ => ⟨[], rfl⟩
  | c :: r, h => by
    rw [List.all_cons, Bool.and_eq_true] at h
    obtain ⟨w, e⟩ := bits_of r h.2
    have h1 := h.1
    unfold isBit at h1
    simp only [Bool.or_eq_true, beq_iff_eq] at h1
    rcases h1 with rfl | rfl
    · exact ⟨false :: w, by rw [e]; rfl⟩
    · exact ⟨true :: w, by rw [e]; rfl⟩
theorem isBs_of {v : V} (h : isBs v = true) : ∃ w : W, v = .str (bS w) := by
  cases v with
  | str x =>
    obtain ⟨w, e⟩ := bits_of _ h
    exact ⟨w, by rw [bS, ← e]; rfl⟩
  | _ => cases h
theorem isBs_bS (w : W) : isBs (.str (bS w)) = true := by
  show (w.map cd).all isBit = true
  rw [List.all_map, List.all_eq_true]
  intro b _
  exact cd_bit b
theorem cd_inj {a b : Bool} (h : cd a = cd b) : a = b := by cases a <;> cases b <;> first | rfl | cases h
theorem map_cd_inj : ∀ {a b : W}, a.map cd = b.map cd → a = b
  | [], [], _ => rfl
  | [], _ :: _, h => nomatch h
  | _ :: _, [], h => nomatch h
  | x :: a, y :: b, h => by
    rw [List.map_cons, List.map_cons] at h
    injection h with h1 h2
    rw [cd_inj h1, map_cd_inj h2]
theorem bS_inj {a b : W} (h : bS a = bS b) : a = b := map_cd_inj (S_inj h)
/-- what is left of a text whose ends are cut -/
theorem strip_some {g : Nat → Bool} {x : Str} (h : ¬ x.cps.toList.all g = true) : 0 < (Txt.stripBy g true true x).length := by
  unfold Txt.stripBy
  have key : stripLo g true x < stripHi g true x (stripLo g true x) ∧ stripHi g true x (stripLo g true x) ≤ x.length := by
    unfold stripLo stripHi
    rw [if_pos rfl, if_pos rfl]
    have hx : x.length = x.cps.toList.length := by rw [Array.length_toList]; rfl
    rw [hx]
    generalize x.cps.toList = l at h ⊢
    have e := List.takeWhile_append_dropWhile (p := g) (l := l)
    cases q : l.dropWhile g with
    | nil =>
      rw [q, List.append_nil] at e
      refine absurd ?_ h
      rw [List.all_eq_true]
      intro c hc
      rw [← e] at hc
      have := List.all_takeWhile (p := g) (l := l)
      exact List.all_eq_true.mp this c hc
    | cons c r =>
      have gc : g c = false := by
        have := List.head?_dropWhile_not g l
        rw [q] at this
        simpa using this
      have dl : l.drop (l.takeWhile g).length = c :: r := by
        have e2 : l = l.takeWhile g ++ (c :: r) := by rw [← q]; exact e.symm
        exact (congrArg (fun z => z.drop (l.takeWhile g).length) e2).trans List.drop_left
      rw [dl, List.reverse_cons]
      have tw : ((r.reverse ++ [c]).takeWhile g).length ≤ r.length := by
        have hh := (List.takeWhile_prefix (p := g) (l := r.reverse ++ [c])).length_le
        rw [List.length_append, List.length_reverse, List.length_singleton] at hh
        rcases Nat.lt_or_ge r.length ((r.reverse ++ [c]).takeWhile g).length with lt | ge
        · have full : (r.reverse ++ [c]).takeWhile g = r.reverse ++ [c] := (List.takeWhile_prefix (p := g) (l := r.reverse ++ [c])).eq_of_length (by rw [List.length_append, List.length_reverse, List.length_singleton]; omega)
          have ga := List.all_takeWhile (p := g) (l := r.reverse ++ [c])
          rw [full, List.all_eq_true] at ga
          rw [ga c (by simp)] at gc
          cases gc
        · exact ge
      have ll : l.length = (l.takeWhile g).length + (r.length + 1) := by
        have := congrArg List.length e
        rw [List.length_append, q, List.length_cons] at this
        omega
      omega
  cases z : stripSame g true true x with
  | true =>
    rw [if_pos rfl]
    omega
  | false =>
    rw [if_neg (by decide)]
    unfold stripped
    have : (Builtin.Str.strSub x (stripLo g true x) (stripHi g true x (stripLo g true x))).length = stripHi g true x (stripLo g true x) - stripLo g true x := by
      show (x.cps.extract _ _).size = _
      rw [Array.size_extract]
      have : x.cps.size = x.length := rfl
      omega
    omega
end K61
set_option Elab.async false
set_option linter.all false
set_option maxRecDepth 100001
set_option maxHeartbeats 3999999
namespace K61
open PySem L2
abbrev sFwb : Stmt := topS 34
structure Bs (mg : Str → Option Value) : Prop where
  str : mg "str" = none
  all : mg "all" = none
  any : mg "any" = none
  sum : mg "sum" = none
  zip : mg "zip" = none
  sorted : mg "sorted" = none
/-! ### words in order -/
theorem lt_nil {l : List Nat} : ¬ l < [] := fun h => nomatch h
/-- between a word and one that it begins there stand only words that it begins -/
theorem between : ∀ {a b c : W}, ¬ c.map cd < a.map cd → ¬ b.map cd < c.map cd → a <+: b → a <+: c
  | [], _, _, _, _, _ => List.nil_prefix
  | x :: a, b, c, h1, h2, p => by
    obtain ⟨t, rfl⟩ := p
    cases c with
    | nil => exact absurd List.Lex.nil h1
    | cons y c =>
      rw [List.map_cons, List.map_cons] at h1
      rw [List.cons_append, List.map_cons, List.map_cons] at h2
      have e : x = y := by
        refine cd_inj (Nat.le_antisymm ?_ ?_)
        · exact Nat.not_lt.mp fun z => h1 (List.Lex.rel z)
        · exact Nat.not_lt.mp fun z => h2 (List.Lex.rel z)
      subst e
      rw [List.cons_prefix_cons]
      exact ⟨rfl, between (fun z => h1 (List.Lex.cons z)) (fun z => h2 (List.Lex.cons z)) (List.prefix_append a t)⟩
theorem pre_lt : ∀ {a b : W}, b <+: a → ¬ b.map cd < a.map cd → b = a
  | [], b, p, _ => List.prefix_nil.mp p
  | x :: a, [], _, h => absurd List.Lex.nil h
  | x :: a, y :: b, p, h => by
    obtain ⟨e0, p2⟩ := List.cons_prefix_cons.mp p
    subst e0
    rw [List.map_cons, List.map_cons] at h
    have e := pre_lt p2 fun z => h (List.Lex.cons z)
    rw [e]
theorem pf_of_adj : ∀ {ws : List W}, Asc ws → (∀ (i : Nat) (a b : W), ws[i]? = some a → ws[i + 1]? = some b → ¬ a <+: b) → PF ws
  | [], _, _ => .nil
  | a :: r, s, h => by
    obtain ⟨s1, s2⟩ := List.pairwise_cons.mp s
    refine List.Pairwise.cons (fun b hb => ?_) (pf_of_adj s2 fun i x y hx hy => h (i + 1) x y (by simpa using hx) (by simpa using hy))
    cases r with
    | nil => cases hb
    | cons c r =>
      have nc : ¬ a <+: c := h 0 a c rfl rfl
      have np : ¬ a <+: b := fun p => nc (by
        rcases List.mem_cons.mp hb with rfl | hb
        · exact p
        · exact between (s1 c List.mem_cons_self) ((List.pairwise_cons.mp s2).1 b hb) p)
      exact ⟨np, fun p => np (by rw [pre_lt p (s1 b hb)]; exact List.prefix_refl _)⟩
/-! ### first_wrong_bit -/
theorem str1_eq (c d : Nat) : ((⟨#[d]⟩ : Str) == ⟨#[c]⟩) = (c == d) := by
  rw [Bool.eq_iff_iff]
  simp only [beq_iff_eq, Str.mk.injEq]
  constructor
  · intro h
    simpa using h.symm
  · intro h
    rw [h]
theorem inV_bit (c : Nat) : inV (.str ⟨#[c]⟩) [.str "0", .str "1"] = isBit c := by
  show ((⟨#[48]⟩ : Str) == ⟨#[c]⟩ || ((⟨#[49]⟩ : Str) == ⟨#[c]⟩ || false)) = isBit c
  rw [str1_eq, str1_eq, Bool.or_false]
  rfl

theorem kB_str {K : PySem.W.Frag} {H : Hp} {v : V} (k : Kn H v) : ∃ t : String, TyX K H v (.type t) ∧ PySem.W.kitOne K (.type t) (.type "str") = some (isS v) := k.isStr K
def spFwb : Sp := fun vs H Q _ => ∃ v, vs = [v] ∧ Kn H v ∧ (∀ x, v = .str x → x.length ≤ 10000) ∧ ∀ (r : Option Nat) H', Same H H' → (r = none ↔ isBs v = true) → Q (match r with | none => .non | some i => .int (i : Nat)) H'
section
variable {P : Program} {w : World} {K : PySem.W.Frag} {mg : Str → Option Value} {base : Heap}
theorem scFwb : FnScope ["value", "index", "bit"] ["value"] (defScope sFwb) := ⟨rfl, rfl, rfl, by decide +kernel, rfl, by decide +kernel, by decide +kernel⟩
theorem ok_fwb {f : Addr} {fd : FuncData} (F : Fun K "first_wrong_bit" "first_wrong_bit" sFwb f fd) (B : Bi mg) (Z : Bs mg) : FnOk P w K mg base CX0 1 f fd ["value"] spFwb := by
  refine F.ok scFwb (fun vs H Q E h => ?_) (fun cdv A outer s H vs Q E hr h => ?_)
  · obtain ⟨v, rfl, _⟩ := h
    rfl
  · obtain ⟨v, rfl, k, len, q⟩ := h
    refine ⟨_, pss_cons (ps_if (pt_not (pt_val (pe_isStr B.isi (pa_cons (pv 0) (pa_cons (pe_ty "str" Z.str) pa_nil))))) (pss_one (ps_ret pe_int)) pss_nil)
      (pss_cons (ps_if (pt_not (pt_truth (pe_bm PySem.F.plainAttrs_str PySem.F.slot_str_strip PySem.F.type_str_strip mt_stripChars (pv 0) (pa_cons pe_str pa_nil)) (fun _ => rfl))) (pss_one (ps_ret pe_non)) pss_nil)
      (pss_cons (ps_for PassesOwn.never rfl (L2.pi_enS rfl B.enum (pa_cons (pv 0) pa_nil)) (pg_tup rfl (pgs_cons (pg_name (i := 1) scFwb.nd rfl (.inl rfl)) (pgs_cons (pg_name (i := 2) scFwb.nd rfl (.inl rfl)) pgs_nil)))
        (pss_one (ps_if (pt_cmpR op_notIn_seq (pv 2) (pe_tup (pa_cons pe_str (pa_cons pe_str pa_nil))) rfl) (pss_one (ps_ret (pv 1))) pss_nil)))
      (pss_one (ps_ret pe_non)))), ?_⟩
    obtain ⟨t, ty, k1⟩ := k.isStr K
    refine ⟨_, rfl, _, _, _, _, _, rfl, .ty "str", ty, k1, _, rfl, ?_⟩
    cases v with
    | str x =>
      have lx : x.length ≤ 10000 := len x rfl
      refine iteF ⟨_, rfl, rfl, x, _, rfl, rfl, Nat.le_of_lt (small10 lx), _, ⟨?_, rfl⟩, ?_⟩
      · have h1 : (Txt.stripChars x "01").length ≤ x.length := by
          unfold Txt.stripChars Txt.stripBy
          split
          · exact Nat.le_refl _
          · unfold stripped
            show (x.cps.extract _ _).size ≤ x.cps.size
            rw [Array.size_extract]
            omega
        exact Nat.le_trans h1 (Nat.le_of_lt (small10 lx))
      have isB : isBs (.str x) = x.cps.toList.all isBit := rfl
      have bit01 : (("01" : Str).cps.contains : Nat → Bool) = isBit := by
        funext c
        show (#[48, 49] : Array Nat).contains c = isBit c
        unfold isBit
        simp [Array.contains]
      by_cases z : (((Txt.stripChars x "01").length : Int) != 0) = true
      · rw [z]
        refine iteF ?_
        refine ⟨_, rfl, x, rfl, for_it walk_enS (fun i σ H' => ∃ (a b : Option V), σ = [some (.str x), a, b] ∧ Same H H' ∧ ∀ j c, j < i → x.cps[j]? = some c → isBit c = true) ⟨none, none, rfl, Same.refl H, fun j c h => absurd h (Nat.not_lt_zero _)⟩ (fun _ _ _ _ _ => True.intro) ?_ ?_⟩
        · rintro i y σ H1 H2 hi ⟨a, b, rfl, e, ok⟩ ⟨T0, y1, y2, rfl, nT0, rfl, ey1, ey2⟩
          have ey1 : y1 = .int (i : Nat) := (Option.some.inj ey1).symm
          subst ey1
          have ey2 : (x.cps[i]?).map (fun c => V.str ⟨#[c]⟩) = some y2 := ey2
          cases hc : x.cps[i]? with
          | none => rw [hc] at ey2; cases ey2
          | some c =>
            rw [hc] at ey2
            have ey2 : y2 = .str ⟨#[c]⟩ := (Option.some.inj ey2).symm
            subst ey2
            have e2 : Same H (upd H1 T0 (.tup [.int (i : Nat), .str ⟨#[c]⟩])) := e.trans (same_new nT0)
            refine ⟨T0, _, rfl, SqT.of upd_same, rfl, _, _, rfl, _, _, rfl, rfl, ?_⟩
            refine ⟨_, rfl, by show 2 ≤ sizeLine; decide, fun t2 nt2 => ⟨t2, _, rfl, .inr (SqT.of upd_same), rfl, rfl, _, rfl, ?_⟩⟩
            have e3 := e2.trans (same_new (o := .tup [.str "0", .str "1"]) nt2)
            rw [show (if true = true then !inV (.str ⟨#[c]⟩) [.str "0", .str "1"] else inV (.str ⟨#[c]⟩) [.str "0", .str "1"]) = !isBit c by rw [if_pos rfl, inV_bit]]
            cases hb : isBit c with
            | false =>
              refine iteT ⟨_, rfl, q (some i) _ e3 ⟨(fun z => nomatch z), fun z => ?_⟩⟩
              rw [isB, List.all_eq_true] at z
              have := z c (by rw [← Array.getElem?_toList] at hc; exact List.mem_of_getElem? hc)
              rw [hb] at this
              cases this
            | true =>
              refine iteF ⟨_, _, rfl, e3, fun j d hj hd => ?_⟩
              rcases Nat.lt_succ_iff_lt_or_eq.mp hj with h | rfl
              · exact ok j d h hd
              · have := Option.some.inj (hc.symm.trans hd)
                rw [← this]
                exact hb
        · rintro σ H1 ⟨a, b, rfl, e, ok⟩
          refine q none H1 e ⟨fun _ => ?_, fun _ => rfl⟩
          rw [isB, List.all_eq_true]
          intro c hc
          obtain ⟨j, hj⟩ := List.getElem?_of_mem hc
          rw [Array.getElem?_toList] at hj
          exact ok j c (Array.getElem?_eq_some_iff.mp hj).1 hj
      · have z2 : (((Txt.stripChars x "01").length : Int) != 0) = false := by simpa using z
        rw [z2]
        refine iteT (q none H (Same.refl H) ⟨fun _ => ?_, fun _ => rfl⟩)
        rw [isB]
        by_cases c : x.cps.toList.all isBit = true
        · exact c
        · have := strip_some c
          rw [← bit01] at this
          have e : (Txt.stripChars x "01").length = (Txt.stripBy (("01" : Str).cps.contains) true true x).length := rfl
          rw [← e] at this
          simp at z2
          omega
    | _ => exact iteT (q (some 0) H (Same.refl H) ⟨(fun z => nomatch z), (fun z => nomatch z)⟩)
end
end K61
set_option Elab.async false
set_option linter.all false
set_option maxRecDepth 100001
set_option maxHeartbeats 3999999
namespace K61
open PySem L2
abbrev sChW : Stmt := topS 33
theorem sw_bS (a b : W) : Txt.startswith (bS a) (bS b) = decide (b <+: a) := by
  rw [Bool.eq_iff_iff, decide_eq_true_iff]
  unfold Txt.startswith
  rw [Bool.and_eq_true, decide_eq_true_iff, bS_len, bS_len, Nat.zero_add]
  unfold Builtin.Str.subAt
  rw [beq_iff_eq, bS_len, Nat.zero_add]
  have e : (bS a).cps.extract 0 b.length = (bS b).cps ↔ (a.map cd).take b.length = b.map cd := by
    rw [← Array.toList_inj, Array.toList_extract]
    show List.extract (a.map cd) 0 b.length = b.map cd ↔ _
    rw [List.extract_eq_take_drop, List.drop_zero, Nat.sub_zero]
  rw [e, ← List.map_take]
  constructor
  · rintro ⟨_, h⟩
    rw [List.prefix_iff_eq_take, map_cd_inj h]
  · intro h
    refine ⟨h.length_le, ?_⟩
    rw [← List.prefix_iff_eq_take.mp h]
def wV (w : W) : V := .str (bS w)
def okB (l : Nat) (v : V) : Bool := match v with
  | .str x => isBs (.str x) && decide (x.length = l)
  | _ => false
/-- one of two words begins the other -/
def bg (a b : W) : Prop := a <+: b ∨ b <+: a
def spChW (CB CE : Addr) : Sp := fun vs H Q E => ∃ (l s : Addr) (ls : List Nat) (ts : List V), vs = [.ref l, .ref s] ∧ H l = some (.lst (ls.map fun n : Nat => V.int (n : Nat))) ∧ LT H s ts ∧ ts.length = ls.length ∧ ts.length ≤ 60 ∧ (∀ v ∈ ts, Kn H v ∧ ∀ x, v = .str x → x.length ≤ 10000) ∧
  ((∃ i v, ts[i]? = some v ∧ okB (ls.getD i 0) v = false ∧ (∀ j u, j < i → ts[j]? = some u → okB (ls.getD j 0) u = true) ∧ ∀ d H', Rsd H H' d [("index", .int (i : Nat))] → E (.ref CB) (some d) H') ∨
   (∃ ws : List W, ts = ws.map wV ∧ ws.map List.length = ls ∧
     ((H s = some (.lst ts) ∧ ∃ i j a b, i < j ∧ ws[i]? = some a ∧ ws[j]? = some b ∧ bg a b ∧ (∀ i' j' x y, i' < j' → (i' < i ∨ (i' = i ∧ j' < j)) → ws[i']? = some x → ws[j']? = some y → ¬ bg x y) ∧ ∀ d H', Rsd H H' d [("other", .int (j : Nat)), ("index", .int (i : Nat))] → E (.ref CE) (some d) H') ∨
      (PF ws ∧ ∀ H', Same H H' → Q .non H'))))
abbrev NChW : List Str := ["lengths", "words", "index", "word", "order", "other", "at"]
section
variable {X : Cx}
theorem pe_any {a : Expr} {es : List Expr} {t : TA} {p pos : Pos} (hc : X.calm = true) (hm : X.mg "any" = none) (ha : PA X (a :: es) t) (hg : Gl X "any" := by rfl) (he : starEach (a :: es) X.env = (false, eval a X.env) :: starEach es X.env := by rfl)
    (hpl : (backTo pos (starEach es X.env)).any (·.1) = false := by rfl) :
    PE X (.Call (.Name "any" p) (a :: es) [] pos) (tCB (rAny X.K) t) := pe_callB (cr_any hc) hg hm (by decide +kernel) ha (he := he) (hpl := hpl)
end
section
variable {X : Cx} {tg e : Expr}
/-- enumerate of a list or a tuple -/
def iEnS (K : PySem.W.Frag) (ta : TA) : TI := fun σ H R => ta σ H fun vs H1 => ∃ a xs, vs = [.ref a] ∧ Sq K H1 a xs ∧ ∀ (J : It) (G : Hp → Prop), Walk J xs.length G (YPair (fun i => some (.int (i : Nat))) (fun i => xs[i]?)) → (∀ H', (∀ o, H1 a = some o → H' a = some o) → G H') → R J H1
open PySem.Spec PyProof.Rows in
theorem pi_en {ta : TA} {p pos tp : Pos} {es : List Expr} {kk : Nat} (hm : X.mg "enumerate" = none) (ha : PA X [e] ta) (hg : Gl X "enumerate" := by rfl) (hs : starEach [e] X.env = [(false, eval e X.env)] := by rfl) :
    PI X (.Tuple es kk tp) (.Call (.Name "enumerate" p) [e] [] pos) (iEnS X.K ta) := by
  constructor
  intro pins s σ H R I h
  refine Call_ (ld_blt I hg hm PyProof.Rows.boot_enumerate (PyProof.Rows.callWith_type1 (thn (ha.run pos pins s σ H _ I h) fun us s1 hh => ?_) hs rfl))
  obtain ⟨vs, H1, I1, r1, a, xs, ev, sq, k⟩ := hh
  subst ev
  have near : ∀ b ∈ [s1.heap.objs.size + 1, s1.heap.objs.size], FpOk X pins H1 b := fun b hb => by
    have ge : s1.heap.objs.size ≤ b := by
      rcases two_of hb with z | z
      · rw [z]; exact Nat.le_add_right _ _
      · rw [z]; exact Nat.le_refl _
    exact I1.fpOk ge (I1.hok.fresh ge)
  cases r1 with
  | cons r rr =>
    cases rr
    cases r
    rcases sq with hq | hq
    · obtain ⟨its, rv, p1, hz⟩ := I1.list hq
      refine call_enumerate_list p1.isList fun h2 he hd _ hk => wpAny_pyIter_enum he ?_
      exact ⟨s1.heap.objs.size + 1, _, _, _, H1, rfl, I1.kept (t' := s1.toks) hk, turn_enum a (s1.heap.objs.size + 1) s1.heap.objs.size, ⟨⟨.none, he⟩, hd, Nat.succ_ne_self _⟩, near, k _ _ walk_enum fun H' e => sqL_at hq e⟩
    · obtain ⟨its, rv, p2, hz⟩ := I1.tuple hq
      refine enumT_call (begins_tuple a its.toArray) p2 fun h2 he hd hk => wpAny_pyIter_enum he ?_
      exact ⟨s1.heap.objs.size + 1, _, _, _, H1, rfl, I1.kept (t' := s1.toks) hk, turn_enT a (s1.heap.objs.size + 1) s1.heap.objs.size, ⟨⟨.none, he⟩, ⟨_, hd, rfl, rfl⟩, Nat.succ_ne_self _⟩, near, k _ _ walk_enT fun H' e => sqT_at hq e⟩
end
theorem pe_bmK {X : Cx} (K : PySem.W.Frag) (hK : X.K = K) {o e : Expr} {es : List Expr} {to : TE} {t : TA} {name : Str} {apos cpos : Pos} {T id : String} {r : V → List V → Hp → VK → Prop} (pa : PlainAttrs T) (slot : Slot T name id) (hty : typeOf (.builtin id) = pure (.type "method_descriptor")) (hm : MtR X id r) (ho : PE X o to) (ha : PA X (e :: es) t)
    (hbase : attributeBase o name X.env (eval o X.env) = eval o X.env := by rfl)
    (hfew : ((((backTo cpos (starEach (e :: es) X.env)).all fun x => !x.1) && (backToKw cpos (keywordEach [] X.env)).all fun x => x.1.isSome) && decide (((e :: es).length + ([] : List Keyword).length + if ([] : List Keyword).isEmpty = true then 0 else 1) < 30)) = true := by rfl)
    (hline : (apos.endLine == cpos.line) = true := by rfl) (hs : starEach (e :: es) X.env = (false, eval e X.env) :: starEach es X.env := by rfl) (hpl : ((backTo cpos (starEach es X.env)).any fun x => x.1) = false := by rfl) :
    PE X ((o.Attribute name apos).Call (e :: es) [] cpos) (tBM K T r to t) := by
  subst hK
  exact pe_bm pa slot hty hm ho ha hbase hfew hline hs hpl
section
variable {P : Program} {w : World} {K : PySem.W.Frag} {mg : Str → Option Value} {base : Heap}
/-- a comprehension whose i-th item is f i, whatever is made new -/
theorem lcM {J : It} {n : Nat} {G : Hp → Prop} {Y : Nat → Hp → V → Hp → Prop} (wk : Walk J n G Y) {g : TG} {te : TE} {vs : List Nat} {σ : St} {H1 : Hp} {D : Addr} {Qd : Hp → Prop} (f : Nat → V) (hb : n ≤ 10000) (nD : H1 D = none) (hG : ∀ H', Same H1 H' → G H')
    (hs : ∀ (i : Nat) (x : V) (H2 H3 : Hp) (N : VK), i < n → Same H1 H2 → Y i H2 x H3 → (∀ H4, Same H2 H4 → N (f i) H4) → g x (wipe σ vs) H3 fun σ2 H4 => wipe σ2 vs = wipe σ vs ∧ te σ2 H4 N)
    (hd : ∀ H', Same H1 H' → H' D = some (.lst ((List.range n).map f)) → Qd H') :
    ∃ W : Nat → Nat → Hp → Prop, (∃ m, W 0 m (upd H1 D (.lst []))) ∧ ∀ i m H, W i m H →
      (J.stop i H ∧ Qd H) ∨ (J.go i H ∧ ∃ Nx : Hp → Prop, (∀ H', Nx H' → ∃ m', m' < m ∧ W (i + 1) m' H') ∧ ∀ x H', J.yld i H x H' → g x (wipe σ vs) H' fun σ2 H2 => wipe σ2 vs = wipe σ vs ∧ tYes σ2 H2 fun b H3 =>
        if b = true then te σ2 H3 fun y H4 => ∃ acc, H4 D = some (.lst acc) ∧ acc.length < sizeLine ∧ Nx (upd H4 D (.lst (acc ++ [y]))) else Nx H3) := by
  refine lc_it wk (fun i H' => Same H1 H' ∧ H' D = some (.lst ((List.range i).map f))) ⟨same_new nD, upd_same⟩ (fun i H' _ z => hG H' z.1) ?_ (fun H' z => hd H' z.1 z.2)
  rintro i x H H' hi ⟨e1, hD⟩ y
  refine hs i x H H' _ hi e1 y fun H4 e4 => ⟨_, e4 _ _ hD, ?_, fun b o z => ?_, ?_⟩
  · rw [List.length_map, List.length_range]
    exact small10 (by omega)
  · rw [upd_ne (ne_of_none z nD)]
    exact e4 _ _ (e1 _ _ z)
  · rw [upd_same, List.range_succ, List.map_append]
    rfl
theorem nlt_trans {a b c : List Nat} (h1 : ¬ b < a) (h2 : ¬ c < b) : ¬ c < a := List.not_lt.mpr (List.le_trans (List.not_lt.mp h1) (List.not_lt.mp h2))
theorem rising : ∀ {r : List Str} {p : Str}, PyProof.Rows.risingS p r = true → (∀ y ∈ r, ¬ y.cps.toList < p.cps.toList) ∧ r.Pairwise fun a b => ¬ b.cps.toList < a.cps.toList
  | [], _, _ => ⟨(fun _ h => nomatch h), List.Pairwise.nil⟩
  | x :: r, p, h => by
    unfold PyProof.Rows.risingS at h
    rw [Bool.and_eq_true, PyProof.Rows.ltCps_eq] at h
    have h1 : ¬ x.cps.toList < p.cps.toList := by simpa using h.1
    obtain ⟨a, b⟩ := rising h.2
    refine ⟨fun y hy => ?_, .cons a b⟩
    rcases List.mem_cons.mp hy with rfl | hy
    · exact h1
    · exact nlt_trans h1 (a y hy)
theorem asc_of {ws : List W} (h : PyProof.Rows.sortedS (ws.map bS) = true) : Asc ws := by
  cases ws with
  | nil => exact .nil
  | cons x r =>
    obtain ⟨a, b⟩ := rising (r := r.map bS) h
    refine .cons (fun y hy => a (bS y) (List.mem_map.mpr ⟨y, hy, rfl⟩)) ?_
    exact (List.pairwise_map.mp b)
theorem perm_bS {ys : List Str} {ws : List W} (h : ys.Perm (ws.map bS)) : ∃ us : List W, ys = us.map bS ∧ us.Perm ws := by
  refine ⟨ys.map fun y => y.cps.toList.map (· == 49), ?_, ?_⟩
  · rw [List.map_map]
    conv => lhs; rw [← List.map_id ys]
    refine List.map_congr_left fun y hy => ?_
    obtain ⟨w, _, rfl⟩ := List.mem_map.mp (h.subset hy)
    show bS w = bS (((bS w).cps.toList).map (· == 49))
    congr 1
    show w = (w.map cd).map (· == 49)
    rw [List.map_map]
    conv => lhs; rw [← List.map_id w]
    exact List.map_congr_left fun b _ => by cases b <;> rfl
  · have := h.map fun y : Str => y.cps.toList.map (· == 49)
    rw [List.map_map] at this
    have e : ws.map ((fun y : Str => y.cps.toList.map (· == 49)) ∘ bS) = ws := by
      conv => rhs; rw [← List.map_id ws]
      refine List.map_congr_left fun w _ => ?_
      show (w.map cd).map (· == 49) = w
      rw [List.map_map]
      conv => rhs; rw [← List.map_id w]
      exact List.map_congr_left fun b _ => by cases b <;> rfl
    rw [e] at this
    exact this
theorem PF.perm {a b : List W} (h : PF a) (p : a.Perm b) : PF b := (p.pairwise_iff (fun {x y} z => ⟨z.2, z.1⟩)).mp h
theorem scChW : FnScope NChW ["lengths", "words"] (defScope sChW) := ⟨rfl, rfl, rfl, by decide +kernel, rfl, by decide +kernel, by decide +kernel⟩
theorem ok_chW {f CB CE : Addr} {fd : FuncData} (F : Fun K "check_words" "check_words" sChW f fd) (B : Bi mg) (Z : Bs mg) (cF : Cal CX0 P w K mg base 1 "first_wrong_bit" spFwb)
    (xB : Xc P w K mg base 2 "BadBits" CB (spX1 K "index")) (nB : PySem.W.findIn K (.ref CB) "index" = some none) (xE : Xc P w K mg base 2 "Begins" CE (spX2 K "index" "other")) (nE : PySem.W.findIn K (.ref CE) "index" = some none ∧ PySem.W.findIn K (.ref CE) "other" = some none) :
    FnOk P w K mg base (L2.CX P w) 4 f fd ["lengths", "words"] (spChW CB CE) := by
  refine F.okX scChW (fun vs H Q E h => ?_) (fun cdv A outer s H vs Q E hr h => ?_)
  · obtain ⟨l, s, ls, ts, rfl, _⟩ := h
    rfl
  · obtain ⟨l0, s0, ls, ts, rfl, hl, hs, len, l60, kn, out⟩ := h
    refine ⟨_, pss_cons (ps_for (passes_of rfl) rfl (pi_en B.enum (pa_cons (pv 1) pa_nil)) (pg_tup rfl (pgs_cons (pg_name (i := 2) scChW.nd rfl (.inl rfl)) (pgs_cons (pg_name (i := 3) scChW.nd rfl (.inl rfl)) pgs_nil)))
        (pss_one (ps_if (PW.pt (pw_or (pt_cmpR op_notN (pe_c cF hr pass0 (pa_cons (pv 3) pa_nil)) pe_non (nomark _)) (pw_or1 (pt_cmpR op_ne (pe_lenS B.len (pa_cons (pv 3) pa_nil)) (pe_ix (ix_listK K rfl) (pv 0) (pv 2) (fun _ _ => rfl)) (nomark _))))) (pss_one (ps_raise rfl (takes_of rfl rfl rfl rfl) (pmk_x xB hr (pa_cons (pv 2) pa_nil)))) pss_nil)))
      (pss_cons (ps_set (i := 4) scChW.nd rfl (Or.inr rfl) (pe_callB cr_sortedS rfl Z.sorted (by decide +kernel) (pa_cons (pe_callTy call_list_of rfl B.list (by decide +kernel) (pa_cons (pv 1) pa_nil)) pa_nil)))
      (pss_one (ps_if (pt_val (pe_any rfl Z.any (pa_cons (pe_lc (own := [("at", 6)]) rfl scChW.nd (pi_range1 rfl B.range (pa_cons (pe_op op_sub (pe_len B.len (pa_cons (pv 4) pa_nil)) pe_int) pa_nil)) (blkOk_by (N := NChW) (sc := defScope sChW) (by decide +kernel))
            (fun _ _ _ _ _ => pg_name (i := 6) scChW.nd rfl (Or.inl rfl)) (fun _ _ _ _ _ => pts_nil) (fun _ _ _ _ _ => pe_bmK K rfl PySem.F.plainAttrs_str PySem.F.slot_str_startswith PySem.F.type_str_startswith mt_startswith (pe_ix (ix_listK K rfl) (pv 4) (pe_op op_add (pv 6) pe_int) (fun _ _ => rfl)) (pa_cons (pe_ix (ix_listK K rfl) (pv 4) (pv 6) (fun _ _ => rfl)) pa_nil))) pa_nil)))
        (pss_one (ps_for (passes_of rfl) rfl (pi_en B.enum (pa_cons (pv 1) pa_nil)) (pg_tup rfl (pgs_cons (pg_name (i := 2) scChW.nd rfl (.inl rfl)) (pgs_cons (pg_name (i := 3) scChW.nd rfl (.inl rfl)) pgs_nil)))
          (pss_one (ps_for (passes_of rfl) rfl (pi_range2 rfl B.range (pa_cons (pe_op op_add (pv 2) pe_int) (pa_cons (pe_len B.len (pa_cons (pv 1) pa_nil)) pa_nil))) (pg_name (i := 5) scChW.nd rfl (.inl rfl))
            (pss_one (ps_if (PW.pt (pw_or (pt_val (pe_bm PySem.F.plainAttrs_str PySem.F.slot_str_startswith PySem.F.type_str_startswith mt_startswith (pe_ix (ix_listK K rfl) (pv 1) (pv 5) (fun _ _ => rfl)) (pa_cons (pv 3) pa_nil))) (pw_or1 (pt_val (pe_bm PySem.F.plainAttrs_str PySem.F.slot_str_startswith PySem.F.type_str_startswith mt_startswith (pv 3) (pa_cons (pe_ix (ix_listK K rfl) (pv 1) (pv 5) (fun _ _ => rfl)) pa_nil))))))
              (pss_one (ps_raise rfl (takes_of rfl rfl rfl rfl) (pmk_x xE hr (pa_cons (pv 2) (pa_cons (pv 5) pa_nil))))) pss_nil)))))) pss_nil))), ?_⟩
    have bad : ∀ (i : Nat) (v : V), ts[i]? = some v → okB (ls.getD i 0) v = false → (∀ j u, j < i → ts[j]? = some u → okB (ls.getD j 0) u = true) → ∀ H1, Same H H1 → ∀ d H', Rsd H1 H' d [("index", .int (i : Nat))] → E (.ref CB) (some d) H' := by
      intro i v hv hb ok H1 e1 d H' r
      have nb : ∀ (ws : List W), ts = ws.map wV → ws.map List.length = ls → False := fun ws e1 e2 => by
        subst e1 e2
        rw [List.getElem?_map] at hv
        cases q : ws[i]? with
        | none => rw [q] at hv; cases hv
        | some w =>
          rw [q] at hv
          cases hv
          have e3 : (ws.map List.length).getD i 0 = w.length := by rw [List.getD_eq_getElem?_getD, List.getElem?_map, q]; rfl
          rw [e3] at hb
          unfold okB wV at hb
          simp only [isBs_bS, bS_len, decide_true, Bool.and_self] at hb
          cases hb
      rcases out with ⟨i0, v0, h1, h2, h3, out⟩ | ⟨ws, h1, h2, _⟩
      · have ei : i = i0 := by
          rcases Nat.lt_trichotomy i i0 with z | z | z
          · rw [h3 i v z hv] at hb; cases hb
          · exact z
          · rw [ok i0 v0 z h1] at h2; cases h2
        subst ei
        exact out d H' ⟨e1.free r.new, e1.trans r.same, r.at_⟩
      · exact (nb ws h1 h2).elim
    refine ⟨_, rfl, s0, ts, rfl, hs.sq, fun J G wk hG => for_it wk (fun i σ H' => ∃ (a b : Option V), σ = [some (.ref l0), some (.ref s0), a, b, none, none, none] ∧ Same H H' ∧ ∀ j u, j < i → ts[j]? = some u → okB (ls.getD j 0) u = true) ⟨none, none, rfl, Same.refl H, fun j u h => absurd h (Nat.not_lt_zero _)⟩ (fun i σ H' _ ⟨_, _, _, e, _⟩ => hG H' fun o z => e _ _ z) ?_ ?_⟩
    · rintro i x σ H1 H2 hi ⟨a, b, rfl, e, ok⟩ ⟨T0, y, v, rfl, nT0, rfl, ey, hv⟩
      have ey : y = .int (i : Nat) := (Option.some.inj ey).symm
      have hv : ts[i]? = some v := hv
      subst ey
      have e2 : Same H (upd H1 T0 (.tup [.int (i : Nat), v])) := e.trans (same_new nT0)
      obtain ⟨kv, lv⟩ := kn v (List.mem_of_getElem? hv)
      refine ⟨T0, _, rfl, SqT.of upd_same, rfl, _, _, rfl, _, _, rfl, rfl, ?_⟩
      refine ⟨_, rfl, v, rfl, kv.same e2, lv, fun r H3 e3 iff => ⟨rfl, _, rfl, ?_⟩⟩
      have e13 := e2.trans e3
      have li : i < ls.length := by rw [← len]; exact (List.getElem?_eq_some_iff.mp hv).1
      have gl : ls.getD i 0 = ls[i] := by rw [List.getD_eq_getElem?_getD, List.getElem?_eq_getElem li]; rfl
      cases hb : isBs v with
      | false =>
        cases r with
        | none => rw [iff.mp rfl] at hb; cases hb
        | some r0 =>
          have ob : okB (ls.getD i 0) v = false := by
            unfold okB
            cases v with
            | str x => simp only [hb, Bool.false_and]
            | _ => rfl
          refine iteT (iteT ⟨_, rfl, raise1 xB.T nB True.intro fun d H' r => bad i v hv ob ok H3 e13 d H' r⟩)
      | true =>
        have rn := iff.mpr hb
        subst rn
        cases v with
        | str x =>
          have lx := lv x rfl
          refine iteF ⟨_, rfl, x, rfl, Nat.le_of_lt (small10 lx), _, rfl, _, rfl, l0, _, _, .int ((ls[i] : Nat) : Int), rfl, rfl, SqL.of (e13 _ _ hl), atI_nat (by rw [List.getElem?_map, List.getElem?_eq_getElem li]; rfl), rfl, _, rfl, ?_⟩
          have de : (!decide (V.int ((x.length : Nat) : Int) = V.int ((ls[i] : Nat) : Int))) = !okB (ls.getD i 0) (.str x) := by
            show (!decide (V.int ((x.length : Nat) : Int) = V.int ((ls[i] : Nat) : Int))) = !(isBs (.str x) && decide (x.length = ls.getD i 0))
            rw [hb, gl, Bool.true_and]
            congr 1
            exact decide_eq_decide.mpr ⟨fun z => by injection z with z; omega, fun z => by rw [z]⟩
          rw [de]
          cases ob : okB (ls.getD i 0) (.str x) with
          | false => exact iteT ⟨_, rfl, raise1 xB.T nB True.intro fun d H' r => bad i _ hv ob ok H3 e13 d H' r⟩
          | true =>
            refine iteF ⟨_, _, rfl, e13, fun j u hj hu => ?_⟩
            rcases Nat.lt_succ_iff_lt_or_eq.mp hj with h | rfl
            · exact ok j u h hu
            · have := Option.some.inj (hv.symm.trans hu)
              rw [← this]
              exact ob
        | _ => cases hb
    · rintro σ H1 ⟨a, b, rfl, e1, ok⟩
      clear wk hG
      obtain ⟨ws, rfl, hw, out⟩ : ∃ ws : List W, ts = ws.map wV ∧ ws.map List.length = ls ∧
          ((H s0 = some (.lst ts) ∧ ∃ i j a b, i < j ∧ ws[i]? = some a ∧ ws[j]? = some b ∧ bg a b ∧ (∀ i' j' x y, i' < j' → (i' < i ∨ (i' = i ∧ j' < j)) → ws[i']? = some x → ws[j']? = some y → ¬ bg x y) ∧ ∀ d H', Rsd H H' d [("other", .int (j : Nat)), ("index", .int (i : Nat))] → E (.ref CE) (some d) H') ∨
            (PF ws ∧ ∀ H', Same H H' → Q .non H')) := by
        rcases out with ⟨i0, v0, h1, h2, _⟩ | h
        · rw [ok i0 v0 (List.getElem?_eq_some_iff.mp h1).1 h1] at h2
          cases h2
        · exact h
      rw [List.length_map] at l60 len
      have ews : ws.map wV = (ws.map bS).map V.str := by rw [List.map_map]; rfl
      refine ⟨_, rfl, s0, _, rfl, (hs.same e1).sq, fun p1 np1 => ?_⟩
      have e2 := e1.trans (same_new (o := .lst (ws.map wV)) np1)
      have hp1 : upd H1 p1 (.lst (ws.map wV)) p1 = some (.lst (ws.map wV)) := upd_same
      generalize upd H1 p1 (.lst (ws.map wV)) = H2 at e2 hp1 ⊢
      refine ⟨p1, ws.map bS, rfl, SqL.of (by rw [← ews]; exact hp1), by rw [List.length_map]; omega, fun ys p2 perm srt np2 => ?_⟩
      obtain ⟨us, rfl, pu⟩ := perm_bS perm
      have asc := asc_of srt
      have lu : us.length = ws.length := pu.length_eq
      have e3 := e2.trans (same_new (o := .lst ((us.map bS).map V.str)) np2)
      have hp2 : upd H2 p2 (.lst ((us.map bS).map V.str)) p2 = some (.lst ((us.map bS).map V.str)) := upd_same
      generalize upd H2 p2 (.lst ((us.map bS).map V.str)) = H3 at e3 hp2 ⊢
      refine ⟨_, rfl, p2, _, rfl, .inl (SqL.of hp2), _, _, rfl, rfl, _, rfl, by rw [List.length_map, List.length_map]; omega, by rw [List.length_map, List.length_map]; omega, fun D nD => lcM walk_range (fun i => .bl (decide (us.getD i [] <+: us.getD (i + 1) []))) (by rw [List.length_map, List.length_map]; omega) nD (fun _ _ => True.intro) ?_ ?_⟩
      · rintro k x H4 H5 N2 hk e4 ⟨rfl, rfl⟩ fin
        have hk : k + 1 < us.length := by rw [List.length_map, List.length_map] at hk; omega
        have k0 : (0 : Int) + (k : Nat) = (k : Nat) := by omega
        have g1 : us.getD k [] = us[k] := by rw [List.getD_eq_getElem?_getD, List.getElem?_eq_getElem (by omega)]; rfl
        have g2 : us.getD (k + 1) [] = us[k + 1] := by rw [List.getD_eq_getElem?_getD, List.getElem?_eq_getElem hk]; rfl
        have fin : ∀ H6, Same H5 H6 → N2 (.bl (decide (us.getD k [] <+: us.getD (k + 1) []))) H6 := fin
        rw [g1, g2, ← sw_bS] at fin
        show gName 6 (V.int (0 + (k : Nat))) _ _ _
        rw [k0]
        refine ⟨rfl, ?_⟩
        refine ⟨_, rfl, _, rfl, _, _, rfl, rfl, p2, _, _, .str (bS us[k + 1]), rfl, rfl, SqL.of (e4 _ _ hp2), ?_, rfl, _, rfl, _, rfl, p2, _, _, .str (bS us[k]), rfl, rfl, SqL.of (e4 _ _ hp2), ?_, _, _, rfl, rfl, fin _ (Same.refl _)⟩
        · rw [show ((k : Nat) : Int) + 1 = ((k + 1 : Nat) : Int) by omega]
          exact atI_nat (by rw [List.getElem?_map, List.getElem?_map, List.getElem?_eq_getElem hk]; rfl)
        · exact atI_nat (by rw [List.getElem?_map, List.getElem?_map, List.getElem?_eq_getElem (by omega)]; rfl)
      intro H4 e4 hD
      have mb : ∀ (b : Nat → Bool) (n : Nat), (List.range n).map (fun i => V.bl (b i)) = ((List.range n).map b).map V.bl := fun b n => by rw [List.map_map]; rfl
      rw [mb] at hD
      refine ⟨D, _, rfl, SqL.of hD, _, rfl, ?_⟩
      have e14 := e3.trans e4
      have pf : PF ws ↔ ((List.range ((((((us.map bS).map V.str).length : Nat) : Int) - 1).toNat)).map fun i => decide (us.getD i [] <+: us.getD (i + 1) [])).any id = false := by
        rw [List.any_map, List.any_eq_false]
        constructor
        · intro h k hk z
          have hk := List.mem_range.mp hk
          have hk : k + 1 < us.length := by rw [List.length_map, List.length_map] at hk; omega
          have z := of_decide_eq_true z
          rw [List.getD_eq_getElem?_getD, List.getD_eq_getElem?_getD, List.getElem?_eq_getElem (by omega), List.getElem?_eq_getElem hk] at z
          exact ((List.pairwise_iff_getElem.mp (h.perm pu.symm)) k (k + 1) (by omega) hk (by omega)).1 z
        · intro h
          refine (pf_of_adj asc fun i a b ha hb z => ?_).perm pu
          have hi := (List.getElem?_eq_some_iff.mp hb).1
          refine h i (List.mem_range.mpr (by rw [List.length_map, List.length_map]; omega)) ?_
          show decide _ = true
          rw [List.getD_eq_getElem?_getD, List.getD_eq_getElem?_getD, ha, hb]
          exact decide_eq_true z
      cases hb : ((List.range ((((((us.map bS).map V.str).length : Nat) : Int) - 1).toNat)).map fun i => decide (us.getD i [] <+: us.getD (i + 1) [])).any id with
      | false =>
        refine iteF ?_
        have p := pf.mpr hb
        rcases out with ⟨_, i, j, wa, wb, lt, ha, hb2, g, _⟩ | ⟨_, q⟩
        · obtain ⟨l1, e5⟩ := List.getElem?_eq_some_iff.mp ha
          obtain ⟨l2, e6⟩ := List.getElem?_eq_some_iff.mp hb2
          have := (List.pairwise_iff_getElem.mp p) i j l1 l2 lt
          rw [e5, e6] at this
          exact (g.elim this.1 this.2).elim
        · exact q H4 e14
      | true =>
        refine iteT ?_
        rcases out with ⟨hl2, i0, j0, wa, wb, lt, ha, hb2, g, first, out⟩ | ⟨p, _⟩
        · have li0 := (List.getElem?_eq_some_iff.mp ha).1
          have lj0 := (List.getElem?_eq_some_iff.mp hb2).1
          have hs4 := e14 _ _ hl2
          refine ⟨_, rfl, s0, _, rfl, .inl (SqL.of hs4), fun J G wk hG => for_it wk (fun i σ H' => ∃ (a b c d : Option V), σ = [some (.ref l0), some (.ref s0), a, b, c, d, none] ∧ Same H4 H' ∧ i ≤ i0) ⟨_, _, _, _, rfl, Same.refl H4, Nat.zero_le _⟩ (fun i σ H' _ ⟨_, _, _, _, _, e, _⟩ => hG H' fun o z => e _ _ z) ?_ ?_⟩
          · rintro i x σ H5 H6 hi ⟨a', b', c', d', rfl, e5, le⟩ ⟨T0, y, v, rfl, nT0, rfl, ey, hv⟩
            have ey : y = .int (i : Nat) := (Option.some.inj ey).symm
            have hv : (ws.map wV)[i]? = some v := hv
            subst ey
            rw [List.getElem?_map] at hv
            cases hwi : ws[i]? with
            | none => rw [hwi] at hv; cases hv
            | some wi =>
              rw [hwi] at hv
              have hv : v = wV wi := (Option.some.inj hv).symm
              subst hv
              have e6 := e5.trans (same_new (o := .tup [.int (i : Nat), wV wi]) nT0)
              refine ⟨T0, _, rfl, SqT.of upd_same, rfl, _, _, rfl, _, _, rfl, rfl, ?_⟩
              have hs6 := e6 _ _ hs4
              generalize upd H5 T0 (.tup [.int (i : Nat), wV wi]) = H6 at e6 hs6 ⊢
              refine ⟨_, rfl, _, _, rfl, rfl, _, rfl, s0, _, rfl, .inl (SqL.of hs6), _, _, rfl, ⟨by omega, by omega, by omega, by rw [List.length_map]; omega⟩, for_range (fun k σ H' => ∃ c d : Option V, σ = [some (.ref l0), some (.ref s0), some (.int (i : Nat)), some (wV wi), c, d, none] ∧ H' = H6 ∧ (i = i0 → i + 1 + k ≤ j0)) ⟨_, _, rfl, rfl, fun z => by omega⟩ ?_ ?_⟩
              · rintro k σ H7 hk ⟨c2, d2, rfl, rfl, hk2⟩
                have hk3 : i + 1 + k < ws.length := by rw [List.length_map] at hk; omega
                have ek : ((i : Nat) : Int) + 1 + ((k : Nat) : Int) = ((i + 1 + k : Nat) : Int) := by omega
                show gName 5 (V.int (((i : Nat) : Int) + 1 + ((k : Nat) : Int))) _ _ _
                rw [ek]
                have at_ : atI (ws.map wV) ((i + 1 + k : Nat) : Int) = some (.str (bS ws[i + 1 + k])) := atI_nat (by rw [List.getElem?_map, List.getElem?_eq_getElem hk3]; rfl)
                refine ⟨_, rfl, _, rfl, s0, _, _, _, rfl, rfl, SqL.of hs6, at_, rfl, _, rfl, _, _, rfl, rfl, _, rfl, ?_⟩
                rw [sw_bS]
                have rz : ∀ (c : bg wi ws[i + 1 + k]), i = i0 ∧ i + 1 + k = j0 := fun c => by
                  have h1 : ws[i + 1 + k]? = some ws[i + 1 + k] := List.getElem?_eq_getElem hk3
                  rcases Nat.lt_or_ge i i0 with z | z
                  · exact (first i (i + 1 + k) wi _ (by omega) (.inl z) hwi h1 c).elim
                  · have ei : i = i0 := by omega
                    have := hk2 ei
                    rcases Nat.lt_or_ge (i + 1 + k) j0 with z2 | z2
                    · exact (first i (i + 1 + k) wi _ (by omega) (.inr ⟨ei, z2⟩) hwi h1 c).elim
                    · exact ⟨ei, by omega⟩
                have go : ∀ (c : bg wi ws[i + 1 + k]), ∀ d H', Rsd H7 H' d [("other", .int ((i + 1 + k : Nat) : Int)), ("index", .int (i : Nat))] → E (.ref CE) (some d) H' := fun c d H' r => by
                  obtain ⟨z1, z2⟩ := rz c
                  rw [z2, z1] at r
                  exact out d H' ⟨(e14.trans e6).free r.new, (e14.trans e6).trans r.same, r.at_⟩
                cases c1 : decide (wi <+: ws[i + 1 + k]) with
                | true => exact iteT (iteT ⟨_, rfl, _, rfl, raise2 xE.T nE.1 nE.2 True.intro True.intro (go (.inl (of_decide_eq_true c1)))⟩)
                | false =>
                  refine iteF ⟨_, rfl, rfl, _, rfl, _, rfl, s0, _, _, _, rfl, rfl, SqL.of hs6, at_, _, _, rfl, rfl, _, rfl, ?_⟩
                  rw [sw_bS]
                  cases c2 : decide (ws[i + 1 + k] <+: wi) with
                  | true => exact iteT ⟨_, rfl, _, rfl, raise2 xE.T nE.1 nE.2 True.intro True.intro (go (.inr (of_decide_eq_true c2)))⟩
                  | false =>
                    refine iteF ⟨_, _, rfl, rfl, fun z => ?_⟩
                    have := hk2 z
                    rcases Nat.lt_or_ge (i + 1 + k) j0 with z2 | z2
                    · omega
                    · have ej : i + 1 + k = j0 := by omega
                      have gg := g
                      subst z ej
                      rw [hwi] at ha
                      rw [List.getElem?_eq_getElem hk3] at hb2
                      cases ha
                      cases hb2
                      exact (gg.elim (of_decide_eq_false c1) (of_decide_eq_false c2)).elim
              · rintro σ H7 ⟨c2, d2, rfl, rfl, hk2⟩
                refine ⟨_, _, _, _, rfl, e6, ?_⟩
                rcases Nat.lt_or_ge i i0 with z | z
                · exact z
                · have ei : i = i0 := by omega
                  have := hk2 ei
                  rw [List.length_map] at this
                  omega
          · rintro σ H5 ⟨a', b', c', d', rfl, e5, le⟩
            rw [List.length_map] at le
            omega
        · rw [pf.mp p] at hb
          cases hb
end
end K61
set_option Elab.async false
set_option linter.all false
set_option maxRecDepth 100001
set_option maxHeartbeats 3999999
namespace K61
open PySem L2
abbrev sFo : Stmt := topS 28
abbrev sTrI : Stmt := inClass (topS 27) 0
/-- the bit at d of the i-th word in order -/
def obit (ws : List W) (os : List Nat) (d i : Nat) : Option Bool := (os[i]?).bind fun o => (ws[o]?).bind fun w => w[d]?
def spFo (K : PySem.W.Frag) : Sp := fun vs H Q _ => ∃ (wp op : Addr) (ws : List W) (os : List Nat) (d f m b : Nat), vs = [.ref wp, .ref op, .int (d : Nat), .int (f : Nat), .int (b : Nat)] ∧ H wp = some (.tup (ws.map wV)) ∧ H op = some (.lst (os.map fun n : Nat => V.int (n : Nat))) ∧
  f ≤ m ∧ m ≤ b ∧ b ≤ 100000 ∧ (∀ i, f ≤ i → i < m → obit ws os d i = some false) ∧ (∀ i, m ≤ i → i < b → obit ws os d i = some true) ∧ (∀ w ∈ ws, w.length ≤ 10000) ∧ Q (.int (m : Nat)) H
section
variable {P : Program} {w : World} {K : PySem.W.Frag} {mg : Str → Option Value} {base : Heap}
theorem scFo : FnScope ["words", "order", "depth", "first", "behind", "middle"] ["words", "order", "depth", "first", "behind"] (defScope sFo) := ⟨rfl, rfl, rfl, by decide +kernel, rfl, by decide +kernel, by decide +kernel⟩
theorem ok_fo {f : Addr} {fd : FuncData} (F : Fun K "first_one" "first_one" sFo f fd) : FnOk P w K mg base CX0 1 f fd ["words", "order", "depth", "first", "behind"] (spFo K) := by
  refine F.ok scFo (fun vs H Q E h => ?_) (fun cdv A outer s H vs Q E hr h => ?_)
  · obtain ⟨wp, op, ws, os, d, f, m, b, rfl, _⟩ := h
    rfl
  · obtain ⟨wp, op, ws, os, d, f0, m, b0, rfl, hw, ho, fm, mb, b1, lo, hi, ln, q⟩ := h
    refine ⟨_, pss_cons (ps_while PassesOwn.never (pt_cmpR op_lt (pv 3) (pv 4) (nomark _))
        (pss_cons (ps_set (i := 5) scFo.nd rfl (Or.inl rfl) (pe_op op_fdiv (pe_op op_add (pv 3) (pv 4)) pe_int))
        (pss_one (ps_if (pt_cmpR op_eq (pe_ix ix_str (pe_ix ix_tup (pv 0) (pe_ix ix_list (pv 1) (pv 5) (fun _ _ => rfl)) (fun _ _ => rfl)) (pv 2) (fun _ _ => rfl)) pe_str (nomark _))
          (pss_one (ps_set (i := 4) scFo.nd rfl (Or.inl rfl) (pv 5))) (pss_one (ps_set (i := 3) scFo.nd rfl (Or.inl rfl) (pe_op op_add (pv 5) pe_int)))))))
      (pss_one (ps_ret (pv 3))), ?_⟩
    show tWhile _ _ _ [some (.ref wp), some (.ref op), some (.int (d : Nat)), some (.int (f0 : Nat)), some (.int (b0 : Nat)), none] H
    refine ⟨fun k σ H' => ∃ (f b : Nat) (x5 : Option V), k = b - f ∧ σ = [some (.ref wp), some (.ref op), some (.int (d : Nat)), some (.int (f : Nat)), some (.int (b : Nat)), x5] ∧ H' = H ∧ f0 ≤ f ∧ f ≤ m ∧ m ≤ b ∧ b ≤ b0, ⟨_, f0, b0, none, rfl, rfl, rfl, Nat.le_refl _, fm, mb, Nat.le_refl _⟩, ?_⟩
    rintro k σ G ⟨f, b, x5, rfl, rfl, rfl, h1, h2, h3, h4⟩
    refine ⟨_, rfl, _, rfl, _, _, rfl, rfl, _, rfl, ?_⟩
    by_cases c : f < b
    · rw [decide_eq_true (show ((f : Nat) : Int) < ((b : Nat) : Int) by omega)]
      refine iteT ⟨fun σ' H' => ∃ k', k' < b - f ∧ ∃ (f b : Nat) (x5 : Option V), k' = b - f ∧ σ' = [some (.ref wp), some (.ref op), some (.int (d : Nat)), some (.int (f : Nat)), some (.int (b : Nat)), x5] ∧ H' = G ∧ f0 ≤ f ∧ f ≤ m ∧ m ≤ b ∧ b ≤ b0, fun σ' H' ⟨k', l, z⟩ => ⟨k', l, z⟩, ?_⟩
      refine ⟨_, rfl, _, rfl, _, _, rfl, rfl, _, _, rfl, rfl, ⟨by decide, by decide⟩, ?_⟩
      have em : (((f : Nat) : Int) + ((b : Nat) : Int)) / 2 = (((f + b) / 2 : Nat) : Int) := by omega
      show gName 5 (V.int ((((f : Nat) : Int) + ((b : Nat) : Int)) / 2)) _ _ _
      rw [em]
      have m1 : f ≤ (f + b) / 2 := by omega
      have m2 : (f + b) / 2 < b := by omega
      generalize (f + b) / 2 = mm at m1 m2 ⊢
      have hb : obit ws os d mm = some (decide (m ≤ mm)) := by
        by_cases z : m ≤ mm
        · rw [hi mm z (by omega), decide_eq_true z]
        · rw [lo mm (by omega) (by omega), decide_eq_false z]
      unfold obit at hb
      cases ho2 : os[mm]? with
      | none => rw [ho2] at hb; cases hb
      | some o =>
        rw [ho2] at hb
        cases hw2 : ws[o]? with
        | none =>
          rw [show ((some o).bind fun o => (ws[o]?).bind fun w => w[d]?) = (ws[o]?).bind fun w => w[d]? from rfl, hw2] at hb
          cases hb
        | some wo =>
          rw [show ((some o).bind fun o => (ws[o]?).bind fun w => w[d]?) = (ws[o]?).bind fun w => w[d]? from rfl, hw2] at hb
          have hb : wo[d]? = some (decide (m ≤ mm)) := hb
          have lw := ln wo (List.mem_of_getElem? hw2)
          refine ⟨_, rfl, _, rfl, _, rfl, op, _, _, .int ((o : Nat) : Int), rfl, rfl, SqL.of ho, atI_nat (by rw [List.getElem?_map, ho2]; rfl), wp, _, _, wV wo, rfl, rfl, SqT.of hw, atI_nat (by rw [List.getElem?_map, hw2]; rfl), _, rfl, _, _, cd (decide (m ≤ mm)), rfl, rfl, ?_, ?_, rfl, _, rfl, ?_⟩
          · rw [bS_len]
            exact Nat.le_of_lt (small10 lw)
          · refine atI_nat ?_
            show (wo.map cd)[d]? = _
            rw [List.getElem?_map, hb]
            rfl
          · by_cases z : m ≤ mm
            · rw [decide_eq_true z]
              rw [show decide (V.str ⟨#[cd true]⟩ = V.str "1") = true from decide_eq_true rfl]
              exact iteT ⟨_, rfl, _, by omega, f, mm, _, rfl, rfl, rfl, h1, h2, z, by omega⟩
            · rw [decide_eq_false z]
              rw [show decide (V.str ⟨#[cd false]⟩ = V.str "1") = false from decide_eq_false (fun z => by
                injection z with z
                exact absurd z (by decide +kernel))]
              exact iteF ⟨_, rfl, _, _, rfl, rfl, _, by omega, mm + 1, b, _, rfl, rfl, rfl, by omega, by omega, h3, h4⟩
    · rw [decide_eq_false (show ¬ ((f : Nat) : Int) < ((b : Nat) : Int) by omega)]
      have e : f = m := by omega
      subst e
      exact iteF ⟨_, rfl, q⟩
end
end K61
set_option Elab.async false
set_option linter.all false
set_option maxRecDepth 100001
set_option maxHeartbeats 3999999
namespace K61
open PySem L2
structure FunL (K : PySem.W.Frag) (base : Heap) (mg : Str → Option Value) (x q : Str) (st : Stmt) (f c T : Addr) (fd : FuncData) : Prop where
  ex : ∃ (oc : Value) (od : Option Addr) (kV doc pm : Value) (an : Option Addr) (ct : Value) (osl : Array (Option Value)),
    fd = PySem.W.fnOf x q (defArgs st) (defBody st) (defScope st) .none kV doc pm an (.ref c) ct ∧ K.lookup f = some ⟨oc, od, .func fd, osl⟩ ∧ PySem.W.codeIn K (.ref c) q = true
  tab : LamX.TabB base mg c T
section
variable {P : Program} {w : World} {K : PySem.W.Frag} {mg : Str → Option Value} {base : Heap}
theorem FunL.okX {CX : CXT} {x q : Str} {st : Stmt} {f c T : Addr} {fd : FuncData} {N ps : List Str} {k : Nat} {sp : Sp} (F : FunL K base mg x q st f c T fd) (S : FnScope N ps (defScope st)) (len : ∀ vs H Q E, sp vs H Q E → vs.length = ps.length)
    (hbody : ∀ (A : Around) (outer : List Env) (s : Shared) (H : Hp) (vs : List V) (Q : VK) (E : XK), Room k (A.deeper (PyProof.Rows.envOfC q (defScope st) s.heap.objs.size f (.ref c))) → sp vs H Q E →
      ∃ t, PSs (cxOf CX P w K mg base N q (defScope st) f (.ref c) A outer s H E).nox (defBody st) t ∧ t { nx := fun _ H' => Q .non H', rt := Q } (L2.start N vs) H) : FnOk P w K mg base CX (k + 1) f fd ps sp := by
  obtain ⟨oc, od, kV, doc, pm, an, ct, osl, rfl, lk, hcd⟩ := F.ex
  refine fn_of lk hcd S len fun A outer s H vs Q E hr hsp => ?_
  obtain ⟨t, h, q⟩ := hbody A outer s H vs Q E hr hsp
  exact ⟨t, h.nox, q⟩
end
theorem pg_pairK {X : Cx} (K : PySem.W.Frag) (hK : X.K = K) (hc : X.calm = true) {e1 e2 : Expr} {t1 t2 : TG} {k : Nat} {pos : Pos} (h1 : PG X e1 t1) (h2 : PG X e2 t2) (he1 : (assignEach [e1, e2] X.env).map (·.2) = assign e1 X.env :: (assignEach [e2] X.env).map (·.2) := by rfl)
    (he2 : (assignEach [e2] X.env).map (·.2) = assign e2 X.env :: (assignEach [] X.env).map (·.2) := by rfl) (hn : (assignEach [e1, e2] X.env).length = 2 := by rfl) (hf : (assignEach [e1, e2] X.env).findIdx? (·.1) = none := by rfl) : PG X (.Tuple [e1, e2] k pos) (gTup K 2 (gCons t1 (gCons t2 gNil))) := by
  subst hK
  have h := pg_tup (k := k) (pos := pos) hc (pgs_cons h1 (pgs_cons h2 pgs_nil he2) he1) hn hf
  exact h

/-- a dict comprehension over numbered items: what it holds is left open -/
theorem dcL {J : It} {n : Nat} {G : Hp → Prop} {f1 f2 : Nat → Option V} (wk : Walk J n G (YPair f1 f2)) {g : TG} {tt : L2.TT} {tk tv : TE} {vs : List Nat} {σ : St} {H1 : Hp} {D : Addr} {Qd : Hp → Prop} (kf : Nat → Key) (vf : Nat → V) (I : Nat → List (Key × V) → Prop) (i0 : I 0 []) (iS : ∀ i kvs, i < n → I i kvs → I (i + 1) (putK kvs (kf i) (vf i))) (hb : n ≤ 10000) (hG : ∀ H', Same H1 H' → G H') (nD : H1 D = none)
    (hs : ∀ (i : Nat) (T : Addr) (a b : V) (H : Hp) (R : V → V → Hp → Prop) (N : Hp → Prop), i < n → f1 i = some a → f2 i = some b → Same H1 H → H T = some (.tup [a, b]) → R (kV (kf i)) (vf i) H → g (.ref T) (wipe σ vs) H fun σ2 H2 => wipe σ2 vs = wipe σ vs ∧ tt σ2 H2 fun b H3 => if b = true then tk σ2 H3 fun y H4 => tv σ2 H4 fun z H5 => R y z H5 else N H3)
    (hd : ∀ H kvs, Same H1 H → H D = some (.dK kvs) → I n kvs → Qd H) :
    ∃ W : Nat → Nat → Hp → Prop, (∃ m, W 0 m (upd H1 D (.dK []))) ∧ ∀ i m H, W i m H →
      (J.stop i H ∧ Qd H) ∨ (J.go i H ∧ ∃ Nx : Hp → Prop, (∀ H', Nx H' → ∃ m', m' < m ∧ W (i + 1) m' H') ∧ ∀ x H', J.yld i H x H' → g x (wipe σ vs) H' fun σ2 H2 => wipe σ2 vs = wipe σ vs ∧ tt σ2 H2 fun b H3 =>
        if b = true then tk σ2 H3 fun y H4 => tv σ2 H4 fun z H5 => ∃ kvs k, y = kV k ∧ H5 D = some (.dK kvs) ∧ kvs.length < sizeLine ∧ Nx (upd H5 D (.dK (putK kvs k z))) else Nx H3) := by
  refine ⟨fun i m H => m = n - i ∧ i ≤ n ∧ Same H1 H ∧ ∃ kvs, H D = some (.dK kvs) ∧ kvs.length ≤ i ∧ I i kvs, ⟨n, rfl, Nat.zero_le _, same_new nD, [], upd_same, Nat.zero_le _, i0⟩, ?_⟩
  rintro i m H ⟨rfl, hi, e1, kvs, hD, kl, ik⟩
  by_cases lt : i < n
  · refine .inr ⟨wk.goes i H lt (hG H e1), fun H' => Same H1 H' ∧ ∃ kvs, H' D = some (.dK kvs) ∧ kvs.length ≤ i + 1 ∧ I (i + 1) kvs, fun H' p => ⟨n - (i + 1), by omega, rfl, lt, p.1, p.2⟩, fun x H' y => ?_⟩
    obtain ⟨T, a, b, rfl, nT, rfl, ea, eb⟩ := wk.yields i H x H' lt (hG H e1) y
    refine hs i T a b _ _ _ lt ea eb (e1.trans (same_new nT)) upd_same ⟨kvs, kf i, rfl, ?_, ?_, fun c o z => ?_, _, upd_same, ?_⟩
    · rw [upd_ne (ne_of_none hD nT)]
      exact hD
    · exact small10 (by omega)
    · rw [upd_ne (ne_of_none z nD)]
      exact (e1.trans (same_new nT)) _ _ z
    · have := length_putK kvs (kf i) (vf i)
      exact ⟨by omega, iS i kvs lt ik⟩
  · obtain rfl : i = n := by omega
    exact .inl ⟨wk.stops H (hG H e1), hd H kvs e1 hD ik⟩
abbrev NTr : List Str := ["self", "words", "order", "todo", "node", "first", "behind", "depth", "middle", "bit", "low", "high", "below", "name", "sign"]
theorem scTr : FnScope NTr ["self", "words"] (defScope sTrI) := ⟨rfl, rfl, rfl, by decide +kernel, rfl, by decide +kernel, by decide +kernel⟩
structure TxR (K : PySem.W.Frag) (C : Addr) : Prop where
  cl : Cls K C
  n : NoAttr K C "names"
  z : NoAttr K C "zeros"
  o : NoAttr K C "ones"
  b : NoAttr K C "numbers"
/-- all but what is at p, and tables, stays -/
def ButT (p : Addr) (H H' : Hp) : Prop := ∀ b o, b ≠ p → H b = some o → (∀ ps, o ≠ .tbl ps) → H' b = some o
def trF (a1 a2 a3 : Addr) : List (Str × V) := putF "ones" (.ref a3) (putF "zeros" (.ref a2) (putF "names" (.ref a1) []))
theorem tr_names (a1 a2 a3 : Addr) : (trF a1 a2 a3).lookup ("names" : Str) = some (.ref a1) := by
  unfold trF
  rw [lookup_putF, if_neg (by decide +kernel), lookup_putF, if_neg (by decide +kernel), lookup_putF, if_pos rfl]
theorem tr_zeros (a1 a2 a3 : Addr) : (trF a1 a2 a3).lookup ("zeros" : Str) = some (.ref a2) := by
  unfold trF
  rw [lookup_putF, if_neg (by decide +kernel), lookup_putF, if_pos rfl]
theorem tr_ones (a1 a2 a3 : Addr) : (trF a1 a2 a3).lookup ("ones" : Str) = some (.ref a3) := by
  unfold trF
  rw [lookup_putF, if_pos rfl]
/-- what stands for the node i, whose name is x, on one side -/
def KidOk (ws nm : List W) (xs : List V) (i : Nat) (x : W) (b : Bool) : Prop := ∃ c, xs[i]? = some c ∧ ((∃ j : Nat, c = .int (j : Nat) ∧ i < j ∧ nm[j]? = some (x ++ [b])) ∨ ∃ o : Nat, c = .int (-1 - ((o : Nat) : Int)) ∧ ws[o]? = some (x ++ [b]))
/-- the lists of a tree, but for what is still to be done -/
def Dn (ws nm : List W) (y2 y3 : List V) (p2 p3 : Nat → Prop) : Prop := ∀ i x, nm[i]? = some x → (∃ (o : Nat) (v : W), v ≠ [] ∧ ws[o]? = some (x ++ v)) ∧ (p2 i ∨ KidOk ws nm y2 i x false) ∧ (p3 i ∨ KidOk ws nm y3 i x true)
/-- the tree of the words -/
structure TrOk (ws nm : List W) (y2 y3 : List V) (kvs : List (Key × V)) : Prop where
  dn : Dn ws nm y2 y3 (fun _ => False) fun _ => False
  root : nm[0]? = some []
  num : ∀ x ∈ nm, ∃ j : Nat, valV kvs (.inr (bS x)) = some (.int (j : Nat)) ∧ nm[j]? = some x
  few : nm.length ≤ 4000
  l2 : y2.length = nm.length
  l3 : y3.length = nm.length
def IsTr (C : Addr) (H : Hp) (p : Addr) (ws : List W) : Prop := ∃ (dx a1 a2 a3 D : Addr) (nm : List W) (y2 y3 : List V) (kvs : List (Key × V)), H p = some (.ins C dx (putF "numbers" (.ref D) (trF a1 a2 a3))) ∧ H a1 = some (.lst (nm.map wV)) ∧ H a2 = some (.lst y2) ∧ H a3 = some (.lst y3) ∧ H D = some (.dK kvs) ∧ TrOk ws nm y2 y3 kvs
theorem IsTr.same {C : Addr} {H H' : Hp} {p : Addr} {ws : List W} (h : IsTr C H p ws) (e : Same H H') : IsTr C H' p ws :=
  let ⟨dx, a1, a2, a3, D, nm, y2, y3, kvs, h1, h2, h3, h4, h5, h6⟩ := h; ⟨dx, a1, a2, a3, D, nm, y2, y3, kvs, e _ _ h1, e _ _ h2, e _ _ h3, e _ _ h4, e _ _ h5, h6⟩
theorem KidOk.more {ws nm ex : List W} {xs : List V} {zs : List V} {i : Nat} {x : W} {b : Bool} (h : KidOk ws nm xs i x b) : KidOk ws (nm ++ ex) (xs ++ zs) i x b := by
  obtain ⟨c, h1, h2⟩ := h
  refine ⟨c, ?_, h2.imp (fun ⟨j, e, l, h⟩ => ⟨j, e, l, ?_⟩) id⟩
  · rw [List.getElem?_append_left (List.getElem?_eq_some_iff.mp h1).1]
    exact h1
  · rw [List.getElem?_append_left (List.getElem?_eq_some_iff.mp h).1]
    exact h
theorem KidOk.set {ws nm : List W} {xs : List V} {i k : Nat} {x : W} {b : Bool} {c : V} (h : KidOk ws nm xs i x b) (n : k ≠ i) : KidOk ws nm (xs.set k c) i x b := by
  obtain ⟨c', h1, h2⟩ := h
  exact ⟨c', by rw [List.getElem?_set_ne n]; exact h1, h2⟩
theorem KidOk.at_ {ws nm : List W} {xs : List V} {i : Nat} {x : W} {b : Bool} {c : V} (l : i < xs.length) (h : (∃ j : Nat, c = .int (j : Nat) ∧ i < j ∧ nm[j]? = some (x ++ [b])) ∨ ∃ o : Nat, c = .int (-1 - ((o : Nat) : Int)) ∧ ws[o]? = some (x ++ [b])) : KidOk ws nm (xs.set i c) i x b :=
  ⟨c, by rw [List.getElem?_set_self l], h⟩
theorem Dn.mono {ws nm : List W} {y2 y3 : List V} {p2 p3 q2 q3 : Nat → Prop} (h : Dn ws nm y2 y3 p2 p3) (m2 : ∀ i, p2 i → q2 i) (m3 : ∀ i, p3 i → q3 i) : Dn ws nm y2 y3 q2 q3 := fun i x hx =>
  let ⟨h1, h2, h3⟩ := h i x hx; ⟨h1, h2.imp (m2 i) id, h3.imp (m3 i) id⟩
/-- a node more, of which nothing is done -/
theorem Dn.grow {ws nm : List W} {y2 y3 : List V} {p2 p3 : Nat → Prop} {u : W} (h : Dn ws nm y2 y3 p2 p3) (e : ∃ (o : Nat) (v : W), v ≠ [] ∧ ws[o]? = some (u ++ v)) (q2 : p2 nm.length) (q3 : p3 nm.length) : Dn ws (nm ++ [u]) (y2 ++ [.non]) (y3 ++ [.non]) p2 p3 := fun i x hx => by
  rcases Nat.lt_or_ge i nm.length with l | l
  · rw [List.getElem?_append_left l] at hx
    obtain ⟨h1, h2, h3⟩ := h i x hx
    exact ⟨h1, h2.imp id fun z => z.more, h3.imp id fun z => z.more⟩
  · have l' := (List.getElem?_eq_some_iff.mp hx).1
    rw [List.length_append, List.length_singleton] at l'
    obtain rfl : i = nm.length := by omega
    rw [List.getElem?_append_right (Nat.le_refl _), Nat.sub_self] at hx
    cases hx
    exact ⟨e, .inl q2, .inl q3⟩
/-- what is written at a node -/
theorem Dn.set2 {ws nm : List W} {y2 y3 : List V} {p2 p3 q2 : Nat → Prop} {nd : Nat} {u : W} {c : V} (h : Dn ws nm y2 y3 p2 p3) (hu : nm[nd]? = some u) (l : y2.length = nm.length) (m : ∀ i, i ≠ nd → p2 i → q2 i) (k : (∃ j : Nat, c = .int (j : Nat) ∧ nd < j ∧ nm[j]? = some (u ++ [false])) ∨ ∃ o : Nat, c = .int (-1 - ((o : Nat) : Int)) ∧ ws[o]? = some (u ++ [false])) : Dn ws nm (y2.set nd c) y3 q2 p3 := fun i x hx => by
  obtain ⟨h1, h2, h3⟩ := h i x hx
  refine ⟨h1, ?_, h3⟩
  by_cases e : i = nd
  · subst e
    rw [hu] at hx
    cases hx
    exact .inr (KidOk.at_ (by rw [l]; exact (List.getElem?_eq_some_iff.mp hu).1) k)
  · exact h2.imp (m i e) fun z => z.set (Ne.symm e)
theorem Dn.set3 {ws nm : List W} {y2 y3 : List V} {p2 p3 q3 : Nat → Prop} {nd : Nat} {u : W} {c : V} (h : Dn ws nm y2 y3 p2 p3) (hu : nm[nd]? = some u) (l : y3.length = nm.length) (m : ∀ i, i ≠ nd → p3 i → q3 i) (k : (∃ j : Nat, c = .int (j : Nat) ∧ nd < j ∧ nm[j]? = some (u ++ [true])) ∨ ∃ o : Nat, c = .int (-1 - ((o : Nat) : Int)) ∧ ws[o]? = some (u ++ [true])) : Dn ws nm y2 (y3.set nd c) p2 q3 := fun i x hx => by
  obtain ⟨h1, h2, h3⟩ := h i x hx
  refine ⟨h1, h2, ?_⟩
  by_cases e : i = nd
  · subst e
    rw [hu] at hx
    cases hx
    exact .inr (KidOk.at_ (by rw [l]; exact (List.getElem?_eq_some_iff.mp hu).1) k)
  · exact h3.imp (m i e) fun z => z.set (Ne.symm e)
def spTrI (C : Addr) (Tb : List (Addr × Str)) : Sp := fun vs H Q _ => ∃ (p dx wp : Addr) (ws : List W) (L : Nat), vs = [.ref p, .ref wp] ∧ H p = some (.ins C dx []) ∧ H wp = some (.tup (ws.map wV)) ∧ PF ws ∧ 2 ≤ ws.length ∧ ws.length ≤ 2000 ∧ (∀ w ∈ ws, w.length ≤ L) ∧ L ≤ 5000 ∧ kr L ws = 2 ^ L ∧ LamX.Tabs Tb H ∧
  ∀ H', ButT p H H' → IsTr C H' p ws → LamX.Tabs Tb H' → Q .non H'
theorem tabs_put {Tb : List (Addr × Str)} {H : Hp} {D : Addr} {xs ys : List V} (t : LamX.Tabs Tb H) (hD : H D = some (.lst xs)) : LamX.Tabs Tb (upd H D (.lst ys)) := tabs_at t hD (fun _ z => nomatch z) (fun _ z => nomatch z) fun c o n z => (upd_ne n).trans z
/-- the word's number -/
def nO : V → Nat
  | .int i => i.toNat
  | _ => 0
theorem order_of {ws : List W} {ys : List V} {L : Nat} (pm : ys.Perm (rgV 0 ((ws.length : Nat) : Int))) (sr : SrtO.Srtd (SrtL.ltG SrtL.ordStr fun v => bS (ws.getD (nO v) [])) ys) (pf : PF ws) (hL : ∀ w ∈ ws, w.length ≤ L) (ek : kr L ws = 2 ^ L) :
    ∃ os : List Nat, ys = os.map (fun n : Nat => V.int (n : Nat)) ∧ (∀ o ∈ os, o < ws.length) ∧ os.length = ws.length ∧ Full (os.map fun o => ws.getD o []) := by
  have er : rgV 0 ((ws.length : Nat) : Int) = (List.range ws.length).map fun n : Nat => V.int (n : Nat) := by
    unfold rgV
    rw [show (((ws.length : Nat) : Int) - 0).toNat = ws.length by omega]
    refine List.map_congr_left fun i _ => ?_
    show V.int (0 + (i : Nat)) = V.int (i : Nat)
    rw [show (0 : Int) + (i : Nat) = (i : Nat) by omega]
  rw [er] at pm
  have e1 : ys = (ys.map nO).map fun n : Nat => V.int (n : Nat) := by
    rw [List.map_map]
    conv => lhs; rw [← List.map_id ys]
    refine List.map_congr_left fun v hv => ?_
    obtain ⟨i, _, rfl⟩ := List.mem_map.mp (pm.subset hv)
    rfl
  have p2 : (ys.map nO).Perm (List.range ws.length) := by
    have := pm.map nO
    rw [List.map_map] at this
    have e : (List.range ws.length).map (nO ∘ fun n : Nat => V.int (n : Nat)) = List.range ws.length := by
      conv => rhs; rw [← List.map_id (List.range ws.length)]
      exact List.map_congr_left fun i _ => rfl
    rw [e] at this
    exact this
  have pw : ((ys.map nO).map fun o => ws.getD o []).Perm ws := by
    have h := p2.map fun o => ws.getD o []
    have e : (List.range ws.length).map (fun o => ws.getD o []) = ws := by
      refine List.ext_getElem (by rw [List.length_map, List.length_range]) fun i h1 h2 => ?_
      rw [List.getElem_map, List.getElem_range, List.getD_eq_getElem?_getD, List.getElem?_eq_getElem h2]
      rfl
    rw [e] at h
    exact h
  refine ⟨ys.map nO, e1, fun o ho => List.mem_range.mp (p2.subset ho), by rw [p2.length_eq, List.length_range], ?_⟩
  refine full_of L _ (pf.perm pw.symm) ?_ (fun w hw => hL w (pw.subset hw)) ?_
  · unfold Asc
    rw [List.pairwise_map, List.pairwise_map]
    refine List.Pairwise.imp (fun {a b} h => ?_) sr
    exact of_decide_eq_false h
  · unfold kr at ek ⊢
    rw [← ek]
    exact (pw.map _).sum_nat
/-- a node and the words below it: from, up to -/
abbrev It3 := Nat × Nat × Nat
def wgt (its : List It3) : Nat := (its.map fun t => 2 * (t.2.2 - t.2.1) - 3).sum
/-- the words on one side below a node -/
def Half (ws : List W) (os : List Nat) (u : W) (b : Bool) (lo hi : Nat) : Prop := lo < hi ∧ ∃ us : List W, Full us ∧ us.length = hi - lo ∧ ∀ i v, us[i]? = some v → ∃ o, os[lo + i]? = some o ∧ ws[o]? = some ((u ++ [b]) ++ v)
theorem halves {ws : List W} {os : List Nat} {u : W} {us : List W} {fi be : Nat} (l : fi + 2 ≤ be) (hf : Full us) (hl : us.length = be - fi) (h : ∀ i v, us[i]? = some v → ∃ o, os[fi + i]? = some o ∧ ws[o]? = some (u ++ v)) :
    ∃ m, fi < m ∧ m < be ∧ Half ws os u true m be ∧ Half ws os u false fi m ∧ (∀ i, fi ≤ i → i < m → obit ws os u.length i = some false) ∧ (∀ i, m ≤ i → i < be → obit ws os u.length i = some true) := by
  obtain ⟨zs, o1, fz, fo, rfl⟩ := hf.parts (by omega)
  have p1 := fz.pos
  have p2 := fo.pos
  rw [List.length_append, List.length_map, List.length_map] at hl
  have gz : ∀ i v, zs[i]? = some v → ∃ o, os[fi + i]? = some o ∧ ws[o]? = some (u ++ (false :: v)) := fun i v hv => by
    refine h i (false :: v) ?_
    have li : i < zs.length := (List.getElem?_eq_some_iff.mp hv).1
    rw [List.getElem?_append_left (by rw [List.length_map]; exact li), List.getElem?_map, hv]
    rfl
  have go : ∀ i v, o1[i]? = some v → ∃ o, os[fi + zs.length + i]? = some o ∧ ws[o]? = some (u ++ (true :: v)) := fun i v hv => by
    have := h (zs.length + i) (true :: v) (by
      rw [List.getElem?_append_right (by rw [List.length_map]; omega), List.length_map, Nat.add_sub_cancel_left, List.getElem?_map, hv]
      rfl)
    rw [Nat.add_assoc]
    exact this
  have ob : ∀ (i o : Nat) (b : Bool) (v : W), os[i]? = some o → ws[o]? = some (u ++ (b :: v)) → obit ws os u.length i = some b := fun i o b v h1 h2 => by
    unfold obit
    rw [h1]
    show (ws[o]?).bind _ = _
    rw [h2]
    show (u ++ b :: v)[u.length]? = _
    rw [List.getElem?_append_right (Nat.le_refl _), Nat.sub_self]
    rfl
  refine ⟨fi + zs.length, by omega, by omega, ⟨by omega, o1, fo, by omega, fun i v hv => ?_⟩, ⟨by omega, zs, fz, by omega, fun i v hv => ?_⟩, fun i i1 i2 => ?_, fun i i1 i2 => ?_⟩
  · obtain ⟨o, h1, h2⟩ := go i v hv
    exact ⟨o, h1, by rw [h2, List.append_assoc]; rfl⟩
  · obtain ⟨o, h1, h2⟩ := gz i v hv
    exact ⟨o, h1, by rw [h2, List.append_assoc]; rfl⟩
  · have li : i - fi < zs.length := by omega
    obtain ⟨o, h1, h2⟩ := gz (i - fi) _ (List.getElem?_eq_getElem li)
    rw [show fi + (i - fi) = i by omega] at h1
    exact ob i o _ _ h1 h2
  · have li : i - (fi + zs.length) < o1.length := by omega
    obtain ⟨o, h1, h2⟩ := go (i - (fi + zs.length)) _ (List.getElem?_eq_getElem li)
    rw [show fi + zs.length + (i - (fi + zs.length)) = i by omega] at h1
    exact ob i o _ _ h1 h2
theorem Full.sole {us : List W} (h : Full us) (l : us.length = 1) : us = [[]] := by
  cases h with
  | one => rfl
  | two a b =>
    have := a.pos
    have := b.pos
    rw [List.length_append, List.length_map, List.length_map] at l
    omega
theorem half_one {ws : List W} {os : List Nat} {u : W} {b : Bool} {lo hi o : Nat} (h : Half ws os u b lo hi) (e : hi = lo + 1) (ho : os[lo]? = some o) : ws[o]? = some (u ++ [b]) := by
  obtain ⟨_, us, f, l, g⟩ := h
  have e1 := f.sole (by omega)
  subst e1
  obtain ⟨o', h1, h2⟩ := g 0 [] rfl
  rw [Nat.add_zero, ho] at h1
  cases h1
  rw [h2, List.append_nil]
theorem full_nil {us : List W} (f : Full us) (l : 2 ≤ us.length) {i : Nat} (hi : i < us.length) (z : us[i] = []) : False := by
  obtain ⟨zs, os, _, _, rfl⟩ := f.parts l
  have m := List.getElem_mem hi
  rw [z] at m
  rcases List.mem_append.mp m with m | m
  · obtain ⟨x, _, e⟩ := List.mem_map.mp m
    cases e
  · obtain ⟨x, _, e⟩ := List.mem_map.mp m
    cases e
theorem bS_snoc (u : W) (b : Bool) : bS (u ++ [b]) = bS u ++ (⟨#[cd b]⟩ : Str) := by
  rw [bS, bS, List.map_append]
  show S _ = (⟨(S _).cps ++ _⟩ : Str)
  unfold S
  simp
/-- what stands below a node -/
def Gd (ws : List W) (os : List Nat) (nm : List W) (t : It3) : Prop := t.2.1 + 2 ≤ t.2.2 ∧ ∃ (u : W) (us : List W), nm[t.1]? = some u ∧ Full us ∧ us.length = t.2.2 - t.2.1 ∧ ∀ i v, us[i]? = some v → ∃ o, os[t.2.1 + i]? = some o ∧ ws[o]? = some (u ++ v)
theorem Gd.more {ws : List W} {os : List Nat} {nm ex : List W} {t : It3} (h : Gd ws os nm t) : Gd ws os (nm ++ ex) t := by
  obtain ⟨h1, u, us, h2, h3, h4, h5⟩ := h
  refine ⟨h1, u, us, ?_, h3, h4, h5⟩
  rw [List.getElem?_append_left (List.getElem?_eq_some_iff.mp h2).1]
  exact h2
theorem wgt_len {ws : List W} {os : List Nat} {nm : List W} : ∀ {its : List It3}, (∀ t ∈ its, Gd ws os nm t) → its.length ≤ wgt its
  | [], _ => Nat.zero_le _
  | t :: r, h => by
    have ih := wgt_len (its := r) fun x hx => h x (List.mem_cons_of_mem _ hx)
    have := (h t List.mem_cons_self).1
    show r.length + 1 ≤ ((t :: r).map _).sum
    rw [List.map_cons, List.sum_cons]
    have e : (r.map fun t : It3 => 2 * (t.2.2 - t.2.1) - 3).sum = wgt r := rfl
    rw [e]
    omega
theorem wgt_snoc (its : List It3) (t : It3) : wgt (its ++ [t]) = wgt its + (2 * (t.2.2 - t.2.1) - 3) := by simp [wgt]
def cc (fi mi be : Nat) : Nat → Nat
  | 0 => 0
  | 1 => 2 * (be - mi) - 2
  | _ => 2 * (be - mi) - 2 + (2 * (mi - fi) - 2)
theorem ixn {n j : Nat} (h : j < n) : ixN n (j : Int) = some j := by
  rw [ixN, if_pos (by omega), if_pos (by omega), Int.toNat_natCast]
theorem paired_snoc {α β : Type} {F : α → β → Prop} {x : α} {y : β} (h : F x y) : ∀ {xs : List α} {ys : List β}, Paired F xs ys → Paired F (xs ++ [x]) (ys ++ [y])
  | _, _, .nil => .cons h .nil
  | _, _, .cons a r => .cons a (paired_snoc h r)
theorem Half.gd {ws : List W} {os : List Nat} {u : W} {b : Bool} {lo hi : Nat} {nm : List W} (h : Half ws os u b lo hi) (c : lo + 2 ≤ hi) : Gd ws os (nm ++ [u ++ [b]]) (nm.length, lo, hi) := by
  obtain ⟨_, us, f, l, g⟩ := h
  refine ⟨c, u ++ [b], us, ?_, f, l, g⟩
  rw [List.getElem?_append_right (Nat.le_refl _), Nat.sub_self]
  rfl
def ItAt (H : Hp) (v : V) (t : It3) : Prop := ∃ a, v = .ref a ∧ H a = some (.tup [.int (t.1 : Nat), .int (t.2.1 : Nat), .int (t.2.2 : Nat)])
theorem ItAt.lst {H : Hp} {D : Addr} {xs ys : List V} {v : V} {t : It3} (h : ItAt H v t) (hD : H D = some (.lst xs)) : ItAt (upd H D (.lst ys)) v t := let ⟨a, e, h⟩ := h; ⟨a, e, TT.lst hD _ _ h⟩
theorem ItAt.same {H H' : Hp} {v : V} {t : It3} (h : ItAt H v t) (e : Same H H') : ItAt H' v t := let ⟨a, e1, h⟩ := h; ⟨a, e1, e _ _ h⟩
/-- the heap while the tree grows -/
structure TrH (C dx p wp OR TD a1 a2 a3 : Addr) (H0 H : Hp) (Tb : List (Addr × Str)) (ws : List W) (os : List Nat) (nm : List W) (its : List It3) (y2 y3 : List V) : Prop where
  frm : ButT p H0 H
  tabs : LamX.Tabs Tb H
  hp : H p = some (.ins C dx (trF a1 a2 a3))
  hw : H wp = some (.tup (ws.map wV))
  hO : H OR = some (.lst (os.map fun n : Nat => V.int (n : Nat)))
  h1 : H a1 = some (.lst (nm.map wV))
  h2 : H a2 = some (.lst y2) ∧ y2.length = nm.length
  h3 : H a3 = some (.lst y3) ∧ y3.length = nm.length
  hT : ∃ vs, H TD = some (.lst vs) ∧ Paired (ItAt H) vs its
  good : ∀ t ∈ its, Gd ws os nm t
/-- nothing but a table was there -/
def Fr0 (H0 : Hp) (a : Addr) : Prop := ∀ o, H0 a = some o → ∃ ps, o = .tbl ps
theorem fr_ne {H0 : Hp} {a b : Addr} {o : HO} (h : Fr0 H0 a) (z : H0 b = some o) (m : ∀ ps, o ≠ .tbl ps) : b ≠ a := fun e => by
  subst e
  obtain ⟨ps, rfl⟩ := h o z
  exact m ps rfl
theorem fr_none {H0 : Hp} {a : Addr} (h : H0 a = none) : Fr0 H0 a := fun o z => by rw [h] at z; cases z
/-- the lists are apart and new -/
structure TrN (OR TD a1 a2 a3 : Addr) (H0 : Hp) : Prop where
  n1 : Fr0 H0 a1
  n2 : Fr0 H0 a2
  n3 : Fr0 H0 a3
  nT : Fr0 H0 TD
  d12 : a1 ≠ a2
  d13 : a1 ≠ a3
  d23 : a2 ≠ a3
  dT1 : TD ≠ a1
  dT2 : TD ≠ a2
  dT3 : TD ≠ a3
  dO1 : OR ≠ a1
  dO2 : OR ≠ a2
  dO3 : OR ≠ a3
  dOT : OR ≠ TD
section
variable {C dx p wp OR TD a1 a2 a3 : Addr} {H0 H H' : Hp} {Tb : List (Addr × Str)} {ws : List W} {os : List Nat} {nm : List W} {its : List It3} {y2 y3 : List V}
theorem TrH.same (h : TrH C dx p wp OR TD a1 a2 a3 H0 H Tb ws os nm its y2 y3) (e : Same H H') : TrH C dx p wp OR TD a1 a2 a3 H0 H' Tb ws os nm its y2 y3 :=
  let ⟨e2, l2⟩ := h.h2; let ⟨e3, l3⟩ := h.h3; let ⟨vs, eT, pT⟩ := h.hT
  ⟨fun b o n z m => e _ _ (h.frm b o n z m), h.tabs.ext e, e _ _ h.hp, e _ _ h.hw, e _ _ h.hO, e _ _ h.h1, ⟨e _ _ e2, l2⟩, ⟨e _ _ e3, l3⟩, ⟨vs, e _ _ eT, Paired.mapP pT fun _ _ z => z.same e⟩, h.good⟩
/-- the list of what is to be done is written -/
theorem TrH.todo (N : TrN OR TD a1 a2 a3 H0) (h : TrH C dx p wp OR TD a1 a2 a3 H0 H Tb ws os nm its y2 y3) {ys : List V} {its2 : List It3} (pr : Paired (ItAt H) ys its2) (g : ∀ t ∈ its2, Gd ws os nm t) : TrH C dx p wp OR TD a1 a2 a3 H0 (upd H TD (.lst ys)) Tb ws os nm its2 y2 y3 := by
  obtain ⟨e2, l2⟩ := h.h2
  obtain ⟨e3, l3⟩ := h.h3
  obtain ⟨vs, eT, pT⟩ := h.hT
  refine ⟨fun b o n z m => (upd_ne (fr_ne N.nT z m)).trans (h.frm b o n z m), tabs_put h.tabs eT, (upd_ne (ne_of h.hp eT fun y => nomatch y)).trans h.hp, (upd_ne (ne_of h.hw eT fun y => nomatch y)).trans h.hw, (upd_ne N.dOT).trans h.hO, (upd_ne (Ne.symm N.dT1)).trans h.h1, ⟨(upd_ne (Ne.symm N.dT2)).trans e2, l2⟩, ⟨(upd_ne (Ne.symm N.dT3)).trans e3, l3⟩, ⟨ys, upd_same, Paired.mapP pr fun _ _ z => z.lst eT⟩, g⟩
/-- one number is written at a node -/
theorem TrH.put2 (N : TrN OR TD a1 a2 a3 H0) (h : TrH C dx p wp OR TD a1 a2 a3 H0 H Tb ws os nm its y2 y3) {ys : List V} (ex : H a2 = some (.lst y2)) (ly : ys.length = nm.length) : TrH C dx p wp OR TD a1 a2 a3 H0 (upd H a2 (.lst ys)) Tb ws os nm its ys y3 := by
  obtain ⟨e3, l3⟩ := h.h3
  obtain ⟨vs, eT, pT⟩ := h.hT
  exact ⟨fun b o n z m => (upd_ne (fr_ne N.n2 z m)).trans (h.frm b o n z m), tabs_put h.tabs ex, (upd_ne (ne_of h.hp ex fun y => nomatch y)).trans h.hp, (upd_ne (ne_of h.hw ex fun y => nomatch y)).trans h.hw, (upd_ne N.dO2).trans h.hO, (upd_ne N.d12).trans h.h1, ⟨upd_same, ly⟩, ⟨(upd_ne (Ne.symm N.d23)).trans e3, l3⟩, ⟨vs, (upd_ne N.dT2).trans eT, Paired.mapP pT fun _ _ z => z.lst ex⟩, h.good⟩
theorem TrH.put3 (N : TrN OR TD a1 a2 a3 H0) (h : TrH C dx p wp OR TD a1 a2 a3 H0 H Tb ws os nm its y2 y3) {ys : List V} (ex : H a3 = some (.lst y3)) (ly : ys.length = nm.length) : TrH C dx p wp OR TD a1 a2 a3 H0 (upd H a3 (.lst ys)) Tb ws os nm its y2 ys := by
  obtain ⟨e2, l2⟩ := h.h2
  obtain ⟨vs, eT, pT⟩ := h.hT
  exact ⟨fun b o n z m => (upd_ne (fr_ne N.n3 z m)).trans (h.frm b o n z m), tabs_put h.tabs ex, (upd_ne (ne_of h.hp ex fun y => nomatch y)).trans h.hp, (upd_ne (ne_of h.hw ex fun y => nomatch y)).trans h.hw, (upd_ne N.dO3).trans h.hO, (upd_ne N.d13).trans h.h1, ⟨(upd_ne N.d23).trans e2, l2⟩, ⟨upd_same, ly⟩, ⟨vs, (upd_ne N.dT3).trans eT, Paired.mapP pT fun _ _ z => z.lst ex⟩, h.good⟩
/-- a node more -/
theorem TrH.grow (N : TrN OR TD a1 a2 a3 H0) (h : TrH C dx p wp OR TD a1 a2 a3 H0 H Tb ws os nm its y2 y3) (e2 : H a2 = some (.lst y2)) (e3 : H a3 = some (.lst y3)) (l2 : y2.length = nm.length) (l3 : y3.length = nm.length) (u : W) :
    TrH C dx p wp OR TD a1 a2 a3 H0 (upd (upd (upd H a1 (.lst (nm.map wV ++ [wV u]))) a2 (.lst (y2 ++ [.non]))) a3 (.lst (y3 ++ [.non]))) Tb ws os (nm ++ [u]) its (y2 ++ [.non]) (y3 ++ [.non]) := by
  obtain ⟨vs, eT, pT⟩ := h.hT
  have f2 : upd H a1 (.lst (nm.map wV ++ [wV u])) a2 = some (.lst y2) := (upd_ne (Ne.symm N.d12)).trans e2
  have f3 : upd (upd H a1 (.lst (nm.map wV ++ [wV u]))) a2 (.lst (y2 ++ [.non])) a3 = some (.lst y3) := (upd_ne (Ne.symm N.d23)).trans ((upd_ne (Ne.symm N.d13)).trans e3)
  have far : ∀ b o, H b = some o → b ≠ a1 → b ≠ a2 → b ≠ a3 → upd (upd (upd H a1 (.lst (nm.map wV ++ [wV u]))) a2 (.lst (y2 ++ [.non]))) a3 (.lst (y3 ++ [.non])) b = some o := fun b o z n1 n2 n3 => (upd_ne n3).trans ((upd_ne n2).trans ((upd_ne n1).trans z))
  have tup : ∀ b xs, H b = some (.tup xs) → upd (upd (upd H a1 (.lst (nm.map wV ++ [wV u]))) a2 (.lst (y2 ++ [.non]))) a3 (.lst (y3 ++ [.non])) b = some (.tup xs) := fun b xs z => far b _ z (ne_of z h.h1 fun y => nomatch y) (ne_of z e2 fun y => nomatch y) (ne_of z e3 fun y => nomatch y)
  refine ⟨fun b o n z m => far b o (h.frm b o n z m) (fr_ne N.n1 z m) (fr_ne N.n2 z m) (fr_ne N.n3 z m), tabs_put (tabs_put (tabs_put h.tabs h.h1) f2) f3, far _ _ h.hp (ne_of h.hp h.h1 fun y => nomatch y) (ne_of h.hp e2 fun y => nomatch y) (ne_of h.hp e3 fun y => nomatch y), tup _ _ h.hw, far _ _ h.hO N.dO1 N.dO2 N.dO3, ?_, ⟨(upd_ne N.d23).trans upd_same, by rw [List.length_append, List.length_append, l2]; rfl⟩, ⟨upd_same, by rw [List.length_append, List.length_append, l3]; rfl⟩, ⟨vs, far _ _ eT N.dT1 N.dT2 N.dT3, Paired.mapP pT fun v t ⟨a, e, z⟩ => ⟨a, e, tup _ _ z⟩⟩, fun t ht => (h.good t ht).more⟩
  rw [List.map_append]
  exact (upd_ne N.d13).trans ((upd_ne N.d12).trans upd_same)
end
section
variable {P : Program} {w : World} {K : PySem.W.Frag} {mg : Str → Option Value} {base : Heap}
theorem ok_trI {f c T C : Addr} {fd : FuncData} {Tb : List (Addr × Str)} (F : FunL K base mg "__init__" "Tree.__init__" sTrI f c T fd) (B : Bi mg) (Z : Bs mg) (TX : TxR K C) (cO : Cal CX0 P w K mg base 1 "first_one" (spFo K))
    (hmT : (T, (("Tree.__init__.<locals>.<lambda>" : String) : Str)) ∈ Tb) (hu : ∀ p ∈ Tb, p.1 = T → p.2 = (("Tree.__init__.<locals>.<lambda>" : String) : Str)) : FnOk P w K mg base CX0 6 f fd ["self", "words"] (spTrI C Tb) := by
  refine F.okX scTr (fun vs H Q E h => ?_) (fun A outer s H vs Q E hr h => ?_)
  · obtain ⟨p, dx, wp, ws, L, rfl, _⟩ := h
    rfl
  · obtain ⟨p, dx, wp, ws, L, rfl, hp, hw, pf, l2, lN, hL, L5, ek, tabs, q⟩ := h
    refine ⟨_, pss_cons (ps_fld (pv 0) (pe_lst (pa_cons pe_str pa_nil)) rfl)
      (pss_cons (ps_fld (pv 0) (pe_lst (pa_cons pe_non pa_nil)) rfl)
      (pss_cons (ps_fld (pv 0) (pe_lst (pa_cons pe_non pa_nil)) rfl)
      (pss_cons (ps_set (i := 2) scTr.nd rfl (Or.inl rfl) (by exact SrtL.pe_sortLam (k := 1) (i := 14) SrtL.ordStr rfl Z.sorted (pe_listRg rfl rfl B.list (prg_1 rfl B.range (pe_len B.len (pa_cons (pv 1) pa_nil)))) F.tab hmT hu (hr.mono (by decide)) (LamX.lamP_by (sc := defScope sTrI) (by decide +kernel)) scTr.nd rfl (fun s H f c' hr' => pe_ix (ix_tupK K rfl) (pv 1) (pv 14) (fun _ _ => rfl))))
      (pss_cons (ps_set (i := 3) scTr.nd rfl (Or.inl rfl) (pe_lst (pa_cons (pe_tup (pa_cons pe_int (pa_cons pe_int (pa_cons (pe_len B.len (pa_cons (pv 1) pa_nil)) pa_nil)))) pa_nil)))
      (pss_cons (ps_while PassesOwn.never (pt_truth (pv 3) (by intro _; rfl))
        (pss_cons (ps_asg (pe_bm0 PySem.F.plainAttrs_list PySem.F.slot_list_pop PySem.F.type_list_pop mt_pop (pv 3)) (pg_tup rfl (pgs_cons (pg_name (i := 4) scTr.nd rfl (.inl rfl)) (pgs_cons (pg_name (i := 5) scTr.nd rfl (.inl rfl)) (pgs_cons (pg_name (i := 6) scTr.nd rfl (.inl rfl)) pgs_nil)))))
        (pss_cons (ps_set (i := 7) scTr.nd rfl (Or.inl rfl) (pe_lenS B.len (pa_cons (pe_ix ix_list (pe_fld (pv 0) rfl) (pv 4) (fun _ _ => rfl)) pa_nil)))
        (pss_cons (ps_set (i := 8) scTr.nd rfl (Or.inl rfl) (pe_c cO hr pass0 (pa_cons (pv 1) (pa_cons (pv 2) (pa_cons (pv 7) (pa_cons (pv 5) (pa_cons (pv 6) pa_nil)))))))
        (pss_one (ps_for PassesOwn.never rfl (pi_sqA (pe_tup (pa_cons (pe_tup (pa_cons pe_str (pa_cons (pv 8) (pa_cons (pv 6) pa_nil)))) (pa_cons (pe_tup (pa_cons pe_str (pa_cons (pv 5) (pa_cons (pv 8) pa_nil)))) pa_nil)))) (pg_tup rfl (pgs_cons (pg_name (i := 9) scTr.nd rfl (.inl rfl)) (pgs_cons (pg_name (i := 10) scTr.nd rfl (.inl rfl)) (pgs_cons (pg_name (i := 11) scTr.nd rfl (.inl rfl)) pgs_nil))))
          (pss_cons (ps_set (i := 12) scTr.nd rfl (Or.inl rfl) (pe_op op_sub (pe_un un_neg pe_int) (pe_ix ix_list (pv 2) (pv 10) (fun _ _ => rfl))))
          (pss_cons (ps_if (pt_cmpR op_gt (pe_op op_sub (pv 11) (pv 10)) pe_int (nomark _))
            (pss_cons (ps_set (i := 12) scTr.nd rfl (Or.inl rfl) (pe_len B.len (pa_cons (pe_fld (pv 0) rfl) pa_nil)))
            (pss_cons (ps_expr (pe_bm PySem.F.plainAttrs_list PySem.F.slot_list_append PySem.F.type_list_append mt_append (pe_fld (pv 0) rfl) (pa_cons (pe_op op_add_str (pe_ix ix_list (pe_fld (pv 0) rfl) (pv 4) (fun _ _ => rfl)) (pv 9)) pa_nil)))
            (pss_cons (ps_expr (pe_bm PySem.F.plainAttrs_list PySem.F.slot_list_append PySem.F.type_list_append mt_append (pe_fld (pv 0) rfl) (pa_cons pe_non pa_nil)))
            (pss_cons (ps_expr (pe_bm PySem.F.plainAttrs_list PySem.F.slot_list_append PySem.F.type_list_append mt_append (pe_fld (pv 0) rfl) (pa_cons pe_non pa_nil)))
            (pss_one (ps_expr (pe_bm PySem.F.plainAttrs_list PySem.F.slot_list_append PySem.F.type_list_append mt_append (pv 3) (pa_cons (pe_tup (pa_cons (pv 12) (pa_cons (pv 10) (pa_cons (pv 11) pa_nil)))) pa_nil)))))))) pss_nil)
          (pss_one (ps_if (pt_cmpR op_eq (pv 9) pe_str (nomark _)) (pss_one (ps_asg (pv 12) (pg_sub (pe_fld (pv 0) rfl) (pv 4) set_list))) (pss_one (ps_asg (pv 12) (pg_sub (pe_fld (pv 0) rfl) (pv 4) set_list)))))))))))))
      (pss_one (ps_fld (pv 0) (pe_dc (own := [("node", 4), ("name", 13)]) rfl scTr.nd (pi_en B.enum (pa_cons (pe_fld (pv 0) rfl) pa_nil)) (blkOk_by (N := NTr) (sc := defScope sTrI) (by decide +kernel))
          (fun _ _ _ _ _ => pg_pairK K rfl rfl (pg_name (i := 4) scTr.nd rfl (Or.inl rfl) (.inr rfl)) (pg_name (i := 13) scTr.nd rfl (Or.inl rfl) (.inr rfl))) (fun _ _ _ _ _ => pts_nil) (fun _ _ _ _ _ => pv 13) (fun _ _ _ _ _ => pv 4)) rfl))))))), ?_⟩
    refine ⟨by show 1 ≤ sizeLine; decide, fun a1 n1 => ⟨_, rfl, p, C, dx, [], rfl, same_new n1 _ _ hp, TX.cl, TX.n, by decide, ?_⟩⟩
    have e1 := same_new (o := .lst [.str ""]) n1
    have pa1 : p ≠ a1 := ne_of_none hp n1
    have hp1 : upd (upd H a1 (.lst [.str ""])) p (.ins C dx (putF "names" (.ref a1) [])) p = some (.ins C dx (putF "names" (.ref a1) [])) := upd_same
    have g1 : upd (upd H a1 (.lst [.str ""])) p (.ins C dx (putF "names" (.ref a1) [])) a1 = some (.lst [.str ""]) := (upd_ne (Ne.symm pa1)).trans upd_same
    have f1 : ButI p H (upd (upd H a1 (.lst [.str ""])) p (.ins C dx (putF "names" (.ref a1) []))) := fun b o n z => (upd_ne n).trans (e1 _ _ z)
    generalize upd (upd H a1 (.lst [.str ""])) p (.ins C dx (putF "names" (.ref a1) [])) = H1 at hp1 g1 f1 ⊢
    refine ⟨by show 1 ≤ sizeLine; decide, fun a2 n2 => ⟨_, rfl, p, C, dx, _, rfl, same_new n2 _ _ hp1, TX.cl, TX.z, by show 1 < 1000; decide, ?_⟩⟩
    have e2 := same_new (o := .lst [.non]) n2
    have pa2 : p ≠ a2 := ne_of_none hp1 n2
    have d12 : a1 ≠ a2 := ne_of_none g1 n2
    have hp2 : upd (upd H1 a2 (.lst [.non])) p (.ins C dx (putF "zeros" (.ref a2) (putF "names" (.ref a1) []))) p = some (.ins C dx (putF "zeros" (.ref a2) (putF "names" (.ref a1) []))) := upd_same
    have g2 : upd (upd H1 a2 (.lst [.non])) p (.ins C dx (putF "zeros" (.ref a2) (putF "names" (.ref a1) []))) a2 = some (.lst [.non]) := (upd_ne (Ne.symm pa2)).trans upd_same
    have f2 : ButI p H1 (upd (upd H1 a2 (.lst [.non])) p (.ins C dx (putF "zeros" (.ref a2) (putF "names" (.ref a1) [])))) := fun b o n z => (upd_ne n).trans (e2 _ _ z)
    generalize upd (upd H1 a2 (.lst [.non])) p (.ins C dx (putF "zeros" (.ref a2) (putF "names" (.ref a1) []))) = H2 at hp2 g2 f2 ⊢
    refine ⟨by show 1 ≤ sizeLine; decide, fun a3 n3 => ⟨_, rfl, p, C, dx, _, rfl, same_new n3 _ _ hp2, TX.cl, TX.o, by show 2 < 1000; decide, ?_⟩⟩
    have e3 := same_new (o := .lst [.non]) n3
    have pa3 : p ≠ a3 := ne_of_none hp2 n3
    have h1n2 := f2 a1 _ (Ne.symm pa1) g1
    have d13 : a1 ≠ a3 := ne_of_none h1n2 n3
    have d23 : a2 ≠ a3 := ne_of_none g2 n3
    have hp3 : upd (upd H2 a3 (.lst [.non])) p (.ins C dx (trF a1 a2 a3)) p = some (.ins C dx (trF a1 a2 a3)) := upd_same
    have g3 : upd (upd H2 a3 (.lst [.non])) p (.ins C dx (trF a1 a2 a3)) a3 = some (.lst [.non]) := (upd_ne (Ne.symm pa3)).trans upd_same
    have f3 : ButI p H2 (upd (upd H2 a3 (.lst [.non])) p (.ins C dx (trF a1 a2 a3))) := fun b o n z => (upd_ne n).trans (e3 _ _ z)
    show (fun H' => _) (upd (upd H2 a3 (.lst [.non])) p (.ins C dx (trF a1 a2 a3)))
    generalize upd (upd H2 a3 (.lst [.non])) p (.ins C dx (trF a1 a2 a3)) = H3 at hp3 g3 f3 ⊢
    have g13 := f3 a1 _ (Ne.symm pa1) h1n2
    have g23 := f3 a2 _ (Ne.symm pa2) g2
    have f13 : ButI p H H3 := fun b o n z => f3 b o n (f2 b o n (f1 b o n z))
    have pw : wp ≠ p := ne_of hw hp fun y => nomatch y
    have hw3 := f13 wp _ pw hw
    have tab3 : LamX.Tabs Tb H3 := tabs_at tabs hp (fun _ z => nomatch z) (fun _ z => nomatch z) f13
    have lw : (ws.map wV).length = ws.length := List.length_map _
    refine ⟨_, rfl, wp, _, rfl, .inr (SqT.of hw3), _, rfl, ?_, fun a4 n4 => ?_⟩
    · rw [lw]
      exact RgOk.of_le (by omega) (by omega) (by omega) (by omega)
    rw [lw]
    have e4 := same_new (o := .lst (rgV 0 ((ws.length : Nat) : Int))) n4
    have g4 : upd H3 a4 (.lst (rgV 0 ((ws.length : Nat) : Int))) a4 = some (.lst (rgV 0 ((ws.length : Nat) : Int))) := upd_same
    refine ⟨a4, _, fun v => bS (ws.getD (nO v) []), rfl, SqL.of g4, tab3.ext e4, fun H5 en5 tab5 => ⟨SqL.of (en5 _ _ g4 fun _ z => nomatch z), fun v hv => ?_, fun ys OR srt stb nOR => ?_⟩⟩
    · obtain ⟨i, hi, rfl⟩ := List.mem_map.mp hv
      have hi := List.mem_range.mp hi
      have hi : i < ws.length := by omega
      have i0 : (0 : Int) + ((i : Nat) : Int) = (i : Nat) := by omega
      rw [i0]
      have eg : ws.getD (nO (.int (i : Nat))) [] = ws[i] := by
        show ws.getD ((i : Nat) : Int).toNat [] = _
        rw [Int.toNat_natCast, List.getD_eq_getElem?_getD, List.getElem?_eq_getElem hi]
        rfl
      refine ⟨_, rfl, _, rfl, wp, _, _, wV ws[i], rfl, rfl, SqT.of (en5 _ _ (e4 _ _ hw3) fun _ z => nomatch z), atI_nat (by rw [List.getElem?_map, List.getElem?_eq_getElem hi]; rfl), ?_, rfl⟩
      show wV ws[i] = V.str (bS (ws.getD (nO (.int (i : Nat))) []))
      rw [eg]
      rfl
    obtain ⟨os, rfl, osl, oln, full⟩ := order_of stb.perm srt pf hL ek
    have e6 := same_new (o := .lst (os.map fun n : Nat => V.int (n : Nat))) nOR
    have gOR : upd H5 OR (.lst (os.map fun n : Nat => V.int (n : Nat))) OR = some (.lst (os.map fun n : Nat => V.int (n : Nat))) := upd_same
    have h51 := en5 _ _ (e4 _ _ g13) fun _ z => nomatch z
    have h52 := en5 _ _ (e4 _ _ g23) fun _ z => nomatch z
    have h53 := en5 _ _ (e4 _ _ g3) fun _ z => nomatch z
    have dO1 : OR ≠ a1 := (ne_of_none h51 nOR).symm
    have dO2 : OR ≠ a2 := (ne_of_none h52 nOR).symm
    have dO3 : OR ≠ a3 := (ne_of_none h53 nOR).symm
    have fr6 : ButT p H (upd H5 OR (.lst (os.map fun n : Nat => V.int (n : Nat)))) := fun b o n z m => e6 _ _ (en5 _ _ (e4 _ _ (f13 b o n z)) m)
    have hp6 := e6 _ _ (en5 _ _ (e4 _ _ hp3) fun _ z => nomatch z)
    have tab6 := tab5.ext e6
    have h61 := e6 _ _ h51
    have h62 := e6 _ _ h52
    have h63 := e6 _ _ h53
    have hw6 := e6 _ _ (en5 _ _ (e4 _ _ hw3) fun _ z => nomatch z)
    have m2 : H a2 = none := by
      cases z : H a2 with
      | none => rfl
      | some o =>
        rw [f1 a2 o (Ne.symm pa2) z] at n2
        exact absurd n2 (fun y => nomatch y)
    have m3 : H a3 = none := by
      cases z : H a3 with
      | none => rfl
      | some o =>
        rw [f2 a3 o (Ne.symm pa3) (f1 a3 o (Ne.symm pa3) z)] at n3
        exact absurd n3 (fun y => nomatch y)
    clear f1 f2 f3 e1 e2 e3 hp1 hp2 hp3 g1 g2 g3 h1n2 g13 g23 h51 h52 h53 f13 hw3 tab3 e4 g4 en5 tab5 stb srt n2 n3 nOR n4
    generalize upd H5 OR (.lst (os.map fun n : Nat => V.int (n : Nat))) = H6 at e6 gOR fr6 hp6 tab6 h61 h62 h63 hw6 ⊢
    clear e6
    -- the work to do
    refine ⟨_, rfl, wp, _, rfl, .inr (SqT.of hw6), by show 3 ≤ sizeLine; decide, fun t0 nt0 => ⟨by show 1 ≤ sizeLine; decide, fun TD nTD => ?_⟩⟩
    rw [lw]
    have e7 := same_new (o := .tup [.int 0, .int 0, .int ((ws.length : Nat) : Int)]) nt0
    have ht0 : upd H6 t0 (.tup [.int 0, .int 0, .int ((ws.length : Nat) : Int)]) t0 = some (.tup [.int 0, .int 0, .int ((ws.length : Nat) : Int)]) := upd_same
    rw [lw] at nTD
    generalize upd H6 t0 (.tup [.int 0, .int 0, .int ((ws.length : Nat) : Int)]) = H7 at e7 ht0 nTD ⊢
    have e8 := same_new (o := .lst [.ref t0]) nTD
    have hTD : upd H7 TD (.lst [.ref t0]) TD = some (.lst [.ref t0]) := upd_same
    have e78 := e7.trans e8
    have mT : Fr0 H TD := fun o z => by
      by_cases ep : TD = p
      · rw [ep, e7 _ _ hp6] at nTD
        exact absurd nTD (fun y => nomatch y)
      · by_cases et : ∃ ps, o = .tbl ps
        · exact et
        · rw [e7 _ _ (fr6 TD o ep z fun ps y => et ⟨ps, y⟩)] at nTD
          exact absurd nTD (fun y => nomatch y)
    have N : TrN OR TD a1 a2 a3 H := ⟨fr_none n1, fr_none m2, fr_none m3, mT, d12, d13, d23, (ne_of_none (e7 _ _ h61) nTD).symm, (ne_of_none (e7 _ _ h62) nTD).symm, (ne_of_none (e7 _ _ h63) nTD).symm, dO1, dO2, dO3, ne_of_none (e7 _ _ gOR) nTD⟩
    have R0 : TrH C dx p wp OR TD a1 a2 a3 H (upd H7 TD (.lst [.ref t0])) Tb ws os [[]] [(0, 0, ws.length)] [.non] [.non] := by
      refine ⟨fun b o n z m => e78 _ _ (fr6 b o n z m), tab6.ext e78, e78 _ _ hp6, e78 _ _ hw6, e78 _ _ gOR, e78 _ _ h61, ⟨e78 _ _ h62, rfl⟩, ⟨e78 _ _ h63, rfl⟩, ⟨_, hTD, .cons ⟨t0, rfl, e8 _ _ ht0⟩ .nil⟩, fun t ht => ?_⟩
      rw [List.mem_singleton.mp ht]
      refine ⟨by show 0 + 2 ≤ ws.length; omega, [], _, rfl, full, by rw [List.length_map, oln]; rfl, fun i v hv => ?_⟩
      rw [List.getElem?_map] at hv
      cases ho : os[i]? with
      | none => rw [ho] at hv; cases hv
      | some o =>
        rw [ho] at hv
        have hv : v = ws.getD o [] := (Option.some.inj hv).symm
        have lo := osl o (List.mem_of_getElem? ho)
        refine ⟨o, by rw [show ((0, 0, ws.length) : It3).2.1 + i = i from Nat.zero_add i]; exact ho, ?_⟩
        rw [hv, List.nil_append, List.getD_eq_getElem?_getD, List.getElem?_eq_getElem lo]
        rfl
    have D0 : Dn ws [[]] [.non] [.non] (fun i => ∃ t ∈ [((0, 0, ws.length) : It3)], t.1 = i) fun i => ∃ t ∈ [((0, 0, ws.length) : It3)], t.1 = i := fun i x hx => by
      have l := (List.getElem?_eq_some_iff.mp hx).1
      obtain rfl : i = 0 := by simpa using l
      obtain rfl : x = [] := by simpa using hx.symm
      refine ⟨⟨0, ws.getD 0 [], fun z => ?_, ?_⟩, .inl ⟨_, List.mem_cons_self, rfl⟩, .inl ⟨_, List.mem_cons_self, rfl⟩⟩
      · have hm : ws[0] = [] := by rw [← z, List.getD_eq_getElem?_getD, List.getElem?_eq_getElem (show 0 < ws.length by omega)]; rfl
        have e2 := pf_nil pf (hm ▸ List.getElem_mem (show 0 < ws.length by omega))
        rw [e2] at l2
        simp at l2
      · rw [List.nil_append, List.getD_eq_getElem?_getD, List.getElem?_eq_getElem (show 0 < ws.length by omega)]
        rfl
    clear hTD e8 e78 ht0 e7 nTD nt0 hw6 h61 h62 h63 tab6 hp6 fr6 gOR m2 m3 mT n1
    generalize upd H7 TD (.lst [.ref t0]) = H8 at R0 ⊢
    refine ⟨fun k σ H' => ∃ (nm : List W) (its : List It3) (y2 y3 : List V) (x4 x5 x6 x7 x8 x9 x10 x11 x12 : Option V), k = wgt its ∧ σ = [some (.ref p), some (.ref wp), some (.ref OR), some (.ref TD), x4, x5, x6, x7, x8, x9, x10, x11, x12, none, none] ∧ TrH C dx p wp OR TD a1 a2 a3 H H' Tb ws os nm its y2 y3 ∧ nm[0]? = some [] ∧ Dn ws nm y2 y3 (fun i => ∃ t ∈ its, t.1 = i) (fun i => ∃ t ∈ its, t.1 = i) ∧ nm.length + wgt its ≤ 4000,
      ⟨_, [[]], [(0, 0, ws.length)], _, _, none, none, none, none, none, none, none, none, none, rfl, rfl, R0, rfl, D0, by show 1 + (2 * (ws.length - 0) - 3 + 0) ≤ 4000; omega⟩, ?_⟩
    rintro k σ G ⟨nm, its, y2, y3, x4, x5, x6, x7, x8, x9, x10, x11, x12, rfl, rfl, R, rt0, dn, bd⟩
    obtain ⟨vs, eT, pT⟩ := id R.hT
    refine ⟨_, rfl, !vs.isEmpty, .inl ⟨vs, SqL.of eT, rfl⟩, ?_⟩
    rcases List.eq_nil_or_concat its with rfl | ⟨its0, it, rfl⟩
    · cases pT
      refine iteF ?_
      have g1 := R.h1
      have hpg := R.hp
      refine ⟨_, rfl, p, C, dx, _, _, rfl, hpg, TX.cl, TX.n, tr_names a1 a2 a3, a1, nm.map wV, rfl, .inl (SqL.of g1), fun J Gd' wk hG D nD => dcL wk (fun i => .inr (bS (nm.getD i []))) (fun i => .int (i : Nat)) (fun i kvs => ∀ k, k < i → ∃ j : Nat, valV kvs (.inr (bS (nm.getD k []))) = some (.int (j : Nat)) ∧ j < i ∧ nm.getD j [] = nm.getD k []) (fun k z => absurd z (Nat.not_lt_zero _)) (fun i kvs _ h k hk => by
        rw [valV_put]
        by_cases e : (Sum.inr (bS (nm.getD k [])) : Key) = .inr (bS (nm.getD i []))
        · rw [if_pos e]
          exact ⟨i, rfl, Nat.lt_succ_self _, (bS_inj (Sum.inr.inj e)).symm⟩
        · rw [if_neg e]
          have : k ≠ i := fun z => e (by rw [z])
          obtain ⟨j, h1, h2, h3⟩ := h k (by omega)
          exact ⟨j, h1, by omega, h3⟩) (by rw [List.length_map]; omega) (fun H' e => hG H' fun o z => e _ _ z) nD ?_ ?_⟩
      · intro i T0 a' b' H14 R' N3 hi ea eb e14 hT r
        rw [List.length_map] at hi
        cases ea
        have eb : (nm.map wV)[i]? = some b' := eb
        rw [List.getElem?_map, List.getElem?_eq_getElem hi] at eb
        cases eb
        have eg : nm.getD i [] = nm[i] := by
          rw [List.getD_eq_getElem?_getD, List.getElem?_eq_getElem hi]
          rfl
        rw [eg] at r
        refine ⟨T0, _, rfl, SqT.of hT, rfl, _, _, rfl, _, _, rfl, rfl, rfl, ?_⟩
        unfold tYes
        exact iteT ⟨_, rfl, _, rfl, r⟩
      · intro H14 kvs e14 hD ik
        refine ⟨_, rfl, p, C, dx, _, rfl, e14 _ _ hpg, TX.cl, TX.b, by show 3 < 1000; decide, ?_⟩
        have off : ∀ b xs, H14 b = some (.lst xs) → upd H14 p (.ins C dx (putF "numbers" (.ref D) (trF a1 a2 a3))) b = some (.lst xs) := fun b xs z => (upd_ne (ne_of z (e14 _ _ hpg) fun y => nomatch y)).trans z
        refine q _ (fun b o n z m => (upd_ne n).trans (e14 _ _ (R.frm b o n z m))) ⟨dx, a1, a2, a3, D, nm, y2, y3, kvs, upd_same, off _ _ (e14 _ _ g1), off _ _ (e14 _ _ R.h2.1), off _ _ (e14 _ _ R.h3.1), (upd_ne (ne_of hD (e14 _ _ hpg) fun y => nomatch y)).trans hD, dn.mono (fun i ⟨t, h, _⟩ => absurd h List.not_mem_nil) (fun i ⟨t, h, _⟩ => absurd h List.not_mem_nil), rt0, fun x hx => ?_, by omega, R.h2.2, R.h3.2⟩ ?_
        · obtain ⟨i, hi, rfl⟩ := List.getElem_of_mem hx
          have eg : ∀ k (hk : k < nm.length), nm.getD k [] = nm[k] := fun k hk => by
            rw [List.getD_eq_getElem?_getD, List.getElem?_eq_getElem hk]
            rfl
          obtain ⟨j, h1, h2, h3⟩ := ik i (by rw [List.length_map]; exact hi)
          rw [List.length_map] at h2
          rw [eg i hi] at h1 h3
          exact ⟨j, h1, by rw [List.getElem?_eq_getElem h2, ← h3, eg j h2]⟩
        exact tabs_at (R.tabs.ext e14) (e14 _ _ hpg) (fun _ z => nomatch z) (fun _ z => nomatch z) fun c o n z => (upd_ne n).trans z
    · rw [List.concat_eq_append] at pT R bd
      obtain ⟨vs0, v, rfl, pT0, ta, rfl, hta⟩ := paired_last pT
      obtain ⟨nd, fi, be⟩ := it
      have hta : G ta = some (.tup [.int ((nd : Nat) : Int), .int ((fi : Nat) : Int), .int ((be : Nat) : Int)]) := hta
      have gd := R.good (nd, fi, be) (List.mem_append_right _ List.mem_cons_self)
      have R2 := R.todo N pT0 fun t ht => R.good t (List.mem_append_left _ ht)
      have hta2 := TT.lst (ys := vs0) eT _ _ hta
      rw [wgt_snoc] at bd
      have bd : nm.length + (wgt its0 + (2 * (be - fi) - 3)) ≤ 4000 := bd
      obtain ⟨l22, u, us, hu2, hfull, hlen, hws⟩ := gd
      have l22 : fi + 2 ≤ be := l22
      have hu2 : nm[nd]? = some u := hu2
      have hlen : us.length = be - fi := hlen
      have hws : ∀ i v, us[i]? = some v → ∃ o, os[fi + i]? = some o ∧ ws[o]? = some (u ++ v) := hws
      rw [show (!(vs0 ++ [V.ref ta]).isEmpty) = true by simp]
      refine iteT ⟨fun σ' H' => ∃ k', k' < wgt (its0.concat (nd, fi, be)) ∧ ∃ (nm : List W) (its : List It3) (y2 y3 : List V) (x4 x5 x6 x7 x8 x9 x10 x11 x12 : Option V), k' = wgt its ∧ σ' = [some (.ref p), some (.ref wp), some (.ref OR), some (.ref TD), x4, x5, x6, x7, x8, x9, x10, x11, x12, none, none] ∧ TrH C dx p wp OR TD a1 a2 a3 H H' Tb ws os nm its y2 y3 ∧ nm[0]? = some [] ∧ Dn ws nm y2 y3 (fun i => ∃ t ∈ its, t.1 = i) (fun i => ∃ t ∈ its, t.1 = i) ∧ nm.length + wgt its ≤ 4000, fun σ' H' ⟨k', l, z⟩ => ⟨k', l, z⟩, ?_⟩
      rw [List.concat_eq_append, wgt_snoc]
      refine ⟨_, rfl, .inl ⟨rfl, _, SqL.of eT⟩, TD, vs0 ++ [V.ref ta], .ref ta, rfl, rfl, eT, by rw [List.length_append, List.length_singleton, Nat.add_sub_cancel, List.getElem?_append_right (Nat.le_refl _), Nat.sub_self]; rfl, ?_⟩
      rw [List.dropLast_concat]
      generalize upd G TD (.lst vs0) = G2 at R2 hta2 ⊢
      refine ⟨ta, _, rfl, SqT.of hta2, rfl, ?_⟩
      have g1 := R2.h1
      have hpg := R2.hp
      have nu : nm[nd]? = some u := hu2
      obtain ⟨mi, m1, m2, hA, hB, hb0, hb1⟩ := halves l22 hfull hlen hws
      have lwS : ∀ w ∈ ws, w.length ≤ 5000 := fun w hw => Nat.le_trans (hL w hw) L5
      have lu : u.length ≤ 5000 := by
        obtain ⟨_, vA, fA, nA, gA⟩ := hA
        obtain ⟨o, h1, h2⟩ := gA 0 _ (List.getElem?_eq_getElem (show 0 < vA.length by omega))
        have := lwS _ (List.mem_of_getElem? h2)
        rw [List.length_append, List.length_append] at this
        omega
      have lbe : be ≤ 2000 := by
        obtain ⟨_, vA, fA, nA, gA⟩ := hA
        obtain ⟨o, h1, h2⟩ := gA (be - mi - 1) _ (List.getElem?_eq_getElem (show be - mi - 1 < vA.length by omega))
        have := (List.getElem?_eq_some_iff.mp h1).1
        omega
      refine ⟨_, _, rfl, _, _, rfl, _, _, rfl, rfl, ?_⟩
      refine ⟨_, rfl, p, C, dx, _, _, rfl, hpg, TX.cl, TX.n, tr_names a1 a2 a3, _, rfl, a1, _, _, wV u, rfl, rfl, SqL.of g1, atI_nat (by rw [List.getElem?_map, nu]; rfl), bS u, rfl, ?_, ?_⟩
      · rw [bS_len]
        exact Nat.le_of_lt (small10 (by omega))
      rw [bS_len]
      refine ⟨_, rfl, _, rfl, _, rfl, _, rfl, _, rfl, wp, OR, ws, os, u.length, fi, mi, be, rfl, R2.hw, R2.hO, Nat.le_of_lt m1, Nat.le_of_lt m2, by omega, hb0, hb1, fun w hw => Nat.le_trans (lwS w hw) (by decide), ?_⟩
      refine ⟨_, rfl, _, rfl, by show 3 ≤ sizeLine; decide, fun q1 nq1 => ⟨_, rfl, _, rfl, by show 3 ≤ sizeLine; decide, fun q2 nq2 => ⟨by show 2 ≤ sizeLine; decide, fun q3 nq3 => ?_⟩⟩⟩
      have e1 := same_new (o := .tup [.str "1", .int ((mi : Nat) : Int), .int ((be : Nat) : Int)]) nq1
      have e2 := same_new (o := .tup [.str "0", .int ((fi : Nat) : Int), .int ((mi : Nat) : Int)]) nq2
      have t1 : upd G2 q1 (.tup [.str "1", .int ((mi : Nat) : Int), .int ((be : Nat) : Int)]) q1 = some _ := upd_same
      have t2 : upd (upd G2 q1 (.tup [.str "1", .int ((mi : Nat) : Int), .int ((be : Nat) : Int)])) q2 (.tup [.str "0", .int ((fi : Nat) : Int), .int ((mi : Nat) : Int)]) q2 = some _ := upd_same
      have t1 := e2 _ _ t1
      have R3 := (R2.same e1).same e2
      have h3 : upd (upd (upd G2 q1 (.tup [.str "1", .int ((mi : Nat) : Int), .int ((be : Nat) : Int)])) q2 (.tup [.str "0", .int ((fi : Nat) : Int), .int ((mi : Nat) : Int)])) q3 (.tup [.ref q1, .ref q2]) q3 = some (.tup [.ref q1, .ref q2]) := upd_same
      have e3 := same_new (o := .tup [.ref q1, .ref q2]) nq3
      have t1 := e3 _ _ t1
      have t2 := e3 _ _ t2
      have R3 := R3.same e3
      generalize upd (upd (upd G2 q1 (.tup [.str "1", .int ((mi : Nat) : Int), .int ((be : Nat) : Int)])) q2 (.tup [.str "0", .int ((fi : Nat) : Int), .int ((mi : Nat) : Int)])) q3 (.tup [.ref q1, .ref q2]) = Hs at h3 t1 t2 R3 ⊢
      refine ⟨q3, [.ref q1, .ref q2], rfl, .inr (SqT.of h3), fun J GG wk hG => for_it wk (fun i σ H' => ∃ (nm' : List W) (its' : List It3) (y2' y3' : List V) (x9 x10 x11 x12 : Option V), σ = [some (.ref p), some (.ref wp), some (.ref OR), some (.ref TD), some (.int ((nd : Nat) : Int)), some (.int ((fi : Nat) : Int)), some (.int ((be : Nat) : Int)), some (.int ((u.length : Nat) : Int)), some (.int ((mi : Nat) : Int)), x9, x10, x11, x12, none, none] ∧
        TrH C dx p wp OR TD a1 a2 a3 H H' Tb ws os nm' its' y2' y3' ∧ nm'[0]? = some [] ∧ Dn ws nm' y2' y3' (fun k => (i < 2 ∧ k = nd) ∨ ∃ t ∈ its', t.1 = k) (fun k => (i < 1 ∧ k = nd) ∨ ∃ t ∈ its', t.1 = k) ∧ nm'[nd]? = some u ∧ TT Hs H' ∧ wgt its' ≤ wgt its0 + cc fi mi be i ∧ nm'.length + wgt its' ≤ nm.length + wgt its0 + cc fi mi be i)
        ⟨nm, its0, _, _, _, _, _, _, rfl, R3, rt0, dn.mono (fun k ⟨t, h, e⟩ => ?_) (fun k ⟨t, h, e⟩ => ?_), nu, fun _ _ z => z, Nat.le_refl _, Nat.le_refl _⟩ (fun i σ H' _ ⟨_, _, _, _, _, _, _, _, _, _, _, _, _, tt, _⟩ => hG H' fun o z => by rw [h3] at z; cases z; exact tt _ _ h3) ?_ ?_⟩
      · rcases List.mem_append.mp (show t ∈ its0 ++ [(nd, fi, be)] by rw [← List.concat_eq_append]; exact h) with h | h
        · exact .inr ⟨t, h, e⟩
        · rw [List.mem_singleton.mp h] at e
          exact .inl ⟨by decide, e.symm⟩
      · rcases List.mem_append.mp (show t ∈ its0 ++ [(nd, fi, be)] by rw [← List.concat_eq_append]; exact h) with h | h
        · exact .inr ⟨t, h, e⟩
        · rw [List.mem_singleton.mp h] at e
          exact .inl ⟨by decide, e.symm⟩
      · rintro i x σ H5 H5' hi ⟨nm5, its5, y2', y3', x9', x10', x11', x12', rfl, R5, rt5, dn5, nu5, tt5, w5, b5⟩ ⟨rfl, hx⟩
        obtain ⟨b, lo, hh, qq, rfl, hib, hq, hH, hc, hbe⟩ : ∃ (b : Bool) (lo hh : Nat) (qq : Addr), x = .ref qq ∧ (i = if b = true then 0 else 1) ∧ Hs qq = some (.tup [.str ⟨#[cd b]⟩, .int ((lo : Nat) : Int), .int ((hh : Nat) : Int)]) ∧ Half ws os u b lo hh ∧ cc fi mi be (i + 1) = cc fi mi be i + (2 * (hh - lo) - 2) ∧ hh ≤ be := by
          match i, hi, hx with
          | 0, _, hx =>
            cases hx
            exact ⟨true, mi, be, q1, rfl, rfl, t1, hA, (Nat.zero_add _).symm, Nat.le_refl _⟩
          | 1, _, hx =>
            cases hx
            exact ⟨false, fi, mi, q2, rfl, rfl, t2, hB, rfl, Nat.le_of_lt m2⟩
        obtain ⟨o, ho, _⟩ : ∃ o, os[lo]? = some o ∧ True := by
          obtain ⟨l, us', _, ll, g⟩ := hH
          obtain ⟨o, h1, _⟩ := g 0 _ (List.getElem?_eq_getElem (show 0 < us'.length by omega))
          exact ⟨o, h1, True.intro⟩
        have lh := hH.1
        refine ⟨qq, _, rfl, SqT.of (tt5 _ _ hq), rfl, _, _, rfl, _, _, rfl, _, _, rfl, rfl, ?_⟩
        refine ⟨_, rfl, _, rfl, _, rfl, OR, _, _, .int ((o : Nat) : Int), rfl, rfl, SqL.of R5.hO, atI_nat (by rw [List.getElem?_map, ho]; rfl), _, _, rfl, rfl, ?_⟩
        refine ⟨_, rfl, _, rfl, _, _, rfl, rfl, _, _, rfl, rfl, _, rfl, ?_⟩
        by_cases c1 : lo + 1 < hh
        · rw [decide_eq_true (show (1 : Int) < ((hh : Nat) : Int) - ((lo : Nat) : Int) by omega)]
          have k1 := R5.h1
          obtain ⟨k2, l2⟩ := R5.h2
          obtain ⟨k3, l3⟩ := R5.h3
          have kp := R5.hp
          have nl := (List.getElem?_eq_some_iff.mp nu5).1
          have bd5 : nm5.length ≤ 9000 := by
            have : cc fi mi be i ≤ 4000 := by
              unfold cc
              split <;> omega
            omega
          have ew : V.str (bS u ++ (⟨#[cd b]⟩ : Str)) = wV (u ++ [b]) := congrArg V.str (bS_snoc u b).symm
          have R6 := R5.grow N k2 k3 l2 l3 (u ++ [b])
          have dn7 : Dn ws (nm5 ++ [u ++ [b]]) (y2' ++ [.non]) (y3' ++ [.non]) (fun k => (i < 2 ∧ k = nd) ∨ ∃ t ∈ its5 ++ [(nm5.length, lo, hh)], t.1 = k) (fun k => (i < 1 ∧ k = nd) ∨ ∃ t ∈ its5 ++ [(nm5.length, lo, hh)], t.1 = k) := by
            refine Dn.grow (dn5.mono (fun k h => h.imp id fun ⟨t, h, e⟩ => ⟨t, List.mem_append_left _ h, e⟩) fun k h => h.imp id fun ⟨t, h, e⟩ => ⟨t, List.mem_append_left _ h, e⟩) ?_ (.inr ⟨_, List.mem_append_right _ List.mem_cons_self, rfl⟩) (.inr ⟨_, List.mem_append_right _ List.mem_cons_self, rfl⟩)
            obtain ⟨_, us', f', ll, g⟩ := hH
            obtain ⟨o1, h1, h2⟩ := g 0 _ (List.getElem?_eq_getElem (show 0 < us'.length by omega))
            refine ⟨o1, us'[0], fun z => ?_, h2⟩
            exact full_nil f' (by omega) (by omega) z
          have s1 : upd H5' a1 (.lst (nm5.map wV ++ [wV (u ++ [b])])) a2 = some (.lst y2') := (upd_ne (Ne.symm N.d12)).trans k2
          have p1 : upd H5' a1 (.lst (nm5.map wV ++ [wV (u ++ [b])])) p = some (.ins C dx (trF a1 a2 a3)) := (upd_ne (ne_of kp k1 fun y => nomatch y)).trans kp
          have s2 : upd (upd H5' a1 (.lst (nm5.map wV ++ [wV (u ++ [b])]))) a2 (.lst (y2' ++ [.non])) a3 = some (.lst y3') := (upd_ne (Ne.symm N.d23)).trans ((upd_ne (Ne.symm N.d13)).trans k3)
          have p2 : upd (upd H5' a1 (.lst (nm5.map wV ++ [wV (u ++ [b])]))) a2 (.lst (y2' ++ [.non])) p = some (.ins C dx (trF a1 a2 a3)) := (upd_ne (ne_of p1 s1 fun y => nomatch y)).trans p1
          refine iteT ⟨_, rfl, p, C, dx, _, _, rfl, kp, TX.cl, TX.n, tr_names a1 a2 a3, a1, _, rfl, .inl (SqL.of k1), ?_⟩
          rw [List.length_map]
          refine ⟨_, rfl, p, C, dx, _, _, rfl, kp, TX.cl, TX.n, tr_names a1 a2 a3, .inl ⟨rfl, _, SqL.of k1⟩, ?_⟩
          refine ⟨_, rfl, p, C, dx, _, _, rfl, kp, TX.cl, TX.n, tr_names a1 a2 a3, _, rfl, a1, _, _, wV u, rfl, rfl, SqL.of k1, atI_nat (by rw [List.getElem?_map, nu5]; rfl), _, rfl, _, _, rfl, rfl, ?_, a1, _, wV (u ++ [b]), rfl, congrArg (fun z => [z]) ew, k1, ?_, ?_⟩
          · rw [bS_len]
            show u.length + 1 ≤ sizeLine
            exact Nat.le_of_lt (small10 (by omega))
          · rw [List.length_map]
            exact small10 (by omega)
          refine ⟨_, rfl, p, C, dx, _, _, rfl, p1, TX.cl, TX.z, tr_zeros a1 a2 a3, .inl ⟨rfl, _, SqL.of s1⟩, a2, y2', .non, rfl, rfl, s1, small10 (by omega), ?_⟩
          refine ⟨_, rfl, p, C, dx, _, _, rfl, p2, TX.cl, TX.o, tr_ones a1 a2 a3, .inl ⟨rfl, _, SqL.of s2⟩, a3, y3', .non, rfl, rfl, s2, small10 (by omega), ?_⟩
          have tt6 : TT Hs (upd (upd (upd H5' a1 (.lst (nm5.map wV ++ [wV (u ++ [b])]))) a2 (.lst (y2' ++ [.non]))) a3 (.lst (y3' ++ [.non]))) := ((tt5.trans (TT.lst k1)).trans (TT.lst s1)).trans (TT.lst s2)
          clear s1 s2 p1 p2
          generalize upd (upd (upd H5' a1 (.lst (nm5.map wV ++ [wV (u ++ [b])]))) a2 (.lst (y2' ++ [.non]))) a3 (.lst (y3' ++ [.non])) = H6 at R6 tt6 ⊢
          obtain ⟨vs6, kT, pT6⟩ := id R6.hT
          have lv : vs6.length ≤ 9000 := by
            have := wgt_len R5.good
            have e := Paired.length pT6
            have : cc fi mi be i ≤ 4000 := by
              unfold cc
              split <;> omega
            omega
          refine ⟨_, rfl, .inl ⟨rfl, _, SqL.of kT⟩, _, rfl, _, rfl, _, rfl, by show 3 ≤ sizeLine; decide, fun q4 nq4 => ⟨TD, vs6, .ref q4, rfl, rfl, same_new nq4 _ _ kT, small10 (by omega), ?_⟩⟩
          have e7 := same_new (o := .tup [.int ((nm5.length : Nat) : Int), .int ((lo : Nat) : Int), .int ((hh : Nat) : Int)]) nq4
          have kT7 := e7 _ _ kT
          have pT7 : Paired (ItAt (upd H6 q4 (.tup [.int ((nm5.length : Nat) : Int), .int ((lo : Nat) : Int), .int ((hh : Nat) : Int)]))) (vs6 ++ [.ref q4]) (its5 ++ [(nm5.length, lo, hh)]) := paired_snoc ⟨q4, rfl, upd_same⟩ (Paired.mapP pT6 fun _ _ z => z.same e7)
          have R7 := (R6.same e7).todo N pT7 fun t ht => by
            rcases List.mem_append.mp ht with z | z
            · exact R6.good t z
            · rw [List.mem_singleton.mp z]
              exact hH.gd c1
          have tt7 := (tt6.trans (TT.same e7)).trans (TT.lst (ys := vs6 ++ [.ref q4]) kT7)
          have rt7 : (nm5 ++ [u ++ [b]])[0]? = some [] := by
            rw [List.getElem?_append_left (by omega)]
            exact rt5
          have nu7 : (nm5 ++ [u ++ [b]])[nd]? = some u := by
            rw [List.getElem?_append_left nl]
            exact nu5
          have w7 : wgt (its5 ++ [(nm5.length, lo, hh)]) ≤ wgt its0 + cc fi mi be (i + 1) := by
            rw [wgt_snoc, hc]
            show wgt its5 + (2 * (hh - lo) - 3) ≤ _
            omega
          have b7 : (nm5 ++ [u ++ [b]]).length + wgt (its5 ++ [(nm5.length, lo, hh)]) ≤ nm.length + wgt its0 + cc fi mi be (i + 1) := by
            rw [wgt_snoc, hc, List.length_append]
            show nm5.length + 1 + (wgt its5 + (2 * (hh - lo) - 3)) ≤ _
            omega
          refine ⟨_, rfl, rfl, _, rfl, ?_⟩
          cases b
          · rw [show decide (V.str ⟨#[cd false]⟩ = V.str "1") = false from decide_eq_false (fun z => by
              injection z with z
              exact absurd z (by decide +kernel))]
            obtain ⟨f2, l2⟩ := R7.h2
            exact iteF ⟨_, rfl, _, rfl, p, C, dx, _, _, rfl, R7.hp, TX.cl, TX.z, tr_zeros a1 a2 a3, _, rfl, a2, _, _, nd, rfl, rfl, f2, ixn (by rw [l2]; exact (List.getElem?_eq_some_iff.mp (nu7)).1), _, _, _, _, _, _, _, _, rfl, R7.put2 N f2 (by rw [List.length_set, l2]), rt7, ((dn7.set2 (nu7) l2 (q2 := fun k => (i + 1 < 2 ∧ k = nd) ∨ ∃ t ∈ its5 ++ [(nm5.length, lo, hh)], t.1 = k) (fun k ne h => h.elim (fun z => absurd z.2 ne) .inr) (.inl ⟨nm5.length, rfl, nl, by rw [List.getElem?_append_right (Nat.le_refl _), Nat.sub_self]; rfl⟩)).mono (fun _ h => h) fun k h => h.elim (fun z => absurd z.1 (by rw [hib]; decide)) .inr), (nu7), tt7.trans (TT.lst f2), w7, b7⟩
          · rw [show decide (V.str ⟨#[cd true]⟩ = V.str "1") = true from decide_eq_true rfl]
            obtain ⟨f3, l3⟩ := R7.h3
            exact iteT ⟨_, rfl, _, rfl, p, C, dx, _, _, rfl, R7.hp, TX.cl, TX.o, tr_ones a1 a2 a3, _, rfl, a3, _, _, nd, rfl, rfl, f3, ixn (by rw [l3]; exact (List.getElem?_eq_some_iff.mp (nu7)).1), _, _, _, _, _, _, _, _, rfl, R7.put3 N f3 (by rw [List.length_set, l3]), rt7, ((dn7.set3 (nu7) l3 (q3 := fun k => (i + 1 < 1 ∧ k = nd) ∨ ∃ t ∈ its5 ++ [(nm5.length, lo, hh)], t.1 = k) (fun k ne h => h.elim (fun z => absurd z.2 ne) .inr) (.inl ⟨nm5.length, rfl, nl, by rw [List.getElem?_append_right (Nat.le_refl _), Nat.sub_self]; rfl⟩)).mono (fun k h => h.elim (fun z => .inl ⟨by rw [hib]; decide, z.2⟩) .inr) fun _ h => h), (nu7), tt7.trans (TT.lst f3), w7, b7⟩
        · rw [decide_eq_false (show ¬ (1 : Int) < ((hh : Nat) : Int) - ((lo : Nat) : Int) by omega)]
          have hwo : ws[o]? = some (u ++ [b]) := half_one hH (by omega) ho
          refine iteF ?_
          refine ⟨_, rfl, rfl, _, rfl, ?_⟩
          cases b
          · rw [show decide (V.str ⟨#[cd false]⟩ = V.str "1") = false from decide_eq_false (fun z => by
              injection z with z
              exact absurd z (by decide +kernel))]
            obtain ⟨f2, l2⟩ := R5.h2
            exact iteF ⟨_, rfl, _, rfl, p, C, dx, _, _, rfl, R5.hp, TX.cl, TX.z, tr_zeros a1 a2 a3, _, rfl, a2, _, _, nd, rfl, rfl, f2, ixn (by rw [l2]; exact (List.getElem?_eq_some_iff.mp nu5).1), nm5, its5, _, _, _, _, _, _, rfl, R5.put2 N f2 (by rw [List.length_set, l2]), rt5, ((dn5.set2 nu5 l2 (q2 := fun k => (i + 1 < 2 ∧ k = nd) ∨ ∃ t ∈ its5, t.1 = k) (fun k ne h => h.elim (fun z => absurd z.2 ne) .inr) (.inr ⟨o, by rfl, hwo⟩)).mono (fun _ h => h) fun k h => h.elim (fun z => absurd z.1 (by rw [hib]; decide)) .inr), nu5, tt5.trans (TT.lst f2), (by omega), (by omega)⟩
          · rw [show decide (V.str ⟨#[cd true]⟩ = V.str "1") = true from decide_eq_true rfl]
            obtain ⟨f3, l3⟩ := R5.h3
            exact iteT ⟨_, rfl, _, rfl, p, C, dx, _, _, rfl, R5.hp, TX.cl, TX.o, tr_ones a1 a2 a3, _, rfl, a3, _, _, nd, rfl, rfl, f3, ixn (by rw [l3]; exact (List.getElem?_eq_some_iff.mp nu5).1), nm5, its5, _, _, _, _, _, _, rfl, R5.put3 N f3 (by rw [List.length_set, l3]), rt5, ((dn5.set3 nu5 l3 (q3 := fun k => (i + 1 < 1 ∧ k = nd) ∨ ∃ t ∈ its5, t.1 = k) (fun k ne h => h.elim (fun z => absurd z.2 ne) .inr) (.inr ⟨o, by rfl, hwo⟩)).mono (fun k h => h.elim (fun z => .inl ⟨by rw [hib]; decide, z.2⟩) .inr) fun _ h => h), nu5, tt5.trans (TT.lst f3), (by omega), (by omega)⟩
      · rintro σ H5 ⟨nm5, its5, y2', y3', x9', x10', x11', x12', rfl, R5, rt5, dn5, nu5, tt5, w5, b5⟩
        have w5 : wgt its5 ≤ wgt its0 + (2 * (be - mi) - 2 + (2 * (mi - fi) - 2)) := w5
        have b5 : nm5.length + wgt its5 ≤ nm.length + wgt its0 + (2 * (be - mi) - 2 + (2 * (mi - fi) - 2)) := b5
        exact ⟨_, by show wgt its5 < wgt its0 + (2 * (be - fi) - 3); omega, nm5, its5, _, _, _, _, _, _, _, _, _, _, _, rfl, rfl, R5, rt5, dn5.mono (fun k h => h.elim (fun z => absurd z.1 (by simp)) id) (fun k h => h.elim (fun z => absurd z.1 (by simp)) id), by omega⟩
end
end K61
set_option Elab.async false
set_option linter.all false
set_option maxRecDepth 100001
set_option maxHeartbeats 3999999
namespace K61
open PySem L2
theorem bits_more : ∀ (k d n : Nat), n < 2 ^ k → bits (k + d) n = List.replicate d false ++ bits k n
  | 0, 0, n, h => rfl
  | 0, d + 1, n, h => by
    have n0 : n = 0 := by
      rw [Nat.pow_zero] at h
      omega
    subst n0
    have ih := bits_more 0 d 0 h
    rw [Nat.zero_add] at ih ⊢
    rw [show bits (d + 1) 0 = bits d 0 ++ [false] from rfl, ih, show bits 0 0 = [] from rfl, List.append_nil, List.append_nil, List.replicate_succ']
  | k + 1, d, n, h => by
    have h2 : n / 2 < 2 ^ k := by
      rw [Nat.pow_succ] at h
      omega
    rw [show k + 1 + d = (k + d) + 1 by omega, bits, bits_more k d (n / 2) h2, bits, List.append_assoc]
theorem dig1 (n : Nat) (h : n < 2) : (Nat.digitChar n).toNat = cd (decide (n % 2 = 1)) := by
  match n, h with
  | 0, _ => rfl
  | 1, _ => rfl
theorem bin_bits (n : Nat) : ∃ k, 1 ≤ k ∧ (k = 1 ∨ 2 ^ (k - 1) ≤ n) ∧ n < 2 ^ k ∧ (Nat.toDigits 2 n).map Char.toNat = (bits k n).map cd := by
  induction n using Nat.strongRecOn with
  | _ n ih =>
    by_cases h : n < 2
    · refine ⟨1, Nat.le_refl _, .inl rfl, h, ?_⟩
      rw [Nat.toDigits_of_lt_base h, List.map_singleton, dig1 n h]
      rfl
    · obtain ⟨k, k1, k2, k3, e⟩ := ih (n / 2) (by omega)
      refine ⟨k + 1, by omega, .inr ?_, by rw [Nat.pow_succ]; omega, ?_⟩
      · rw [Nat.add_sub_cancel]
        rcases k2 with rfl | k2
        · omega
        · have : 2 ^ k = 2 ^ (k - 1) * 2 := by
            rw [← Nat.pow_succ]
            congr 1
            omega
          omega
      · rw [Nat.toDigits_of_base_le (by decide) (by omega), List.map_append, e, bits, List.map_append, List.map_singleton, List.map_singleton, dig1 (n % 2) (by omega), Nat.mod_mod]
theorem zfill_bits {l n : Nat} (l1 : 1 ≤ l) (h : n < 2 ^ l) : Txt.zfill (binT n) (l : Int) = bS (bits l n) := by
  obtain ⟨k, k1, k2, k3, e⟩ := bin_bits n
  have kl : k ≤ l := by
    rcases k2 with rfl | k2
    · exact l1
    · have : 2 ^ (k - 1) < 2 ^ l := Nat.lt_of_le_of_lt k2 h
      have := (Nat.pow_lt_pow_iff_right (by decide)).mp this
      omega
  have eb : binT n = bS (bits k n) := by
    unfold binT
    rw [e]
    rfl
  rw [eb]
  have ln : (bS (bits k n)).length = k := by rw [bS_len, bits_len]
  unfold Txt.zfill
  rw [ln]
  by_cases c : ((l : Nat) : Int) ≤ ((k : Nat) : Int)
  · rw [if_pos c]
    rw [show l = k by omega]
  · rw [if_neg c]
    obtain ⟨d, rfl⟩ := Nat.exists_eq_add_of_le kl
    rw [bits_more k d n k3, Int.toNat_natCast, Nat.add_sub_cancel_left]
    have lb := bits_len k n
    generalize bits k n = w at lb ⊢
    have fin : Builtin.Str.padded (bS w) d 0 48 = bS (List.replicate d false ++ w) := by
      unfold Builtin.Str.padded bS S
      rw [List.map_append, List.map_replicate]
      simp
      exact .inr rfl
    match w, lb with
    | [], lb => rw [← lb] at k1; exact absurd k1 (by decide)
    | b :: r, _ =>
      unfold zfilled
      have e0 : (bS (b :: r)).cps[0]? = some (cd b) := by
        unfold bS S
        simp
      rw [e0]
      cases b
      · exact fin
      · exact fin
end K61
set_option Elab.async false
set_option linter.all false
set_option maxRecDepth 100001
set_option maxHeartbeats 3999999
namespace K61
open PySem L2
abbrev sCan : Stmt := topS 35
/-- the length of the word at a sign -/
abbrev lAt (ls : List Nat) (o : Nat) : Nat := ls.getD o 0
def lexL (ls : List Nat) (a b : Nat) : Prop := lAt ls a < lAt ls b ∨ (lAt ls a = lAt ls b ∧ a < b)
/-- the signs by length, then by number -/
structure IsOrd (ls os : List Nat) : Prop where
  perm : os.Perm (List.range ls.length)
  lex : os.Pairwise (lexL ls)
theorem IsOrd.uniq {ls a b : List Nat} (h1 : IsOrd ls a) (h2 : IsOrd ls b) : a = b := by
  refine List.Perm.eq_of_pairwise (le := lexL ls) (fun x y _ _ h h' => ?_) h1.lex h2.lex (h1.perm.trans h2.perm.symm)
  unfold lexL at h h'
  omega
theorem IsOrd.asc {ls os : List Nat} (h : IsOrd ls os) : (os.map (lAt ls)).Pairwise (· ≤ ·) := by
  rw [List.pairwise_map]
  refine List.Pairwise.imp (fun {a b} h => ?_) h.lex
  unfold lexL at h
  omega
theorem IsOrd.len {ls os : List Nat} (h : IsOrd ls os) : os.length = ls.length := by
  rw [h.perm.length_eq, List.length_range]
theorem IsOrd.nodup {ls os : List Nat} (h : IsOrd ls os) : os.Nodup := h.perm.nodup_iff.mpr List.nodup_range
theorem IsOrd.lt {ls os : List Nat} (h : IsOrd ls os) : ∀ o ∈ os, o < ls.length := fun o ho => List.mem_range.mp (h.perm.subset ho)
theorem IsOrd.permL {ls os : List Nat} (h : IsOrd ls os) : (os.map (lAt ls)).Perm ls := by
  have p := h.perm.map (lAt ls)
  have e : (List.range ls.length).map (lAt ls) = ls := by
    refine List.ext_getElem (by rw [List.length_map, List.length_range]) fun i h1 h2 => ?_
    rw [List.getElem_map, List.getElem_range]
    show ls.getD i 0 = _
    rw [List.getD_eq_getElem?_getD, List.getElem?_eq_getElem h2]
    rfl
  rw [e] at p
  exact p
theorem ord_of {ls : List Nat} {ys : List V} (sr : SrtO.Srtd (SrtL.ltG SrtL.ordInt fun v => ((lAt ls (nO v) : Nat) : Int)) ys) (st : SrtO.Stb (SrtL.ltG SrtL.ordInt fun v => ((lAt ls (nO v) : Nat) : Int)) ys (rgV 0 ((ls.length : Nat) : Int))) :
    ∃ os : List Nat, ys = os.map (fun n : Nat => V.int (n : Nat)) ∧ IsOrd ls os := by
  have er : rgV 0 ((ls.length : Nat) : Int) = (List.range ls.length).map fun n : Nat => V.int (n : Nat) := by
    unfold rgV
    rw [show (((ls.length : Nat) : Int) - 0).toNat = ls.length by omega]
    refine List.map_congr_left fun i _ => ?_
    show V.int (0 + (i : Nat)) = V.int (i : Nat)
    rw [show (0 : Int) + (i : Nat) = (i : Nat) by omega]
  rw [er] at st
  have e1 : ys = (ys.map nO).map fun n : Nat => V.int (n : Nat) := by
    rw [List.map_map]
    conv => lhs; rw [← List.map_id ys]
    refine List.map_congr_left fun v hv => ?_
    obtain ⟨i, _, rfl⟩ := List.mem_map.mp (st.perm.subset hv)
    rfl
  generalize ys.map nO = os at e1
  subst e1
  have nn : ∀ l : List Nat, (l.map fun n : Nat => V.int (n : Nat)).map nO = l := fun l => by
    rw [List.map_map]
    conv => rhs; rw [← List.map_id l]
    exact List.map_congr_left fun i _ => rfl
  refine ⟨os, rfl, ?_, ?_⟩
  · have := st.perm.map nO
    rw [nn, nn] at this
    exact this
  · rw [List.pairwise_iff_forall_sublist]
    intro a b hab
    have sr2 : os.Pairwise fun a b => lAt ls a ≤ lAt ls b := by
      have := List.pairwise_map.mp sr
      refine List.Pairwise.imp (fun {a b} h => ?_) this
      have h := of_decide_eq_false h
      have h : ¬ ((lAt ls b : Nat) : Int) < ((lAt ls a : Nat) : Int) := h
      omega
    have le := List.pairwise_iff_forall_sublist.mp sr2 hab
    by_cases e : lAt ls a = lAt ls b
    · refine .inr ⟨e, ?_⟩
      have c := congrArg (List.map nO) (st.cls (V.int ((a : Nat) : Int)))
      rw [List.filter_map, List.filter_map, nn, nn] at c
      have s2 := hab.filter ((SrtO.eqv (SrtL.ltG SrtL.ordInt fun v => ((lAt ls (nO v) : Nat) : Int)) (V.int ((a : Nat) : Int))) ∘ fun n : Nat => V.int (n : Nat))
      rw [c] at s2
      have fa : ∀ x, lAt ls a = lAt ls x → ((SrtO.eqv (SrtL.ltG SrtL.ordInt fun v => ((lAt ls (nO v) : Nat) : Int)) (V.int ((a : Nat) : Int))) ∘ fun n : Nat => V.int (n : Nat)) x = true := fun x hx => by
        refine SrtO.eqv_iff.mpr ⟨decide_eq_false ?_, decide_eq_false ?_⟩
        · show ¬ ((lAt ls a : Nat) : Int) < ((lAt ls x : Nat) : Int)
          omega
        · show ¬ ((lAt ls x : Nat) : Int) < ((lAt ls a : Nat) : Int)
          omega
      rw [List.filter_cons_of_pos (fa a rfl), List.filter_cons_of_pos (fa b e)] at s2
      have s3 := s2.trans List.filter_sublist
      exact List.pairwise_iff_forall_sublist.mp List.pairwise_lt_range s3
    · exact .inl (by omega)
/-- the canonical words, by sign -/
def CanoOf (ls os : List Nat) (ws : List W) : Prop := ws.length = ls.length ∧ ∀ (i o : Nat), os[i]? = some o → ws[o]? = (canoW 0 0 (os.map (lAt ls)))[i]?
theorem CanoOf.uniq {ls os : List Nat} {a b : List W} (O : IsOrd ls os) (h1 : CanoOf ls os a) (h2 : CanoOf ls os b) : a = b := by
  refine List.ext_getElem? fun o => ?_
  by_cases ho : o < ls.length
  · obtain ⟨i, hi, e⟩ := List.getElem_of_mem (O.perm.symm.subset (List.mem_range.mpr ho))
    have e2 : os[i]? = some o := by rw [List.getElem?_eq_getElem hi, e]
    rw [h1.2 i o e2, h2.2 i o e2]
  · rw [List.getElem?_eq_none (by rw [h1.1]; omega), List.getElem?_eq_none (by rw [h2.1]; omega)]
def spCa (Tb : List (Addr × Str)) : Sp := fun vs H Q _ => ∃ (lp : Addr) (ls : List Nat) (L : Nat), vs = [.ref lp] ∧ H lp = some (.lst (ls.map fun n : Nat => V.int (n : Nat))) ∧ ls.length ≤ 2000 ∧ (∀ l ∈ ls, 1 ≤ l ∧ l ≤ L) ∧ L ≤ 60 ∧ kl L ls ≤ 2 ^ L ∧ LamX.Tabs Tb H ∧
  ∀ os ws D H', IsOrd ls os → CanoOf ls os ws → LamX.ExtN H H' → LamX.Tabs Tb H' → Fr0 H D → H' D = some (.lst (ws.map wV)) → Q (.ref D) H'
theorem updS {H : Hp} {a : Addr} {o : HO} (h : H a = some o) : upd H a o = H := by
  funext b
  by_cases e : b = a
  · subst e
    rw [upd_same, h]
  · exact upd_ne e
theorem updU {H : Hp} {a : Addr} {o o' : HO} : upd (upd H a o) a o' = upd H a o' := by
  funext b
  by_cases e : b = a
  · subst e
    rw [upd_same, upd_same]
  · rw [upd_ne e, upd_ne e, upd_ne e]
theorem padOk : ∀ n : Nat, n < 61 → PadOk (n : Int) = true := by decide +kernel
theorem bin_len {n l : Nat} (l1 : 1 ≤ l) (h : n < 2 ^ l) : (binT n).length ≤ l := by
  show (List.toArray _).size ≤ l
  rw [List.size_toArray, List.length_map]
  exact (Nat.length_toDigits_le_iff (by decide) (by omega)).mpr h
abbrev NCa : List Str := ["lengths", "words", "number", "size", "sign", "place"]
theorem scCa : FnScope NCa ["lengths"] (defScope sCan) := ⟨rfl, rfl, rfl, by decide +kernel, rfl, by decide +kernel, by decide +kernel⟩
section
variable {P : Program} {w : World} {K : PySem.W.Frag} {mg : Str → Option Value} {base : Heap}
theorem ok_can {f c T : Addr} {fd : FuncData} {Tb : List (Addr × Str)} (F : FunL K base mg "canonical_words" "canonical_words" sCan f c T fd) (B : Bi mg) (Z : Bs mg)
    (hmT : (T, (("canonical_words.<locals>.<lambda>" : String) : Str)) ∈ Tb) (hu : ∀ p ∈ Tb, p.1 = T → p.2 = (("canonical_words.<locals>.<lambda>" : String) : Str)) : FnOk P w K mg base CX0 6 f fd ["lengths"] (spCa Tb) := by
  refine F.okX scCa (fun vs H Q E h => ?_) (fun A outer s H vs Q E hr h => ?_)
  · obtain ⟨lp, ls, L, rfl, _⟩ := h
    rfl
  · obtain ⟨lp, ls, L, rfl, hl, l2, lb, L6, ek, tabs, q⟩ := h
    refine ⟨_, pss_cons (ps_set (i := 1) scCa.nd rfl (Or.inl rfl) (pe_op op_rep (pe_lst (pa_cons pe_str pa_nil)) (pe_len B.len (pa_cons (pv 0) pa_nil))))
      (pss_cons (ps_asg (pe_tup (pa_cons (pe_un un_neg pe_int) (pa_cons pe_int pa_nil))) (pg_tup rfl (pgs_cons (pg_name (i := 2) scCa.nd rfl (.inl rfl)) (pgs_cons (pg_name (i := 3) scCa.nd rfl (.inl rfl)) pgs_nil))))
      (pss_cons (ps_for PassesOwn.never rfl (pi_sqA (by exact SrtL.pe_sortLam (k := 1) (i := 5) SrtL.ordInt rfl Z.sorted (pe_listRg rfl rfl B.list (prg_1 rfl B.range (pe_len B.len (pa_cons (pv 0) pa_nil)))) F.tab hmT hu (hr.mono (by decide)) (LamX.lamP_by (sc := defScope sCan) (by decide +kernel)) scCa.nd rfl (fun s H f c' hr' => pe_ix (ix_listK K rfl) (pv 0) (pv 5) (fun _ _ => rfl)))) (pg_name (i := 4) scCa.nd rfl (.inl rfl))
        (pss_cons (ps_set (i := 2) scCa.nd rfl (Or.inl rfl) (pe_op op_shl (pe_op op_add (pv 2) pe_int) (pe_op op_sub (pe_ix ix_list (pv 0) (pv 4) (fun _ _ => rfl)) (pv 3))))
        (pss_cons (ps_set (i := 3) scCa.nd rfl (Or.inl rfl) (pe_ix ix_list (pv 0) (pv 4) (fun _ _ => rfl)))
        (pss_one (ps_asg (pe_bm PySem.F.plainAttrs_str PySem.F.slot_str_zfill PySem.F.type_str_zfill mt_zfill (pe_bin (pv 2)) (pa_cons (pv 3) pa_nil)) (pg_sub (pv 1) (pv 4) set_list))))))
      (pss_one (ps_ret (pv 1))))), ?_⟩
    have lN : (ls.map fun n : Nat => V.int (n : Nat)).length = ls.length := List.length_map _
    have fl : ∀ (k : Nat) (x : V), (List.replicate k [x]).flatten = List.replicate k x := fun k x => by simp
    refine ⟨by show 1 ≤ sizeLine; decide, fun a1 n1 => ⟨_, rfl, lp, _, rfl, .inl (SqL.of (same_new n1 _ _ hl)), a1, _, _, rfl, rfl, upd_same, ?_, ?_, ?_, fun D nD => ?_⟩⟩
    · omega
    · rw [lN]
      omega
    · rw [lN]
      show 1 * (((ls.length : Nat) : Int)).toNat ≤ sizeLine
      rw [Nat.one_mul, Int.toNat_natCast]
      exact Nat.le_of_lt (small10 (by omega))
    rw [fl, lN, Int.toNat_natCast]
    have e1 := same_new (o := .lst [.str ""]) n1
    have e2 := same_new (o := .lst (List.replicate ls.length (.str ""))) nD
    have hD : upd (upd H a1 (.lst [.str ""])) D (.lst (List.replicate ls.length (.str ""))) D = some (.lst (List.replicate ls.length (.str ""))) := upd_same
    have mD : H D = none := by
      cases z : H D with
      | none => rfl
      | some o =>
        rw [e1 D o z] at nD
        exact absurd nD (fun y => nomatch y)
    have e12 := e1.trans e2
    generalize upd (upd H a1 (.lst [.str ""])) D (.lst (List.replicate ls.length (.str ""))) = H2 at hD e12 ⊢
    refine ⟨_, rfl, by show 2 ≤ sizeLine; decide, fun tp ntp => ⟨tp, _, rfl, SqT.of upd_same, rfl, _, _, rfl, _, _, rfl, rfl, ?_⟩⟩
    have e3 := same_new (o := .tup [.int (-1), .int 0]) ntp
    have hD3 := e3 _ _ hD
    have e13 := e12.trans e3
    generalize upd H2 tp (.tup [.int (-1), .int 0]) = H3 at hD3 e13 ⊢
    have hl3 := e13 _ _ hl
    have tab3 := tabs.ext e13
    clear e1 e2 e12 e3 hD ntp nD n1
    refine ⟨_, rfl, lp, _, rfl, .inl (SqL.of hl3), _, rfl, ?_, fun a4 n4 => ?_⟩
    · rw [lN]
      exact RgOk.of_le (by omega) (by omega) (by omega) (by omega)
    rw [lN]
    have e4 := same_new (o := .lst (rgV 0 ((ls.length : Nat) : Int))) n4
    have g4 : upd H3 a4 (.lst (rgV 0 ((ls.length : Nat) : Int))) a4 = some (.lst (rgV 0 ((ls.length : Nat) : Int))) := upd_same
    refine ⟨a4, _, fun v => ((lAt ls (nO v) : Nat) : Int), rfl, SqL.of g4, tab3.ext e4, fun H5 en5 tab5 => ⟨SqL.of (en5 _ _ g4 fun _ z => nomatch z), fun v hv => ?_, fun ys OR srt stb nOR => ?_⟩⟩
    · obtain ⟨i, hi, rfl⟩ := List.mem_map.mp hv
      have hi := List.mem_range.mp hi
      have hi : i < ls.length := by omega
      have i0 : (0 : Int) + ((i : Nat) : Int) = (i : Nat) := by omega
      rw [i0]
      refine ⟨_, rfl, _, rfl, lp, _, _, .int ((ls[i] : Nat) : Int), rfl, rfl, SqL.of (en5 _ _ (e4 _ _ hl3) fun _ z => nomatch z), atI_nat (by rw [List.getElem?_map, List.getElem?_eq_getElem hi]; rfl), ?_, rfl⟩
      show _ = V.int ((ls.getD ((i : Nat) : Int).toNat 0 : Nat) : Int)
      rw [Int.toNat_natCast, List.getD_eq_getElem?_getD, List.getElem?_eq_getElem hi]
      rfl
    obtain ⟨os, rfl, O⟩ := ord_of srt stb
    have e6 := same_new (o := .lst (os.map fun n : Nat => V.int (n : Nat))) nOR
    have gOR : upd H5 OR (.lst (os.map fun n : Nat => V.int (n : Nat))) OR = some (.lst (os.map fun n : Nat => V.int (n : Nat))) := upd_same
    have hl6 := e6 _ _ (en5 _ _ (e4 _ _ hl3) fun _ z => nomatch z)
    have hD6 := e6 _ _ (en5 _ _ (e4 _ _ hD3) fun _ z => nomatch z)
    have x6 : LamX.ExtN H (upd H5 OR (.lst (os.map fun n : Nat => V.int (n : Nat)))) := fun b o z m => e6 _ _ (en5 _ _ (e4 _ _ (e13 _ _ z)) m)
    have tab6 := tab5.ext e6
    have dO : D ≠ OR := ne_of_none (en5 _ _ (e4 _ _ hD3) fun _ z => nomatch z) nOR
    clear e4 e6 g4 n4 nOR srt stb en5 tab5 hl3 hD3 e13 tab3
    generalize upd H5 OR (.lst (os.map fun n : Nat => V.int (n : Nat))) = H6 at gOR hl6 hD6 x6 tab6 ⊢
    have lD : lp ≠ D := fun e => by
      rw [e, mD] at hl
      cases hl
    have R0 : Room_ L 0 0 (os.map (lAt ls)) := by
      refine room_start O.asc (fun l h => (lb l (O.permL.subset h)).2) ?_
      unfold kl at ek ⊢
      rw [(O.permL.map _).sum_nat]
      exact ek
    refine ⟨OR, os.map fun n : Nat => V.int (n : Nat), rfl, .inl (SqL.of gOR), fun J GG wk hG => for_it wk (fun j σ H' => ∃ (ws : List W) (nx sz : Nat) (x4 : Option V), σ = [some (.ref lp), some (.ref D), some (.int (((nx : Nat) : Int) - 1)), some (.int ((sz : Nat) : Int)), x4, none] ∧ H' = upd H6 D (.lst (ws.map wV)) ∧ ws.length = ls.length ∧
        Room_ L nx sz ((os.map (lAt ls)).drop j) ∧ (canoW 0 0 (os.map (lAt ls))).drop j = canoW nx sz ((os.map (lAt ls)).drop j) ∧ ∀ (i o : Nat), i < j → os[i]? = some o → ws[o]? = (canoW 0 0 (os.map (lAt ls)))[i]?)
      ⟨List.replicate ls.length [], 0, 0, _, rfl, ?_, List.length_replicate, R0, rfl, fun i o h => absurd h (Nat.not_lt_zero _)⟩ (fun j σ H' _ ⟨_, _, _, _, _, e, _⟩ => hG H' fun o z => by rw [e, upd_ne (Ne.symm dO)]; exact z) ?_ ?_⟩
    · rw [List.map_replicate]
      exact (updS hD6).symm
    · rintro j x σ G G' hj ⟨ws, nx, sz, x4, rfl, rfl, lws, R, ec, hd⟩ ⟨rfl, hx⟩
      rw [List.length_map] at hj
      rw [List.getElem?_map, List.getElem?_eq_getElem hj] at hx
      cases hx
      have ol := O.lt os[j] (List.getElem_mem hj)
      have ho := List.getElem?_eq_getElem hj
      generalize os[j] = o at ol ho ⊢
      have lj : j < (os.map (lAt ls)).length := by rw [List.length_map]; exact hj
      have dj : (os.map (lAt ls)).drop j = lAt ls o :: (os.map (lAt ls)).drop (j + 1) := by
        rw [List.drop_eq_getElem_cons lj, List.getElem_map]
        rw [List.getElem?_eq_getElem hj] at ho
        rw [Option.some.inj ho]
      rw [dj] at R ec
      have eg : ls[o]? = some (lAt ls o) := by
        show _ = some (ls.getD o 0)
        rw [List.getD_eq_getElem?_getD, List.getElem?_eq_getElem ol]
        rfl
      have l1 := (lb (lAt ls o) (List.mem_of_getElem? eg)).1
      have lL := (lb (lAt ls o) (List.mem_of_getElem? eg)).2
      have R2 := R.next
      have sl := R.lo (lAt ls o) List.mem_cons_self
      obtain ⟨l', n', en, m', lt', _⟩ := canoW_mem R _ (by rw [canoW]; exact List.mem_cons_self)
      have nlt : nx * 2 ^ (lAt ls o - sz) < 2 ^ lAt ls o := by
        have f := R2.fit
        have p : 0 < 2 ^ (L - lAt ls o) := Nat.two_pow_pos _
        have : (nx * 2 ^ (lAt ls o - sz) + 1) * 2 ^ (L - lAt ls o) ≤ 2 ^ lAt ls o * 2 ^ (L - lAt ls o) := by
          rw [← Nat.pow_add, show lAt ls o + (L - lAt ls o) = L by omega]
          omega
        have := Nat.le_of_mul_le_mul_right this p
        omega
      clear en m' lt'
      have eC : (canoW 0 0 (os.map (lAt ls)))[j]? = some (bits (lAt ls o) (nx * 2 ^ (lAt ls o - sz))) := by
        have := congrArg (fun l => l[0]?) ec
        rw [canoW] at this
        rw [List.getElem?_drop] at this
        exact this
      have eD : (canoW 0 0 (os.map (lAt ls))).drop (j + 1) = canoW (nx * 2 ^ (lAt ls o - sz) + 1) (lAt ls o) ((os.map (lAt ls)).drop (j + 1)) := by
        have := congrArg List.tail ec
        rw [canoW] at this
        rw [List.tail_drop] at this
        exact this
      have hlG : upd H6 D (.lst (ws.map wV)) lp = some (.lst (ls.map fun n : Nat => V.int (n : Nat))) := (upd_ne lD).trans hl6
      have nx2 : nx < 2 ^ 64 := by
        have : nx ≤ nx * 2 ^ (lAt ls o - sz) := Nat.le_mul_of_pos_right _ (Nat.two_pow_pos _)
        have : 2 ^ lAt ls o ≤ 2 ^ 64 := Nat.pow_le_pow_right (by decide) (by omega)
        omega
      refine ⟨_, rfl, _, _, rfl, rfl, ?_⟩
      refine ⟨_, rfl, _, rfl, lp, _, _, .int ((lAt ls o : Nat) : Int), rfl, rfl, SqL.of hlG, atI_nat (by rw [List.getElem?_map, eg]; rfl), _, rfl, _, _, rfl, rfl, _, _, rfl, rfl, ⟨by omega, by omega, by omega⟩, ?_⟩
      have ev : (((nx : Nat) : Int) - 1 + 1) * 2 ^ (((lAt ls o : Nat) : Int) - ((sz : Nat) : Int)).toNat = ((nx * 2 ^ (lAt ls o - sz) : Nat) : Int) := by
        rw [show (((lAt ls o : Nat) : Int) - ((sz : Nat) : Int)).toNat = lAt ls o - sz by omega, show ((nx : Nat) : Int) - 1 + 1 = (nx : Nat) by omega, Int.natCast_mul, Int.natCast_pow]
        rfl
      show gName 2 (V.int ((((nx : Nat) : Int) - 1 + 1) * 2 ^ (((lAt ls o : Nat) : Int) - ((sz : Nat) : Int)).toNat)) _ _ _
      rw [ev]
      generalize nx * 2 ^ (lAt ls o - sz) = y at R2 nlt eC eD ⊢
      refine ⟨_, rfl, _, rfl, lp, _, _, .int ((lAt ls o : Nat) : Int), rfl, rfl, SqL.of hlG, atI_nat (by rw [List.getElem?_map, eg]; rfl), ?_⟩
      refine ⟨_, rfl, y, rfl, Nat.le_trans (bin_len l1 nlt) (Nat.le_of_lt (small10 (by omega))), rfl, _, rfl, binT y, _, rfl, rfl, ?_, ?_⟩
      · exact padOk _ (by omega)
      rw [zfill_bits l1 nlt]
      refine ⟨_, rfl, _, rfl, D, _, _, o, rfl, rfl, upd_same, ixn (by rw [List.length_map, lws]; exact ol), ?_⟩
      refine ⟨ws.set o (bits (lAt ls o) y), y + 1, lAt ls o, some (.int ((o : Nat) : Int)), ?_, ?_, by rw [List.length_set, lws], R2, eD, fun i o' hi ho' => ?_⟩
      · show [some (V.ref lp), some (V.ref D), some (V.int ((y : Nat) : Int)), some (V.int ((lAt ls o : Nat) : Int)), some (V.int ((o : Nat) : Int)), none] = _
        rw [show (((y + 1 : Nat) : Int) - 1) = (y : Nat) by omega]
      · rw [updU, List.map_set]
        rfl
      · by_cases e : i = j
        · subst e
          rw [ho] at ho'
          cases ho'
          rw [List.getElem?_set_self (by rw [lws]; exact ol), eC]
        · have no : o ≠ o' := fun eo => e (by
            subst eo
            have h1 := List.getElem?_eq_some_iff.mp ho
            have h2 := List.getElem?_eq_some_iff.mp ho'
            exact ((List.getElem_inj O.nodup).mp (h2.2.trans h1.2.symm)))
          rw [List.getElem?_set_ne no]
          exact hd i o' (by omega) ho'
    · rintro σ G ⟨ws, nx, sz, x4, rfl, rfl, lws, R, ec, hd⟩
      rw [List.length_map] at hd
      refine ⟨_, rfl, q os ws D _ O ⟨lws, fun i o h => hd i o (List.getElem?_eq_some_iff.mp h).1 h⟩ (fun b o z m => (upd_ne fun e => by rw [e, mD] at z; cases z).trans (x6 b o z m)) (tabs_put tab6 hD6) (fr_none mD) upd_same⟩
end
end K61
set_option Elab.async false
set_option linter.all false
set_option maxRecDepth 100001
set_option maxHeartbeats 3999999
namespace K61
open PySem L2
abbrev sCoI : Stmt := inClass (topS 32) 0
structure Cm (mg : Str → Option Value) : Prop where
  signs : ∃ u, mg "MOST_SIGNS_codes" = some u ∧ RelV (.int 2000) u
  length : ∃ u, mg "MOST_LENGTH" = some u ∧ RelV (.int 1999) u
  max : mg "max" = none
structure TxC (K : PySem.W.Frag) (C : Addr) : Prop where
  cl : Cls K C
  g : NoAttr K C "longest"
  l : NoAttr K C "lengths"
  w : NoAttr K C "words"
  s : NoAttr K C "size"
  t : NoAttr K C "tree"
structure ErC (K : PySem.W.Frag) (CT CL : Addr) : Prop where
  t1 : PySem.W.findIn K (.ref CT) "what" = some none
  t2 : PySem.W.findIn K (.ref CT) "many" = some none
  t3 : PySem.W.findIn K (.ref CT) "most" = some none
  l1 : PySem.W.findIn K (.ref CL) "index" = some none
def coF (L n : Nat) (lt wt tr : Addr) : List (Str × V) := putF "tree" (.ref tr) (putF "size" (.int (n : Nat)) (putF "words" (.ref wt) (putF "lengths" (.ref lt) (putF "longest" (.int (L : Nat)) []))))
/-- behind a raise within the making of what is at p -/
structure RsB (p : Addr) (H H' : Hp) (d : Addr) (fs : List (Str × V)) : Prop where
  new : H d = none
  same : ButI p H H'
  at_ : H' d = some (.xd fs)
theorem IsTr.ins {C C' dx p q : Addr} {H : Hp} {ws : List W} {fs : List (Str × V)} {o : HO} (h : IsTr C H q ws) (hp : H p = some (.ins C' dx fs)) (n : q ≠ p) : IsTr C (upd H p o) q ws := by
  obtain ⟨dx, a1, a2, a3, D, nm, y2, y3, kvs, h1, h2, h3, h4, h5, h6⟩ := h
  exact ⟨dx, a1, a2, a3, D, nm, y2, y3, kvs, (upd_ne n).trans h1, (upd_ne (ne_of h2 hp fun y => nomatch y)).trans h2, (upd_ne (ne_of h3 hp fun y => nomatch y)).trans h3, (upd_ne (ne_of h4 hp fun y => nomatch y)).trans h4, (upd_ne (ne_of h5 hp fun y => nomatch y)).trans h5, h6⟩
def spCoI (C CR CT CL CN CB CE : Addr) (Tb : List (Addr × Str)) : Sp := fun vs H Q E => ∃ (p dx lp : Addr) (wv : V) (ts : List V), vs = [.ref p, .ref lp, wv] ∧ H p = some (.ins C dx []) ∧ H lp = some (.lst ts) ∧ (∀ v ∈ ts, Kn H v) ∧ LamX.Tabs Tb H ∧ ts.length ≤ 5000 ∧
  ((¬ (2 ≤ ts.length ∧ ts.length ≤ 2000) ∧ ∀ d H', Rsd H H' d [("most", .int 2000), ("many", .int (ts.length : Nat)), ("what", .str "signs")] → E (.ref CT) (some d) H') ∨
   (2 ≤ ts.length ∧ ts.length ≤ 2000 ∧ ∃ i v, ts[i]? = some v ∧ btw v 1 1999 = false ∧ (∀ j u, j < i → ts[j]? = some u → btw u 1 1999 = true) ∧ ∀ d H', Rsd H H' d [("index", .int (i : Nat))] → E (.ref CL) (some d) H') ∨
   (2 ≤ ts.length ∧ ts.length ≤ 2000 ∧ ∃ (ls : List Nat) (L : Nat), ts = (ls.map fun n : Nat => V.int (n : Nat)) ∧ (∀ l ∈ ls, 1 ≤ l ∧ l ≤ L) ∧ L ∈ ls ∧ L ≤ 60 ∧
     ((kl L ls ≠ 2 ^ L ∧ ∀ H', ButI p H H' → E (.ref CN) none H') ∨
      (kl L ls = 2 ^ L ∧ wv = .non ∧ ∀ os ws H' lt wt tr, IsOrd ls os → CanoOf ls os ws → ButT p H H' → LamX.Tabs Tb H' → H' p = some (.ins C dx (coF L ls.length lt wt tr)) → H' lt = some (.tup ts) → H' wt = some (.tup (ws.map wV)) → IsTr CR H' tr ws → Q .non H') ∨
      (kl L ls = 2 ^ L ∧ ∃ (s : Addr) (us : List V), wv = .ref s ∧ LT H s us ∧ us.length = ls.length ∧ us.length ≤ 60 ∧ (∀ v ∈ us, Kn H v ∧ ∀ x, v = .str x → x.length ≤ 10000) ∧
        ((∃ i v, us[i]? = some v ∧ okB (ls.getD i 0) v = false ∧ (∀ j u, j < i → us[j]? = some u → okB (ls.getD j 0) u = true) ∧ ∀ d H', RsB p H H' d [("index", .int (i : Nat))] → E (.ref CB) (some d) H') ∨
         (∃ ws : List W, us = ws.map wV ∧ ws.map List.length = ls ∧
           ((H s = some (.lst us) ∧ ∃ i j a b, i < j ∧ ws[i]? = some a ∧ ws[j]? = some b ∧ bg a b ∧ (∀ i' j' x y, i' < j' → (i' < i ∨ (i' = i ∧ j' < j)) → ws[i']? = some x → ws[j']? = some y → ¬ bg x y) ∧ ∀ d H', RsB p H H' d [("other", .int (j : Nat)), ("index", .int (i : Nat))] → E (.ref CE) (some d) H') ∨
            (PF ws ∧ ∀ H' lt wt tr, ButT p H H' → LamX.Tabs Tb H' → H' p = some (.ins C dx (coF L ls.length lt wt tr)) → H' lt = some (.tup ts) → H' wt = some (.tup (ws.map wV)) → IsTr CR H' tr ws → Q .non H'))))))))
theorem sum_cast : ∀ l : List Nat, (l.map fun n : Nat => (n : Int)).sum = ((l.sum : Nat) : Int)
  | [] => rfl
  | x :: r => by
    rw [List.map_cons, List.sum_cons, List.sum_cons, sum_cast r, Int.natCast_add]
theorem lAt_range (ls : List Nat) : (List.range ls.length).map (lAt ls) = ls := by
  refine List.ext_getElem (by rw [List.length_map, List.length_range]) fun i h1 h2 => ?_
  rw [List.getElem_map, List.getElem_range]
  show ls.getD i 0 = _
  rw [List.getD_eq_getElem?_getD, List.getElem?_eq_getElem h2]
  rfl
theorem kl_range (L : Nat) (ls : List Nat) : ((List.range ls.length).map fun i => ((2 ^ (L - lAt ls i) : Nat) : Int)).sum = ((kl L ls : Nat) : Int) := by
  have e : kl L ls = ((List.range ls.length).map fun i => 2 ^ (L - lAt ls i)).sum := by
    conv => lhs; rw [← lAt_range ls]
    unfold kl
    rw [List.map_map]
    rfl
  rw [e, ← sum_cast, List.map_map]
  rfl
theorem Same.none' {H H1 : Hp} {d : Addr} (e : Same H H1) (n : H1 d = none) : H d = none := by
  cases z : H d with
  | none => rfl
  | some o =>
    rw [e _ _ z] at n
    cases n
theorem Rsd.back {H H1 H' : Hp} {d : Addr} {fs : List (Str × V)} (r : Rsd H1 H' d fs) (e : Same H H1) : Rsd H H' d fs := ⟨Same.none' e r.new, e.trans r.same, r.at_⟩
theorem CanoOf.good {ls os : List Nat} {ws : List W} {L : Nat} (O : IsOrd ls os) (c : CanoOf ls os ws) (lb : ∀ l ∈ ls, l ≤ L) (ek : kl L ls = 2 ^ L) : PF ws ∧ (∀ w ∈ ws, w.length ≤ L) ∧ kr L ws = 2 ^ L := by
  have hc : os.map (fun o => ws.getD o []) = canoW 0 0 (os.map (lAt ls)) := by
    have len : (canoW 0 0 (os.map (lAt ls))).length = os.length := by
      have := congrArg List.length (canoW_lens 0 0 (os.map (lAt ls)))
      rw [List.length_map, List.length_map] at this
      exact this
    refine List.ext_getElem (by rw [List.length_map, len]) fun i h1 h2 => ?_
    rw [List.length_map] at h1
    have := c.2 i os[i] (List.getElem?_eq_getElem h1)
    rw [List.getElem_map, List.getD_eq_getElem?_getD, this, List.getElem?_eq_getElem h2]
    rfl
  have pw : (os.map fun o => ws.getD o []).Perm ws := by
    have p := O.perm.map fun o => ws.getD o []
    have e : (List.range ls.length).map (fun o => ws.getD o []) = ws := by
      refine List.ext_getElem (by rw [List.length_map, List.length_range, c.1]) fun i h1 h2 => ?_
      rw [List.getElem_map, List.getElem_range, List.getD_eq_getElem?_getD, List.getElem?_eq_getElem h2]
      rfl
    rw [e] at p
    exact p
  rw [hc] at pw
  have ko : kl L (os.map (lAt ls)) = 2 ^ L := by
    rw [← ek]
    exact (O.permL.map _).sum_nat
  have R0 : Room_ L 0 0 (os.map (lAt ls)) := room_start O.asc (fun l h => lb l (O.permL.subset h)) (by rw [ko]; exact Nat.le_refl _)
  refine ⟨(canoW_pf R0).perm pw, fun w hw => ?_, ?_⟩
  · obtain ⟨l, n, rfl, m, _, _⟩ := canoW_mem R0 w (pw.symm.subset hw)
    rw [bits_len]
    exact lb l (O.permL.subset m)
  · have : kr L ws = kr L (canoW 0 0 (os.map (lAt ls))) := (pw.symm.map _).sum_nat
    rw [this, kr_kl, canoW_lens, ko]
abbrev NCo : List Str := ["self", "lengths", "words", "index", "length"]
theorem scCoI : FnScope NCo ["self", "lengths", "words"] (defScope sCoI) := ⟨rfl, rfl, rfl, by decide +kernel, rfl, by decide +kernel, by decide +kernel⟩
section
variable {X : Cx}
theorem pe_sum {a : Expr} {es : List Expr} {t : TA} {p pos : Pos} (hc : X.calm = true) (hm : X.mg "sum" = none) (ha : PA X (a :: es) t) (hg : Gl X "sum" := by rfl) (he : starEach (a :: es) X.env = (false, eval a X.env) :: starEach es X.env := by rfl)
    (hpl : (backTo pos (starEach es X.env)).any (·.1) = false := by rfl) :
    PE X (.Call (.Name "sum" p) (a :: es) [] pos) (tCB (rSum X.K) t) := pe_callB (cr_sum hc) hg hm (by decide +kernel) ha (he := he) (hpl := hpl)
end
/-- a def of which some parameters may have values of their own -/
structure FunW (K : PySem.W.Frag) (x qual : Str) (st : Stmt) (f : Addr) (fd : FuncData) : Prop where
  ex : ∃ (oc : Value) (od : Option Addr) (dV kV doc pm : Value) (an : Option Addr) (cdv ct : Value) (osl : Array (Option Value)),
    fd = PySem.W.fnOf x qual (defArgs st) (defBody st) (defScope st) dV kV doc pm an cdv ct ∧ K.lookup f = some ⟨oc, od, .func fd, osl⟩ ∧ PySem.W.codeIn K cdv qual = true
section
variable {P : Program} {w : World} {K : PySem.W.Frag} {mg : Str → Option Value} {base : Heap}
theorem FunW.okX {x qual : Str} {st : Stmt} {f : Addr} {fd : FuncData} {N ps : List Str} {k : Nat} {sp : Sp} (F : FunW K x qual st f fd) (S : FnScope N ps (defScope st)) (len : ∀ vs H Q E, sp vs H Q E → vs.length = ps.length)
    (hbody : ∀ (cdv : Value) (A : Around) (outer : List Env) (s : Shared) (H : Hp) (vs : List V) (Q : VK) (E : XK), Room k (A.deeper (PyProof.Rows.envOfC qual (defScope st) s.heap.objs.size f cdv)) → sp vs H Q E →
      ∃ t, PSs (cxOf (L2.CX P w) P w K mg base N qual (defScope st) f cdv A outer s H E) (defBody st) t ∧ t { nx := fun _ H' => Q .non H', rt := Q } (L2.start N vs) H) : FnOk P w K mg base (L2.CX P w) (k + 1) f fd ps sp := by
  obtain ⟨oc, od, dV, kV, doc, pm, an, cdv, ct, osl, rfl, lk, hcd⟩ := F.ex
  exact fn_of lk hcd S len fun A outer s H vs Q E hr hsp => hbody cdv A outer s H vs Q E hr hsp
theorem ok_coI {f C CT CL CN CB CE CR : Addr} {fd : FuncData} {Tb : List (Addr × Str)} (F : FunW K "__init__" "Code.__init__" sCoI f fd) (B : Bi mg) (Z : Bs mg) (M : Cm mg) (T : TxC K C) (R : ErC K CT CL) (cB : Cal CX0 P w K mg base 2 "is_between" spBetween)
    (xT : Xc P w K mg base 2 "TooMany" CT (spX3 K "what" "many" "most")) (xL : Xc P w K mg base 2 "BadLength" CL (spX1 K "index")) (xN : Xc P w K mg base 1 "NotFull" CN spX0) (cW : Cal (L2.CX P w) P w K mg base 4 "check_words" (spChW CB CE)) (cC : Cal CX0 P w K mg base 6 "canonical_words" (spCa Tb))
    (mT : Mak CX0 P w K mg base 6 "Tree" CR (spTrI CR Tb)) : FnOk P w K mg base (L2.CX P w) 8 f fd ["self", "lengths", "words"] (spCoI C CR CT CL CN CB CE Tb) := by
  refine F.okX scCoI (fun vs H Q E h => ?_) (fun cdv A outer s H vs Q E hr h => ?_)
  · obtain ⟨p, dx, lp, wv, ts, rfl, _⟩ := h
    rfl
  · obtain ⟨p, dx, lp, wv, ts, rfl, hp, hl, kn, tabs, l5, out⟩ := h
    refine ⟨_, pss_cons (ps_if (pt_not (pt_chain op_le op_le pe_int (pe_len B.len (pa_cons (pv 1) pa_nil)) (C8.pe_gc rfl M.signs))) (pss_one (ps_raise rfl (takes_of rfl rfl rfl rfl) (pmk_x xT hr (pa_cons pe_str (pa_cons (pe_len B.len (pa_cons (pv 1) pa_nil)) (pa_cons (C8.pe_gc rfl M.signs) pa_nil)))))) pss_nil)
      (pss_cons (ps_for (passes_of rfl) rfl (pi_en B.enum (pa_cons (pv 1) pa_nil)) (pg_tup rfl (pgs_cons (pg_name (i := 3) scCoI.nd rfl (.inl rfl)) (pgs_cons (pg_name (i := 4) scCoI.nd rfl (.inl rfl)) pgs_nil)))
        (pss_one (ps_if (pt_not (pt_val (pe_c cB hr pass0 (pa_cons (pv 4) (pa_cons pe_int (pa_cons (C8.pe_gc rfl M.length) pa_nil)))))) (pss_one (ps_raise rfl (takes_of rfl rfl rfl rfl) (pmk_x xL hr (pa_cons (pv 3) pa_nil)))) pss_nil)))
      (pss_cons (ps_fld (pv 0) (pe_callB (cr_max rfl) rfl M.max (by decide +kernel) (pa_cons (pe_callTy call_list_of rfl B.list (by decide +kernel) (pa_cons (pv 1) pa_nil)) pa_nil)) rfl)
      (pss_cons (ps_if (pt_cmpR op_ne (pe_sum rfl Z.sum (pa_cons (pe_lc (own := [("length", 4)]) rfl scCoI.nd (pi_sqA (pv 1)) (blkOk_by (N := NCo) (sc := defScope sCoI) (by decide +kernel))
          (fun _ _ _ _ _ => pg_name (i := 4) scCoI.nd rfl (Or.inl rfl)) (fun _ _ _ _ _ => pts_nil) (fun _ _ _ _ _ => pe_op op_shl pe_int (pe_op op_sub (pe_fldK K rfl (pv 0)) (pv 4)))) pa_nil)) (pe_op op_shl pe_int (pe_fld (pv 0) rfl)) (nomark _)) (pss_one (ps_raise rfl (takes_of rfl rfl rfl rfl) (pmk_x0 xN hr))) pss_nil)
      (pss_cons (ps_if (pt_cmpR op_notN (pv 2) pe_non (nomark _)) (pss_one (ps_expr (pe_c cW hr (passes_call (takes_of rfl rfl rfl rfl) fun _ _ _ _ h => h) (pa_cons (pv 1) (pa_cons (pv 2) pa_nil))))) pss_nil)
      (pss_cons (ps_fld (pv 0) (pe_tupleOf rfl B.tuple (pv 1)) rfl)
      (pss_cons (ps_fld (pv 0) (pe_tupleOf rfl B.tuple (pe_ifExp (pt_cmpR op_isN (pv 2) pe_non (nomark _)) (pe_c cC hr pass0 (pa_cons (pv 1) pa_nil)) (pv 2))) rfl)
      (pss_cons (ps_fld (pv 0) (pe_len B.len (pa_cons (pe_fld (pv 0) rfl) pa_nil)) rfl)
      (pss_one (ps_fld (pv 0) (pe_mk mT hr pass0 (pa_cons (pe_fld (pv 0) rfl) pa_nil)) rfl))))))))), ?_⟩
    have hs := SqL.of (K := K) hl
    have one : ∀ (D : Hp → Prop), True := fun _ => True.intro
    rcases out with ⟨h, out⟩ | ⟨n1, n2, i0, x0, hx0, bad, good, out⟩ | ⟨n1, n2, ls, L, rfl, lb, Lm, L6, out⟩
    · refine ⟨_, rfl, lp, ts, rfl, .inl hs, _, _, rfl, rfl, _, rfl, ?_⟩
      by_cases c1 : 2 ≤ ts.length
      · rw [decide_eq_true (show (2 : Int) ≤ ((ts.length : Nat) : Int) by omega)]
        refine iteT ⟨_, _, rfl, rfl, _, rfl, ?_⟩
        rw [decide_eq_false (show ¬ ((ts.length : Nat) : Int) ≤ 2000 by omega)]
        exact iteT ⟨_, rfl, lp, ts, rfl, .inl hs, raise3 xT.T R.t1 R.t2 R.t3 (by show PyData.strOk _ = true; decide +kernel) True.intro True.intro fun d H' r => out d H' r⟩
      · rw [decide_eq_false (show ¬ (2 : Int) ≤ ((ts.length : Nat) : Int) by omega)]
        exact iteF ⟨_, rfl, iteT ⟨_, rfl, lp, ts, rfl, .inl hs, raise3 xT.T R.t1 R.t2 R.t3 (by show PyData.strOk _ = true; decide +kernel) True.intro True.intro fun d H' r => out d H' r⟩⟩
    · refine ⟨_, rfl, lp, ts, rfl, .inl hs, _, _, rfl, rfl, _, rfl, ?_⟩
      rw [decide_eq_true (show (2 : Int) ≤ ((ts.length : Nat) : Int) by omega)]
      refine iteT ⟨_, _, rfl, rfl, _, rfl, ?_⟩
      rw [decide_eq_true (show ((ts.length : Nat) : Int) ≤ 2000 by omega)]
      refine iteF ⟨_, rfl, lp, ts, rfl, .inl hs, fun J G wk hG => for_it wk (fun i σ H' => ∃ (a b : Option V), σ = [some (.ref p), some (.ref lp), some wv, a, b] ∧ Same H H' ∧ i ≤ i0) ⟨none, none, rfl, Same.refl _, Nat.zero_le _⟩ (fun i σ H' _ ⟨_, _, _, e, _⟩ => hG H' fun o z => e _ _ z) ?_ ?_⟩
      · rintro i x σ H2 H3 hi ⟨a, b, rfl, e, le⟩ ⟨T0, y, v', rfl, nT0, rfl, ey, hv⟩
        have ey : y = .int (i : Nat) := (Option.some.inj ey).symm
        subst ey
        have e3 : Same H (upd H2 T0 (.tup [.int (i : Nat), v'])) := e.trans (same_new nT0)
        have kv := kn v' (List.mem_of_getElem? hv)
        refine ⟨T0, _, rfl, SqT.of upd_same, rfl, _, _, rfl, _, _, rfl, rfl, ?_⟩
        refine ⟨v', rfl, v', 1, 1999, rfl, kv.same e3, _, rfl, ?_⟩
        by_cases c : i = i0
        · subst c
          have hxv : x0 = v' := Option.some.inj (hx0.symm.trans hv)
          subst hxv
          rw [bad]
          exact iteT ⟨_, rfl, raise1 xL.T R.l1 True.intro fun d H' r => out d H' (r.back e3)⟩
        · rw [good i v' (by omega) hv]
          exact iteF ⟨_, _, rfl, e3, by omega⟩
      · rintro σ H2 ⟨a, b, rfl, e, le⟩
        have := (List.getElem?_eq_some_iff.mp hx0).1
        omega
    · have lN : (ls.map fun n : Nat => V.int (n : Nat)).length = ls.length := List.length_map _
      rw [lN] at n1 n2
      refine ⟨_, rfl, lp, _, rfl, .inl hs, _, _, rfl, rfl, _, rfl, ?_⟩
      rw [lN, decide_eq_true (show (2 : Int) ≤ ((ls.length : Nat) : Int) by omega)]
      refine iteT ⟨_, _, rfl, rfl, _, rfl, ?_⟩
      rw [decide_eq_true (show ((ls.length : Nat) : Int) ≤ 2000 by omega)]
      refine iteF ⟨_, rfl, lp, _, rfl, .inl hs, fun J G wk hG => for_it wk (fun i σ H' => ∃ (a b : Option V), σ = [some (.ref p), some (.ref lp), some wv, a, b] ∧ Same H H') ⟨none, none, rfl, Same.refl _⟩ (fun i σ H' _ ⟨_, _, _, e⟩ => hG H' fun o z => e _ _ z) ?_ ?_⟩
      · rintro i x σ H2 H3 hi ⟨a, b, rfl, e⟩ ⟨T0, y, v', rfl, nT0, rfl, ey, hv⟩
        have e3 : Same H (upd H2 T0 (.tup [y, v'])) := e.trans (same_new nT0)
        have kv := kn v' (List.mem_of_getElem? hv)
        have gv : btw v' 1 1999 = true := by
          obtain ⟨l, ml, rfl⟩ := List.mem_map.mp (List.mem_of_getElem? hv)
          have := lb l ml
          exact decide_eq_true ⟨by omega, by omega⟩
        refine ⟨T0, _, rfl, SqT.of upd_same, rfl, _, _, rfl, _, _, rfl, rfl, ?_⟩
        refine ⟨v', rfl, v', 1, 1999, rfl, kv.same e3, _, rfl, ?_⟩
        rw [gv]
        exact iteF ⟨_, _, rfl, e3⟩
      · rintro σ H2 ⟨a, b, rfl, e⟩
        clear wk hG
        have hl2 := e _ _ hl
        have hp2 := e _ _ hp
        refine ⟨_, rfl, lp, _, rfl, .inl (SqL.of hl2), fun a1 n1' => ⟨a1, ls.map fun n : Nat => (n : Int), rfl, SqL.of (by rw [List.map_map]; exact upd_same), by rw [List.length_map]; omega, fun m hm hx => ?_⟩⟩
        have em : m = ((L : Nat) : Int) := by
          obtain ⟨l, ml, rfl⟩ := List.mem_map.mp hm
          have h1 := (lb l ml).2
          have h2 := hx ((L : Nat) : Int) (List.mem_map.mpr ⟨L, Lm, rfl⟩)
          omega
        subst em
        have e1 := same_new (o := .lst (ls.map fun n : Nat => V.int (n : Nat))) n1'
        refine ⟨_, rfl, p, C, dx, [], rfl, e1 _ _ hp2, T.cl, T.g, by decide, ?_⟩
        have f3 : ButI p H (upd (upd H2 a1 (.lst (ls.map fun n : Nat => V.int (n : Nat)))) p (.ins C dx (putF "longest" (.int (L : Nat)) []))) := fun b o n z => (upd_ne n).trans (e1 _ _ (e _ _ z))
        have hp3 : upd (upd H2 a1 (.lst (ls.map fun n : Nat => V.int (n : Nat)))) p (.ins C dx (putF "longest" (.int (L : Nat)) [])) p = some (.ins C dx (putF "longest" (.int (L : Nat)) [])) := upd_same
        generalize upd (upd H2 a1 (.lst (ls.map fun n : Nat => V.int (n : Nat)))) p (.ins C dx (putF "longest" (.int (L : Nat)) [])) = H3 at f3 hp3 ⊢
        have np : ∀ b o, H b = some o → (∀ C dx fs, o ≠ .ins C dx fs) → H3 b = some o := fun b o z no => f3 b o (fun eb => by
          subst eb
          rw [hp] at z
          exact no _ _ _ (Option.some.inj z).symm) z
        have hl3 : H3 lp = some (.lst (ls.map fun n : Nat => V.int (n : Nat))) := np _ _ hl fun _ _ _ z => nomatch z
        have tab3 : LamX.Tabs Tb H3 := tabs_at tabs hp (fun _ z => nomatch z) (fun _ z => nomatch z) f3
        have lg : (putF "longest" (V.int ((L : Nat) : Int)) []).lookup ("longest" : Str) = some (.int (L : Nat)) := by
          rw [lookup_putF, if_pos rfl]
        refine ⟨_, rfl, lp, _, rfl, .inl (SqL.of hl3), fun J G wk hG D nD => lcM wk (fun i => .int ((2 ^ (L - lAt ls i) : Nat) : Int)) (by rw [lN]; omega) nD (fun H' e => hG H' fun o z => e _ _ z) ?_ ?_⟩
        · rintro i x H4 H5 N hi e4 ⟨rfl, hxi⟩ hN
          rw [lN] at hi
          rw [List.getElem?_map, List.getElem?_eq_getElem hi] at hxi
          cases hxi
          have gi : lAt ls i = ls[i] := by
            show ls.getD i 0 = _
            rw [List.getD_eq_getElem?_getD, List.getElem?_eq_getElem hi]
            rfl
          have bi := (lb _ (List.getElem_mem hi)).2
          refine ⟨rfl, _, rfl, p, C, dx, _, _, rfl, e4 _ _ hp3, T.cl, T.g, lg, _, rfl, _, _, rfl, rfl, _, _, rfl, rfl, ⟨by omega, by omega, by decide⟩, ?_⟩
          have ev : (1 : Int) * 2 ^ (((L : Nat) : Int) - ((ls[i] : Nat) : Int)).toNat = ((2 ^ (L - lAt ls i) : Nat) : Int) := by
            rw [gi, show (((L : Nat) : Int) - ((ls[i] : Nat) : Int)).toNat = L - ls[i] by omega, Int.one_mul, Int.natCast_pow]
            rfl
          show N (V.int ((1 : Int) * 2 ^ (((L : Nat) : Int) - ((ls[i] : Nat) : Int)).toNat)) _
          rw [ev]
          exact hN _ (Same.refl _)
        intro H4 e4 hD4
        rw [lN] at hD4
        refine ⟨D, (List.range ls.length).map fun i => ((2 ^ (L - lAt ls i) : Nat) : Int), rfl, SqL.of (by rw [List.map_map]; exact hD4), ?_⟩
        rw [kl_range]
        have hp4 := e4 _ _ hp3
        have f4 : ButI p H H4 := fun b o n z => e4 _ _ (f3 b o n z)
        have np4 : ∀ b o, H b = some o → (∀ C dx fs, o ≠ .ins C dx fs) → H4 b = some o := fun b o z no => e4 _ _ (np b o z no)
        have tab4 := tab3.ext e4
        refine ⟨_, rfl, p, C, dx, _, _, rfl, hp4, T.cl, T.g, lg, _, _, rfl, rfl, ⟨by omega, by omega, by decide⟩, ?_⟩
        have ev : (1 : Int) * 2 ^ (((L : Nat) : Int)).toNat = ((2 ^ L : Nat) : Int) := by
          rw [Int.toNat_natCast, Int.one_mul, Int.natCast_pow]
          rfl
        show rNe (V.int ((kl L ls : Nat) : Int)) (V.int ((1 : Int) * 2 ^ (((L : Nat) : Int)).toNat)) _ _
        rw [ev]
        refine ⟨rfl, _, rfl, ?_⟩
        have dk : decide (V.int ((kl L ls : Nat) : Int) = V.int ((2 ^ L : Nat) : Int)) = decide (kl L ls = 2 ^ L) := by
          rw [dec_int, Bool.eq_iff_iff, beq_iff_eq, decide_eq_true_iff]
          omega
        rw [dk]
        clear e4 hD4 dk ev lg e1 n1' hm hx np nD f3 hp3 hl3 tab3
        have out2 : (kl L ls ≠ 2 ^ L ∧ ∀ H', ButI p H H' → E (.ref CN) none H') ∨ (kl L ls = 2 ^ L ∧ ((wv = .non ∧ ∀ os ws H' lt wt tr, IsOrd ls os → CanoOf ls os ws → ButT p H H' → LamX.Tabs Tb H' → H' p = some (.ins C dx (coF L ls.length lt wt tr)) → H' lt = some (.tup (ls.map fun n : Nat => V.int (n : Nat))) → H' wt = some (.tup (ws.map wV)) → IsTr CR H' tr ws → Q .non H') ∨
            (∃ (s : Addr) (us : List V), wv = .ref s ∧ LT H s us ∧ us.length = ls.length ∧ us.length ≤ 60 ∧ (∀ v ∈ us, Kn H v ∧ ∀ x, v = .str x → x.length ≤ 10000) ∧
        ((∃ i v, us[i]? = some v ∧ okB (ls.getD i 0) v = false ∧ (∀ j u, j < i → us[j]? = some u → okB (ls.getD j 0) u = true) ∧ ∀ d H', RsB p H H' d [("index", .int (i : Nat))] → E (.ref CB) (some d) H') ∨
         (∃ ws : List W, us = ws.map wV ∧ ws.map List.length = ls ∧
           ((H s = some (.lst us) ∧ ∃ i j a b, i < j ∧ ws[i]? = some a ∧ ws[j]? = some b ∧ bg a b ∧ (∀ i' j' x y, i' < j' → (i' < i ∨ (i' = i ∧ j' < j)) → ws[i']? = some x → ws[j']? = some y → ¬ bg x y) ∧ ∀ d H', RsB p H H' d [("other", .int (j : Nat)), ("index", .int (i : Nat))] → E (.ref CE) (some d) H') ∨
            (PF ws ∧ ∀ H' lt wt tr, ButT p H H' → LamX.Tabs Tb H' → H' p = some (.ins C dx (coF L ls.length lt wt tr)) → H' lt = some (.tup (ls.map fun n : Nat => V.int (n : Nat))) → H' wt = some (.tup (ws.map wV)) → IsTr CR H' tr ws → Q .non H'))))))) := by
          rcases out with z | ⟨z1, z2, z3⟩ | ⟨z1, z⟩
          · exact .inl z
          · exact .inr ⟨z1, .inl ⟨z2, z3⟩⟩
          · exact .inr ⟨z1, .inr z⟩
        clear out
        rcases out2 with ⟨ne, out⟩ | ⟨ek, out⟩
        · rw [decide_eq_false ne]
          exact iteT (raise0 (K := K) fun H' e' => out H' fun b o n z => e' _ _ (f4 b o n z))
        rw [decide_eq_true ek]
        refine iteF ?_
        clear wk hG
        unfold tNext
        dsimp only
        refine cutSeq (t := tIfS _ _ _) (fun σ' H' => σ' = [some (.ref p), some (.ref lp), some wv, a, b] ∧ ButI p H H' ∧ H' p = some (.ins C dx (putF "longest" (.int (L : Nat)) [])) ∧ LamX.Tabs Tb H' ∧
          ((wv = .non ∧ ∀ os ws H' lt wt tr, IsOrd ls os → CanoOf ls os ws → ButT p H H' → LamX.Tabs Tb H' → H' p = some (.ins C dx (coF L ls.length lt wt tr)) → H' lt = some (.tup (ls.map fun n : Nat => V.int (n : Nat))) → H' wt = some (.tup (ws.map wV)) → IsTr CR H' tr ws → Q .non H') ∨
           (∃ (s : Addr) (ws : List W), wv = .ref s ∧ LT H s (ws.map wV) ∧ ws.map List.length = ls ∧ PF ws ∧ ∀ H' lt wt tr, ButT p H H' → LamX.Tabs Tb H' → H' p = some (.ins C dx (coF L ls.length lt wt tr)) → H' lt = some (.tup (ls.map fun n : Nat => V.int (n : Nat))) → H' wt = some (.tup (ws.map wV)) → IsTr CR H' tr ws → Q .non H'))) (fun nx hnx => ?_) ?_
        · rcases out with ⟨rfl, out⟩ | ⟨s0, us, rfl, hu, lu, lu60, ku, out⟩
          · refine ⟨_, rfl, rfl, _, rfl, ?_⟩
            exact iteF (hnx _ _ ⟨rfl, f4, hp4, tab4, .inl ⟨rfl, out⟩⟩)
          · refine ⟨_, rfl, rfl, _, rfl, ?_⟩
            have hl4 : H4 lp = some (.lst (ls.map fun n : Nat => V.int (n : Nat))) := np4 _ _ hl fun _ _ _ z => nomatch z
            have hu4 : LT H4 s0 us := hu.imp (fun z => np4 _ _ z fun _ _ _ y => nomatch y) fun z => np4 _ _ z fun _ _ _ y => nomatch y
            have kn4 : ∀ v ∈ us, Kn H4 v ∧ ∀ x, v = .str x → x.length ≤ 10000 := fun v hv => by
              refine ⟨?_, (ku v hv).2⟩
              cases (ku v hv).1 with
              | non => exact .non
              | bl b => exact .bl b
              | int i => exact .int i
              | str x => exact .str x
              | lst z => exact .lst (np4 _ _ z fun _ _ _ y => nomatch y)
              | tup z => exact .tup (np4 _ _ z fun _ _ _ y => nomatch y)
            have nw : ∀ d, H4 d = none → H d = none := fun d n => by
              cases z : H d with
              | none => rfl
              | some o =>
                have nd : d ≠ p := fun ed => by
                  rw [ed, hp4] at n
                  cases n
                rw [f4 d o nd z] at n
                cases n
            have rb : ∀ d H' fs, Rsd H4 H' d fs → RsB p H H' d fs := fun d H' fs r => ⟨nw d r.new, fun b o n z => r.same _ _ (f4 b o n z), r.at_⟩
            refine iteT ⟨_, rfl, _, rfl, lp, s0, ls, us, rfl, hl4, hu4, lu, lu60, kn4, ?_⟩
            rcases out with ⟨i, v, h1, h2, h3, out⟩ | ⟨ws, rfl, h2, ⟨hls, i, j, x, y, g1, g2, g3, g4, g5, out⟩ | ⟨pf, out⟩⟩
            · exact .inl ⟨i, v, h1, h2, h3, fun d H' r => out d H' (rb d H' _ r)⟩
            · exact .inr ⟨ws, rfl, h2, .inl ⟨np4 _ _ hls (fun _ _ _ y => nomatch y), i, j, x, y, g1, g2, g3, g4, g5, fun d H' r => out d H' (rb d H' _ r)⟩⟩
            · exact .inr ⟨ws, rfl, h2, .inr ⟨pf, fun H' e' => hnx _ _ ⟨rfl, fun b o n z => e' _ _ (f4 b o n z), e' _ _ hp4, tab4.ext e', .inr ⟨s0, ws, rfl, hu, h2, pf, out⟩⟩⟩⟩
        · clear out
          rintro σ' H5 ⟨rfl, f5, hp5, tab5, go⟩
          have hl5 : H5 lp = some (.lst (ls.map fun n : Nat => V.int (n : Nat))) := f5 _ _ (ne_of hl hp fun z => nomatch z) hl
          refine ⟨_, rfl, .inl ⟨lp, _, rfl, SqL.of hl5, fun lt nlt => ?_⟩⟩
          have e6 := same_new (o := .tup (ls.map fun n : Nat => V.int (n : Nat))) nlt
          refine ⟨_, rfl, p, C, dx, _, rfl, e6 _ _ hp5, T.cl, T.l, by show 1 < 1000; decide, ?_⟩
          have f6 : ButI p H (upd (upd H5 lt (.tup (ls.map fun n : Nat => V.int (n : Nat)))) p (.ins C dx (putF "lengths" (.ref lt) (putF "longest" (.int (L : Nat)) [])))) := fun b o n z => (upd_ne n).trans (e6 _ _ (f5 _ _ n z))
          have hp6 : upd (upd H5 lt (.tup (ls.map fun n : Nat => V.int (n : Nat)))) p (.ins C dx (putF "lengths" (.ref lt) (putF "longest" (.int (L : Nat)) []))) p = some (.ins C dx (putF "lengths" (.ref lt) (putF "longest" (.int (L : Nat)) []))) := upd_same
          have nlp : lt ≠ p := (ne_of_none hp5 nlt).symm
          have ht6 : upd (upd H5 lt (.tup (ls.map fun n : Nat => V.int (n : Nat)))) p (.ins C dx (putF "lengths" (.ref lt) (putF "longest" (.int (L : Nat)) []))) lt = some (.tup (ls.map fun n : Nat => V.int (n : Nat))) := (upd_ne nlp).trans upd_same
          have tab6 : LamX.Tabs Tb (upd (upd H5 lt (.tup (ls.map fun n : Nat => V.int (n : Nat)))) p (.ins C dx (putF "lengths" (.ref lt) (putF "longest" (.int (L : Nat)) [])))) := tabs_at (tab5.ext e6) (e6 _ _ hp5) (fun _ z => nomatch z) (fun _ z => nomatch z) fun b o n z => (upd_ne n).trans z
          show (fun H' => _) (upd (upd H5 lt (.tup (ls.map fun n : Nat => V.int (n : Nat)))) p (.ins C dx (putF "lengths" (.ref lt) (putF "longest" (.int (L : Nat)) []))))
          generalize upd (upd H5 lt (.tup (ls.map fun n : Nat => V.int (n : Nat)))) p (.ins C dx (putF "lengths" (.ref lt) (putF "longest" (.int (L : Nat)) []))) = H6 at f6 hp6 ht6 tab6 ⊢
          have hl6 : H6 lp = some (.lst (ls.map fun n : Nat => V.int (n : Nat))) := f6 _ _ (ne_of hl hp fun z => nomatch z) hl
          clear e6 f5 hp5 tab5 hl5 nlt
          dsimp only
          refine cutSeq (t := sFld _ _ _ _) (fun σ' H' => ∃ (wt : Addr) (ws : List W), σ' = [some (.ref p), some (.ref lp), some wv, a, b] ∧ ButT p H H' ∧ LamX.Tabs Tb H' ∧ H' p = some (.ins C dx (putF "words" (.ref wt) (putF "lengths" (.ref lt) (putF "longest" (.int (L : Nat)) [])))) ∧
            H' lt = some (.tup (ls.map fun n : Nat => V.int (n : Nat))) ∧ H' wt = some (.tup (ws.map wV)) ∧ PF ws ∧ ws.length = ls.length ∧ (∀ w ∈ ws, w.length ≤ L) ∧ kr L ws = 2 ^ L ∧
            ∀ H' lt wt tr, ButT p H H' → LamX.Tabs Tb H' → H' p = some (.ins C dx (coF L ls.length lt wt tr)) → H' lt = some (.tup (ls.map fun n : Nat => V.int (n : Nat))) → H' wt = some (.tup (ws.map wV)) → IsTr CR H' tr ws → Q .non H') (fun nx hnx => ?_) ?_
          · have fin : ∀ (H8 : Hp) (wt : Addr) (ws : List W), LamX.ExtN H6 H8 → LamX.Tabs Tb H8 → H8 wt = some (.tup (ws.map wV)) → PF ws → ws.length = ls.length → (∀ w ∈ ws, w.length ≤ L) → kr L ws = 2 ^ L →
                (∀ H' lt wt tr, ButT p H H' → LamX.Tabs Tb H' → H' p = some (.ins C dx (coF L ls.length lt wt tr)) → H' lt = some (.tup (ls.map fun n : Nat => V.int (n : Nat))) → H' wt = some (.tup (ws.map wV)) → IsTr CR H' tr ws → Q .non H') →
                nx [some (.ref p), some (.ref lp), some wv, a, b] (upd H8 p (.ins C dx (putF "words" (.ref wt) (putF "lengths" (.ref lt) (putF "longest" (.int (L : Nat)) []))))) := fun H8 wt ws en tab8 hw pf lw lL kw out => by
              have hp8 := en _ _ hp6 fun _ z => nomatch z
              refine hnx _ _ ⟨wt, ws, rfl, fun b o n z m => (upd_ne n).trans (en _ _ (f6 b o n z) m), tabs_at tab8 hp8 (fun _ z => nomatch z) (fun _ z => nomatch z) fun b o n z => (upd_ne n).trans z, upd_same, (upd_ne nlp).trans (en _ _ ht6 fun _ z => nomatch z), (upd_ne (ne_of hw hp8 fun z => nomatch z)).trans hw, pf, lw, lL, kw, out⟩
            rcases go with ⟨rfl, out⟩ | ⟨s0, ws, rfl, hu, ll, pf, out⟩
            · refine ⟨_, rfl, rfl, _, rfl, ?_⟩
              refine iteT ⟨_, rfl, lp, ls, L, rfl, hl6, n2, lb, L6, Nat.le_of_eq ek, tab6, fun os ws D H7 O c en tab7 fr hD => ?_⟩
              refine .inl ⟨D, _, rfl, SqL.of hD, fun wt nwt => ?_⟩
              have e8 := same_new (o := .tup (ws.map wV)) nwt
              obtain ⟨g1, g2, g3⟩ := c.good O (fun l h => (lb l h).2) ek
              refine ⟨_, rfl, p, C, dx, _, rfl, e8 _ _ (en _ _ hp6 fun _ z => nomatch z), T.cl, T.w, by show 2 < 1000; decide, ?_⟩
              exact fin _ wt ws (fun b o z m => e8 _ _ (en _ _ z m)) (tab7.ext e8) upd_same g1 c.1 g2 g3 fun H' lt wt tr => out os ws H' lt wt tr O c
            · refine ⟨_, rfl, rfl, _, rfl, ?_⟩
              have lw : ws.length = ls.length := by rw [← ll, List.length_map]
              have g2 : ∀ w ∈ ws, w.length ≤ L := fun w hw => (lb w.length (by rw [← ll]; exact List.mem_map_of_mem hw)).2
              have g3 : kr L ws = 2 ^ L := by rw [kr_kl, ll, ek]
              refine iteF ⟨_, rfl, ?_⟩
              rcases hu with hu | hu
              · have hu6 := f6 _ _ (ne_of hu hp fun z => nomatch z) hu
                refine .inl ⟨s0, _, rfl, SqL.of hu6, fun wt nwt => ?_⟩
                have e8 := same_new (o := .tup (ws.map wV)) nwt
                refine ⟨_, rfl, p, C, dx, _, rfl, e8 _ _ hp6, T.cl, T.w, by show 2 < 1000; decide, ?_⟩
                exact fin _ wt ws (fun b o z m => e8 _ _ z) (tab6.ext e8) upd_same pf lw g2 g3 out
              · have hu6 := f6 _ _ (ne_of hu hp fun z => nomatch z) hu
                refine .inr ⟨s0, _, rfl, SqT.of hu6, ?_⟩
                refine ⟨_, rfl, p, C, dx, _, rfl, hp6, T.cl, T.w, by show 2 < 1000; decide, ?_⟩
                exact fin _ s0 ws (fun b o z m => z) tab6 hu6 pf lw g2 g3 out
          · rintro σ' H9 ⟨wt, ws, rfl, f9, tab9, hp9, hlt9, hwt9, pf, lw, lL, kw, out⟩
            have c1 : (putF "words" (V.ref wt) (putF "lengths" (.ref lt) (putF "longest" (.int (L : Nat)) []))).lookup ("lengths" : Str) = some (.ref lt) := by
              rw [lookup_putF, if_neg (by decide +kernel), lookup_putF, if_pos rfl]
            refine ⟨_, rfl, p, C, dx, _, _, rfl, hp9, T.cl, T.l, c1, lt, _, rfl, .inr (SqT.of hlt9), ?_⟩
            rw [lN]
            refine ⟨_, rfl, p, C, dx, _, rfl, hp9, T.cl, T.s, by show 3 < 1000; decide, ?_⟩
            have c2 : (putF "size" (V.int (ls.length : Nat)) (putF "words" (V.ref wt) (putF "lengths" (.ref lt) (putF "longest" (.int (L : Nat)) [])))).lookup ("words" : Str) = some (.ref wt) := by
              rw [lookup_putF, if_neg (by decide +kernel), lookup_putF, if_pos rfl]
            have hp10 : upd H9 p (.ins C dx (putF "size" (.int (ls.length : Nat)) (putF "words" (.ref wt) (putF "lengths" (.ref lt) (putF "longest" (.int (L : Nat)) []))))) p = some (.ins C dx (putF "size" (.int (ls.length : Nat)) (putF "words" (.ref wt) (putF "lengths" (.ref lt) (putF "longest" (.int (L : Nat)) []))))) := upd_same
            have f10 : ButT p H (upd H9 p (.ins C dx (putF "size" (.int (ls.length : Nat)) (putF "words" (.ref wt) (putF "lengths" (.ref lt) (putF "longest" (.int (L : Nat)) [])))))) := fun b o n z m => (upd_ne n).trans (f9 b o n z m)
            have hlt10 : upd H9 p (.ins C dx (putF "size" (.int (ls.length : Nat)) (putF "words" (.ref wt) (putF "lengths" (.ref lt) (putF "longest" (.int (L : Nat)) []))))) lt = _ := (upd_ne nlp).trans hlt9
            have hwt10 : upd H9 p (.ins C dx (putF "size" (.int (ls.length : Nat)) (putF "words" (.ref wt) (putF "lengths" (.ref lt) (putF "longest" (.int (L : Nat)) []))))) wt = _ := (upd_ne (ne_of hwt9 hp9 fun z => nomatch z)).trans hwt9
            have tab10 : LamX.Tabs Tb (upd H9 p (.ins C dx (putF "size" (.int (ls.length : Nat)) (putF "words" (.ref wt) (putF "lengths" (.ref lt) (putF "longest" (.int (L : Nat)) [])))))) := tabs_at tab9 hp9 (fun _ z => nomatch z) (fun _ z => nomatch z) fun b o n z => (upd_ne n).trans z
            dsimp only
            generalize upd H9 p (.ins C dx (putF "size" (.int (ls.length : Nat)) (putF "words" (.ref wt) (putF "lengths" (.ref lt) (putF "longest" (.int (L : Nat)) []))))) = H10 at hp10 f10 hlt10 hwt10 tab10 ⊢
            refine ⟨_, rfl, p, C, dx, _, _, rfl, hp10, T.cl, T.w, c2, fun x dx2 nx ndx ne => ?_⟩
            have e11 : Same H10 (upd (upd H10 dx2 (.own x)) x (.ins CR dx2 [])) := fun b o z => (upd_ne (ne_of_none z nx)).trans ((upd_ne (ne_of_none z ndx)).trans z)
            refine ⟨x, dx2, wt, ws, L, rfl, upd_same, e11 _ _ hwt10, pf, by omega, by omega, lL, by omega, kw, tab10.ext e11, fun H' bt it tab' => ⟨rfl, _, rfl, p, C, dx, _, rfl, bt _ _ (ne_of_none hp10 nx) (e11 _ _ hp10) (fun _ z => nomatch z), T.cl, T.t, by show 4 < 1000; decide, ?_⟩⟩
            refine out _ lt wt x (fun b o n z m => (upd_ne n).trans (bt b o (ne_of_none (f10 b o n z m) nx) (e11 _ _ (f10 b o n z m)) m)) ?_ upd_same ?_ ?_ (it.ins (bt _ _ (ne_of_none hp10 nx) (e11 _ _ hp10) fun _ z => nomatch z) (Ne.symm (ne_of_none hp10 nx)))
            · exact tabs_at tab' (bt _ _ (ne_of_none hp10 nx) (e11 _ _ hp10) fun _ z => nomatch z) (fun _ z => nomatch z) (fun _ z => nomatch z) fun b o n z => (upd_ne n).trans z
            · exact (upd_ne nlp).trans (bt _ _ (ne_of_none hlt10 nx) (e11 _ _ hlt10) fun _ z => nomatch z)
            · exact (upd_ne (ne_of hwt10 hp10 fun z => nomatch z)).trans (bt _ _ (ne_of_none hwt10 nx) (e11 _ _ hwt10) fun _ z => nomatch z)
end
end K61
set_option Elab.async false
set_option linter.all false
set_option maxRecDepth 100001
set_option maxHeartbeats 3999999
namespace K61
open PySem L2
abbrev sList : Stmt := topS 7
abbrev sTupOf : Stmt := topS 8
abbrev sWrongS : Stmt := topS 9
section
variable {P : Program} {w : World} {K : PySem.W.Frag} {mg : Str → Option Value} {base : Heap}
theorem scTupOf : FnScope ["value", "size"] ["value", "size"] (defScope sTupOf) := ⟨rfl, rfl, rfl, by decide +kernel, rfl, by decide +kernel, by decide +kernel⟩
theorem ok_tupOf {f : Addr} {fd : FuncData} (F : Fun K "is_tuple_of" "is_tuple_of" sTupOf f fd) (B : Bi mg) : FnOk P w K mg base CX0 1 f fd ["value", "size"] spTupOf := by
  refine F.ok scTupOf (fun vs H Q E h => ?_) (fun cdv A outer s H vs Q E hr h => ?_)
  · obtain ⟨v, n, rfl, _⟩ := h
    rfl
  · obtain ⟨v, n, rfl, k, q⟩ := h
    refine ⟨_, pss_one (ps_ret (pe_and (pe_isi B.isi (pa_cons (pv 0) (pa_cons (pe_ty "tuple" B.tuple) pa_nil))) (pe_one (pe_cmpR op_eq (pe_len B.len (pa_cons (pv 0) pa_nil)) (pv 1) (nomark _))))), ?_⟩
    obtain ⟨t, ty, _, _, k3, _⟩ := k.kinds K
    refine ⟨v, rfl, v, _, _, _, _, rfl, .ty "tuple", ty, k3, _, rfl, ?_⟩
    cases k with
    | tup e =>
      rw [isT_tup e]
      refine ⟨_, rfl, _, _, rfl, .inr (SqT.of e), _, rfl, rfl, ?_⟩
      simp only [isTn, e] at q
      rw [dec_int]
      have e2 : ∀ i j : Int, (i == j) = decide (i = j) := fun i j => by rw [Bool.eq_iff_iff]; simp
      rw [e2]
      exact q
    | lst e =>
      rw [isT_lst e]
      simp only [isTn, e] at q
      exact q
    | _ => exact q
end
end K61
set_option Elab.async false
set_option linter.all false
set_option maxRecDepth 100001
set_option maxHeartbeats 3999999
namespace K61
open PySem L2
section
variable {X : Cx} {tg e : Expr}
/-- enumerate of a list or a tuple; it stays where its own object does -/
def iEnA (K : PySem.W.Frag) (ta : TA) : TI := fun σ H R => ta σ H fun vs H1 => ∃ a xs, vs = [.ref a] ∧ Sq K H1 a xs ∧ ∀ (J : It) (G : Hp → Prop), Walk J xs.length G (YPair (fun i => some (.int (i : Nat))) (fun i => xs[i]?)) → (∀ H', (∀ o, H1 a = some o → H' a = some o) → G H') → R J H1
open PySem.Spec PyProof.Rows in
theorem pi_enA {ta : TA} {p pos tp : Pos} {es : List Expr} {kk : Nat} (hm : X.mg "enumerate" = none) (ha : PA X [e] ta) (hg : Gl X "enumerate" := by rfl) (hs : starEach [e] X.env = [(false, eval e X.env)] := by rfl) :
    PI X (.Tuple es kk tp) (.Call (.Name "enumerate" p) [e] [] pos) (iEnA X.K ta) := by
  constructor
  intro pins s σ H R I h
  refine Call_ (ld_blt I hg hm PyProof.Rows.boot_enumerate (PyProof.Rows.callWith_type1 (thn (ha.run pos pins s σ H _ I h) fun us s1 hh => ?_) hs rfl))
  obtain ⟨vs, H1, I1, r1, a, xs, ev, sq, k⟩ := hh
  subst ev
  have near : ∀ b ∈ [s1.heap.objs.size + 1, s1.heap.objs.size], FpOk X pins H1 b := fun b hb => by
    have ge : s1.heap.objs.size ≤ b := by
      rcases two_of hb with z | z
      · exact z ▸ Nat.le_add_right _ _
      · exact z ▸ Nat.le_refl _
    exact I1.fpOk ge (I1.hok.fresh ge)
  cases r1 with
  | cons r rr =>
    cases rr
    cases r
    rcases sq with hq | hq
    · obtain ⟨its, rv, p1, hz⟩ := I1.list hq
      refine call_enumerate_list p1.isList fun h2 he hd _ hk => wpAny_pyIter_enum he ?_
      exact ⟨s1.heap.objs.size + 1, _, _, _, H1, rfl, I1.kept (t' := s1.toks) hk, turn_enum a (s1.heap.objs.size + 1) s1.heap.objs.size, ⟨⟨.none, he⟩, hd, Nat.succ_ne_self _⟩, near, k _ _ walk_enum fun H' z => sqL_at hq z⟩
    · obtain ⟨its, rv, p2, hz⟩ := I1.tuple hq
      refine enumT_call (begins_tuple a its.toArray) p2 fun h2 he hd hk => wpAny_pyIter_enum he ?_
      exact ⟨s1.heap.objs.size + 1, _, _, _, H1, rfl, I1.kept (t' := s1.toks) hk, turn_enT a (s1.heap.objs.size + 1) s1.heap.objs.size, ⟨⟨.none, he⟩, ⟨_, hd, rfl, rfl⟩, Nat.succ_ne_self _⟩, near, k _ _ walk_enT fun H' z => sqT_at hq z⟩
/-- list(d.values()) -/
def tListV (te : TE) : TE := fun σ H Q => te σ H fun x H1 => ∃ (d : Addr) (kvs : List (Key × V)), x = .ref d ∧ H1 d = some (.dK kvs) ∧ ∀ l, H1 l = none → Q (.ref l) (upd H1 l (.lst (kvs.map (·.2))))
theorem vals_snds : ∀ {xs : List (Key × V)} {ys : List (Key × Value)}, KV xs ys → Vals (xs.map (·.2)) (ys.map (·.2))
  | _, _, .nil => .nil
  | _, _, .cons h t => .cons h.2 (vals_snds t)
open PySem.Spec PyProof.Rows in
theorem pe_listValues {te : TE} {p apos cpos pos : Pos} (hc : X.calm = true) (he : PE X e te) (hg : Gl X "list") (hm : X.mg "list" = none) (hv : bootBuiltins "list" = some (.type "list") := by decide +kernel) (hbase : attributeBase e "values" X.env (eval e X.env) = eval e X.env := by rfl) (hline : (apos.endLine == cpos.line) = true := by rfl)
    (hs : starEach [.Call (.Attribute e "values" apos) [] [] cpos] X.env = (false, eval (.Call (.Attribute e "values" apos) [] [] cpos) X.env) :: starEach [] X.env := by rfl) :
    PE X (.Call (.Name "list" p) [.Call (.Attribute e "values" apos) [] [] cpos] [] pos) (tListV te) := by
  constructor
  intro pins s σ H Q I hq
  refine wpAny_Call_Name_kw (ld_blt I hg hm hv (PyProof.Rows.callWith_type1 ?_ hs rfl))
  rw [hs]
  show wpAny _ _ (spliced ((false, eval (.Call (.Attribute e "values" apos) [] [] cpos) X.env) :: backTo pos (starEach [] X.env))) _ _ s
  refine Calls.spliced_cons (wpAny_Call_method (T := "dict") (id := "dict.values") hbase rfl hline F.plainAttrs_dict F.slot_dict_values F.type_dict_values (thn (he.run pins s σ H _ I hq) fun u s1 hh => ?_))
  obtain ⟨x, H1, I1, rx, d, kvs, ex, hd, q⟩ := hh
  subst ex
  cases (show u = Value.ref d from rx)
  obtain ⟨hz, hs0, vs, kv, hdo⟩ := I1.hok d _ hd
  obtain ⟨ep, hat⟩ := hdo.dictAt
  have lk : kvs.length = vs.length := Paired.length kv
  have I2 : Inv X pins σ H1 { s1 with heap := s1.heap.push { cls := .type "dict_values", data := .fields #[.ref d] } } := I1.kept (t' := s1.toks) fun b ob z => Heap.get?_push_of_some _ z
  refine ⟨hdo.typeIs, hdo.mapOf.noDict, ?_⟩
  show wpAny _ _ (callWith cpos (.builtin "dict.values") [.ref d] [] []) _ X.xe s1
  refine method_meetsIn F.slot_dict_values F.entry_dict_values rfl (PySem.evalArgs_none ⟨rfl, hdo.typeIs, F.args_dict_values_1 _, _, meets_dict_values (mixKind X.prog X.w) d hs0, ⟨vs, hdo⟩, ?_⟩)
  refine Calls.spliced_nil ?_
  refine PySem.W.kdl_call (PySem.W.kdl_values (knd := mixKind X.prog X.w) (kvs := vs) (ep := ep)) (I1.ok.hd hc) ⟨⟨_, Heap.get?_push_size _ rfl, rfl, rfl⟩, hat.push _⟩ (by omega) fun h' tk acc c hk hS hacc => ?_
  have ev : acc.toList = vs.map (·.2) := PySem.W.kdl_vals_eq acc.toList (by rw [Array.length_toList]; exact hacc.1) fun j v z => hacc.2 j v (by rw [← Array.getElem?_toList]; exact z)
  have nl : H1 (s1.heap.push { cls := .type "dict_values", data := .fields #[.ref d] }).objs.size = none := I2.hok.fresh (Nat.le_refl _)
  refine ⟨.ref _, upd H1 _ (.lst (kvs.map (·.2))), I2.laid (t' := tk) hk (Nat.le_refl _) ⟨by rw [List.length_map]; exact hz, acc.toList, c, ?_, ?_⟩, rfl, q _ nl⟩
  · rw [ev]
    exact vals_snds kv
  · rw [Array.toArray_toList]
    exact hS
end
end K61
set_option Elab.async false
set_option linter.all false
set_option maxRecDepth 100001
set_option maxHeartbeats 3999999
namespace K61
/-! ### stretches -/
def put (acc : List (Int × Int)) (f s : Int) : List (Int × Int) := match acc.getLast? with
  | some q => if q.2 = s then acc else acc ++ [(f, s)]
  | none => acc ++ [(f, s)]
theorem put_nil (f s : Int) : put [] f s = [(f, s)] := rfl
theorem put_same {acc : List (Int × Int)} {g f s : Int} : put (acc ++ [(g, s)]) f s = acc ++ [(g, s)] := by
  unfold put
  rw [List.getLast?_concat]
  show (if s = s then _ else _) = _
  rw [if_pos rfl]
theorem put_new {acc : List (Int × Int)} {q : Int × Int} {f s : Int} (h : ¬ q.2 = s) : put (acc ++ [q]) f s = acc ++ [q] ++ [(f, s)] := by
  unfold put
  rw [List.getLast?_concat]
  show (if q.2 = s then _ else _) = _
  rw [if_neg h]
/-- l tells L by stretches -/
inductive Rl : List (Int × Int) → List Int → Prop
  | nil : Rl [] []
  | one {x : Int} {k : Nat} : Rl [(0, x)] (List.replicate (k + 1) x)
  | snoc {l : List (Int × Int)} {q : Int × Int} {L : List Int} {x : Int} {k : Nat} : Rl (l ++ [q]) L → ¬ q.2 = x → Rl (l ++ [q] ++ [(((L.length : Nat) : Int), x)]) (L ++ List.replicate (k + 1) x)
theorem rep_snoc (k : Nat) (x : Int) : List.replicate (k + 1) x ++ [x] = List.replicate (k + 2) x := by rw [← List.replicate_succ']
theorem Rl.push {l : List (Int × Int)} {L : List Int} (h : Rl l L) (x : Int) : Rl (put l (L.length : Nat) x) (L ++ [x]) := by
  cases h with
  | nil => exact Rl.one (k := 0)
  | @one y k =>
    by_cases c : y = x
    · subst c
      rw [show [((0 : Int), y)] = [] ++ [(0, y)] from rfl, put_same, rep_snoc]
      exact Rl.one
    · rw [show [((0 : Int), y)] = [] ++ [(0, y)] from rfl, put_new c]
      exact Rl.snoc (k := 0) (l := []) (q := (0, y)) Rl.one c
  | @snoc l q L y k h' c' =>
    by_cases c : y = x
    · subst c
      rw [put_same, List.append_assoc L, rep_snoc]
      exact Rl.snoc h' c'
    · rw [put_new (q := ((L.length : Nat), y)) c]
      exact Rl.snoc (k := 0) (Rl.snoc h' c') c
theorem put_put (l : List (Int × Int)) (f g s : Int) : put (put l f s) g s = put l f s := by
  rcases List.eq_nil_or_concat l with rfl | ⟨l, q, rfl⟩
  · rw [put_nil]
    exact put_same (acc := [])
  · rw [List.concat_eq_append]
    by_cases c : q.2 = s
    · obtain ⟨a, b⟩ := q
      cases c
      rw [put_same, put_same]
    · rw [put_new c]
      exact put_same (acc := l ++ [q])
theorem Rl.rep {l : List (Int × Int)} {L : List Int} (h : Rl l L) (x : Int) : ∀ k : Nat, Rl (put l (L.length : Nat) x) (L ++ List.replicate (k + 1) x)
  | 0 => h.push x
  | k + 1 => by
    have ih := Rl.rep h x k
    have p := ih.push x
    rw [put_put, List.append_assoc, rep_snoc] at p
    exact p
/-- the stretches of L -/
def rleF (a : List (Int × Int) × Int) (x : Int) : List (Int × Int) × Int := (put a.1 a.2 x, a.2 + 1)
def rle (L : List Int) : List (Int × Int) := (L.foldl rleF ([], 0)).1
theorem rle_pos : ∀ (L : List Int) (a : List (Int × Int) × Int), (L.foldl rleF a).2 = a.2 + (L.length : Nat)
  | [], a => by simp
  | x :: L, a => by
    rw [List.foldl_cons, rle_pos L, List.length_cons]
    show a.2 + 1 + _ = _
    omega
theorem rle_snoc (L : List Int) (x : Int) : rle (L ++ [x]) = put (rle L) (L.length : Nat) x := by
  unfold rle
  rw [List.foldl_append]
  show put (L.foldl rleF ([], 0)).1 (L.foldl rleF ([], 0)).2 x = _
  rw [rle_pos]
  show put _ (0 + ((L.length : Nat) : Int)) x = _
  rw [Int.zero_add]
theorem rle_rep (L : List Int) (x : Int) : ∀ k : Nat, rle (L ++ List.replicate (k + 1) x) = put (rle L) (L.length : Nat) x
  | 0 => rle_snoc L x
  | k + 1 => by
    rw [← rep_snoc, ← List.append_assoc, rle_snoc, rle_rep L x k, put_put]
theorem rl_fold : ∀ (M : List Int) (l : List (Int × Int)) (L : List Int), Rl l L → Rl (M.foldl rleF (l, (L.length : Nat))).1 (L ++ M)
  | [], l, L, h => by
    rw [List.append_nil]
    exact h
  | x :: M, l, L, h => by
    rw [List.foldl_cons]
    have := rl_fold M (put l (L.length : Nat) x) (L ++ [x]) (h.push x)
    rw [List.length_append, List.append_assoc] at this
    exact this
theorem rl_rle (L : List Int) : Rl (rle L) L := rl_fold L [] [] .nil
/-- the place behind the i-th stretch -/
def beh (l : List (Int × Int)) (n : Int) (i : Nat) : Int := match l[i + 1]? with
  | some q => q.1
  | none => n
theorem beh_last {l : List (Int × Int)} {q : Int × Int} {n : Int} : beh (l ++ [q]) n l.length = n := by
  unfold beh
  rw [List.getElem?_eq_none (by simp)]
theorem beh_snoc {l : List (Int × Int)} {q : Int × Int} {m n : Int} {i : Nat} (h : i + 1 < l.length) : beh (l ++ [q]) n i = beh l m i := by
  unfold beh
  rw [List.getElem?_append_left h, List.getElem?_eq_getElem h]
theorem beh_next {l : List (Int × Int)} {p q : Int × Int} {n : Int} : beh (l ++ [p] ++ [q]) n l.length = q.1 := by
  unfold beh
  rw [List.getElem?_append_right (by simp), List.length_append, List.length_singleton, Nat.sub_self]
  rfl
structure RlP (l : List (Int × Int)) (L : List Int) : Prop where
  at_ : ∀ i f st, l[i]? = some (f, st) → 0 ≤ f ∧ f < beh l (L.length : Nat) i ∧ beh l (L.length : Nat) i ≤ (L.length : Nat) ∧ ∀ s : Nat, f ≤ s → (s : Int) < beh l (L.length : Nat) i → L[s]? = some st
  zero : ∀ q, l[0]? = some q → q.1 = 0
  some_ : L ≠ [] → l ≠ []
  last : ∀ k, l = k → L = [] → k = []
theorem Rl.p {l : List (Int × Int)} {L : List Int} (h : Rl l L) : RlP l L := by
  induction h with
  | nil => exact ⟨fun i f st z => by simp at z, fun q z => by simp at z, fun z => absurd rfl z, fun k e _ => e.symm⟩
  | @one x k =>
    refine ⟨fun i f st z => ?_, fun q z => by simp at z; rw [← z], (fun _ z => nomatch z), fun k' e z => by simp at z⟩
    cases i with
    | succ i => simp at z
    | zero =>
      simp at z
      obtain ⟨rfl, rfl⟩ := z
      have e : beh [((0 : Int), x)] ((List.replicate (k + 1) x).length : Nat) 0 = ((k + 1 : Nat) : Int) := by
        show (((List.replicate (k + 1) x).length : Nat) : Int) = _
        rw [List.length_replicate]
      rw [e, List.length_replicate]
      refine ⟨by omega, by omega, Int.le_refl _, fun s _ h2 => ?_⟩
      rw [List.getElem?_replicate, if_pos (by omega)]
  | @snoc l q L x k h2 c ih =>
    have len : (L ++ List.replicate (k + 1) x).length = L.length + (k + 1) := by rw [List.length_append, List.length_replicate]
    refine ⟨fun i f st z => ?_, fun q0 z => ?_, (fun _ z => by simp at z), fun k' e z => by simp at z⟩
    · rw [len]
      by_cases h1 : i < (l ++ [q]).length
      · rw [List.getElem?_append_left h1] at z
        obtain ⟨a1, a2, a3, a4⟩ := ih.at_ i f st z
        have eb : beh (l ++ [q] ++ [(((L.length : Nat) : Int), x)]) ((L.length + (k + 1) : Nat) : Int) i = beh (l ++ [q]) (L.length : Nat) i := by
          by_cases h3 : i + 1 < (l ++ [q]).length
          · exact beh_snoc h3
          · have e : i = l.length := by simp at h1 h3; omega
            rw [e, beh_next, beh_last]
        rw [eb]
        refine ⟨a1, a2, by omega, fun s b1 b2 => ?_⟩
        rw [List.getElem?_append_left (by omega)]
        exact a4 s b1 b2
      · have e : i = (l ++ [q]).length := by
          have := (List.getElem?_eq_some_iff.mp z).1
          simp at this h1 ⊢
          omega
        rw [e, List.getElem?_append_right (Nat.le_refl _), Nat.sub_self] at z
        cases z
        rw [e, beh_last]
        refine ⟨by omega, by omega, Int.le_refl _, fun s b1 b2 => ?_⟩
        rw [List.getElem?_append_right (by omega), List.getElem?_replicate, if_pos (by omega)]
    · refine ih.zero q0 ?_
      rw [← z, List.getElem?_append_left (l₁ := l ++ [q]) (by rw [List.length_append]; exact Nat.succ_pos _)]
theorem rle_p (L : List Int) : RlP (rle L) L := (rl_rle L).p
end K61
set_option Elab.async false
set_option linter.all false
set_option maxRecDepth 100001
set_option maxHeartbeats 3999999
namespace K61
/-! ### moves -/
abbrev Mv := Int × Int × Int
/-- the stretches, each with its last sign -/
def trips (l : List (Int × Int)) (n : Int) : List Mv := (List.range l.length).map fun i => ((l.getD i (0, 0)).1, beh l n i - 1, (l.getD i (0, 0)).2)
def keptM (L : List Int) (a : Int) : List Mv := (trips (rle L) (L.length : Nat)).filter fun t => !decide (t.2.2 = a)
theorem trips_snoc {l : List (Int × Int)} {q p : Int × Int} {m n : Int} (h : p.1 = m) : trips (l ++ [q] ++ [p]) n = trips (l ++ [q]) m ++ [(p.1, n - 1, p.2)] := by
  unfold trips
  have e : (l ++ [q] ++ [p]).length = (l ++ [q]).length + 1 := by simp
  rw [e, List.range_succ, List.map_append]
  congr 1
  · refine List.map_congr_left fun i hi => ?_
    have lt : i < (l ++ [q]).length := List.mem_range.mp hi
    have e1 : (l ++ [q] ++ [p]).getD i (0, 0) = (l ++ [q]).getD i (0, 0) := by
      rw [List.getD_eq_getElem?_getD, List.getD_eq_getElem?_getD, List.getElem?_append_left lt]
    have e2 : beh (l ++ [q] ++ [p]) n i = beh (l ++ [q]) m i := by
      by_cases h3 : i + 1 < (l ++ [q]).length
      · exact beh_snoc h3
      · have e : i = l.length := by simp at lt h3; omega
        rw [e, beh_next, beh_last, h]
    rw [e1, e2]
  · rw [List.map_singleton, beh_last, List.getD_eq_getElem?_getD, List.getElem?_append_right (Nat.le_refl _), Nat.sub_self]
    rfl
theorem trips_one {p : Int × Int} {n : Int} : trips [p] n = [(p.1, n - 1, p.2)] := rfl
theorem Rl.last {l : List (Int × Int)} {q : Int × Int} {L : List Int} (h : Rl (l ++ [q]) L) : L.getLast? = some q.2 := by
  generalize e : l ++ [q] = l2 at h
  cases h with
  | nil => exact absurd e (by simp)
  | @one z i =>
    have := congrArg List.getLast? e
    rw [List.getLast?_concat] at this
    have e3 := Option.some.inj this
    rw [e3, List.replicate_succ', List.getLast?_concat]
    rfl
  | @snoc l3 q3 L3 z i h3 c3 =>
    have := congrArg List.getLast? e
    rw [List.getLast?_concat, List.getLast?_concat] at this
    have e3 := Option.some.inj this
    rw [e3, List.replicate_succ', ← List.append_assoc, List.getLast?_concat]
/-- a run more -/
theorem keptM_snoc {L : List Int} {x : Int} {k : Nat} (a : Int) (h : ∀ y, L.getLast? = some y → y ≠ x) : keptM (L ++ List.replicate (k + 1) x) a = keptM L a ++ (if x = a then [] else [(((L.length : Nat) : Int), ((L.length : Nat) : Int) + (k : Nat), x)]) := by
  unfold keptM
  have len : (((L ++ List.replicate (k + 1) x).length : Nat) : Int) - 1 = ((L.length : Nat) : Int) + (k : Nat) := by rw [List.length_append, List.length_replicate]; omega
  have tail : ∀ n : Int, n - 1 = ((L.length : Nat) : Int) + (k : Nat) → ([(((L.length : Nat) : Int), n - 1, x)] : List Mv).filter (fun t => !decide (t.2.2 = a)) = if x = a then [] else [(((L.length : Nat) : Int), ((L.length : Nat) : Int) + (k : Nat), x)] := fun n e => by
    rw [e]
    by_cases c : x = a
    · rw [if_pos c, List.filter_cons, if_neg (by simpa using c)]
      rfl
    · rw [if_neg c, List.filter_cons, if_pos (by simpa using c)]
      rfl
  rw [rle_rep]
  have R := rl_rle L
  rcases List.eq_nil_or_concat (rle L) with e | ⟨l, q, e⟩
  · rw [e] at R
    have eL : L = [] := by
      generalize e2 : ([] : List (Int × Int)) = l2 at R
      cases R with
      | nil => rfl
      | one => exact absurd e2 (by simp)
      | snoc => exact absurd e2.symm (by simp)
    rw [e, put_nil, trips_one, tail _ len]
    rfl
  · rw [List.concat_eq_append] at e
    rw [e] at R ⊢
    have hq : ¬ q.2 = x := h _ R.last
    rw [put_new hq, trips_snoc (m := (L.length : Nat)) rfl, List.filter_append, tail _ len]
/-- what moves tell, sign by sign -/
def stepE (a : Int) (E : List Int) (t : Mv) : List Int := E ++ List.replicate (t.1.toNat - E.length) a ++ List.replicate (t.2.1 + 1 - t.1).toNat t.2.2
def expM (a : Int) (ms : List Mv) : List Int := ms.foldl (stepE a) []
def expT (a : Int) (ms : List Mv) (n : Nat) : List Int := expM a ms ++ List.replicate (n - (expM a ms).length) a
theorem expM_snoc (a : Int) (ms : List Mv) (t : Mv) : expM a (ms ++ [t]) = stepE a (expM a ms) t := by
  unfold expM
  rw [List.foldl_append]
  rfl
def endM (ms : List Mv) : Int := match ms.getLast? with
  | some t => t.2.1 + 1
  | none => 0
theorem endM_snoc (ms : List Mv) (t : Mv) : endM (ms ++ [t]) = t.2.1 + 1 := by
  unfold endM
  rw [List.getLast?_concat]
/-- moves as they must stand -/
def OkM (n k : Int) (ms : List Mv) : Prop := ∀ i t, ms[i]? = some t → endM (ms.take i) ≤ t.1 ∧ t.1 ≤ t.2.1 ∧ t.2.1 ≤ n - 1 ∧ 0 ≤ t.2.2 ∧ t.2.2 ≤ k - 1
theorem okM_nil {n k : Int} : OkM n k [] := fun i t z => by simp at z
theorem okM_snoc {n k : Int} {ms : List Mv} {t : Mv} : OkM n k (ms ++ [t]) ↔ OkM n k ms ∧ endM ms ≤ t.1 ∧ t.1 ≤ t.2.1 ∧ t.2.1 ≤ n - 1 ∧ 0 ≤ t.2.2 ∧ t.2.2 ≤ k - 1 := by
  constructor
  · intro h
    refine ⟨fun i u z => ?_, ?_⟩
    · have lt := (List.getElem?_eq_some_iff.mp z).1
      have := h i u (by rw [List.getElem?_append_left lt]; exact z)
      rw [List.take_append_of_le_length (Nat.le_of_lt lt)] at this
      exact this
    · have := h ms.length t (by rw [List.getElem?_append_right (Nat.le_refl _), Nat.sub_self]; rfl)
      rw [List.take_append_of_le_length (Nat.le_refl _), List.take_length] at this
      exact this
  · rintro ⟨h1, h2⟩ i u z
    by_cases lt : i < ms.length
    · rw [List.getElem?_append_left lt] at z
      rw [List.take_append_of_le_length (Nat.le_of_lt lt)]
      exact h1 i u z
    · have e : i = ms.length := by
        have := (List.getElem?_eq_some_iff.mp z).1
        simp at this
        omega
      rw [e, List.getElem?_append_right (Nat.le_refl _), Nat.sub_self] at z
      cases z
      rw [e, List.take_append_of_le_length (Nat.le_refl _), List.take_length]
      exact h2
theorem OkM.take {n k : Int} {ms : List Mv} (h : OkM n k ms) (j : Nat) : OkM n k (ms.take j) := fun i t z => by
  have lt := (List.getElem?_eq_some_iff.mp z).1
  rw [List.length_take] at lt
  rw [List.getElem?_take_of_lt (by omega)] at z
  rw [List.take_take, Nat.min_eq_left (by omega)]
  exact h i t z
theorem take_snoc {α : Type} {xs : List α} {i : Nat} {x : α} (h : xs[i]? = some x) : xs.take (i + 1) = xs.take i ++ [x] := by
  obtain ⟨lt, eq⟩ := List.getElem?_eq_some_iff.mp h
  rw [List.take_succ_eq_append_getElem lt, eq]
theorem expM_len {n k a : Int} {ms : List Mv} (h : OkM n k ms) : (((expM a ms).length : Nat) : Int) = endM ms ∧ 0 ≤ endM ms ∧ (ms = [] ∨ endM ms ≤ n) := by
  have key : ∀ j, j ≤ ms.length → (((expM a (ms.take j)).length : Nat) : Int) = endM (ms.take j) ∧ 0 ≤ endM (ms.take j) ∧ (ms.take j = [] ∨ endM (ms.take j) ≤ n) := by
    intro j
    induction j with
    | zero => exact fun _ => ⟨rfl, Int.le_refl _, .inl rfl⟩
    | succ j ih =>
      intro hj
      obtain ⟨e1, e2, _⟩ := ih (by omega)
      have hx : ms[j]? = some ms[j] := List.getElem?_eq_getElem (by omega)
      obtain ⟨a1, a2, a3, a4, a5⟩ := h j _ hx
      rw [take_snoc hx, expM_snoc, endM_snoc]
      refine ⟨?_, by omega, .inr (by omega)⟩
      unfold stepE
      simp only [List.length_append, List.length_replicate]
      omega
  have := key ms.length (Nat.le_refl _)
  rw [List.take_length] at this
  exact this
/-- the kept moves tell the same, and stand as they must -/
theorem kept_exp {L : List Int} (a : Int) : ((expM a (keptM L a)).length ≤ L.length ∧ expT a (keptM L a) L.length = L) ∧ ∀ k : Int, (∀ x ∈ L, 0 ≤ x ∧ x ≤ k - 1) → OkM (L.length : Nat) k (keptM L a) ∧ endM (keptM L a) ≤ (L.length : Nat) := by
  have key : ∀ {l : List (Int × Int)} {L : List Int}, Rl l L → ((expM a (keptM L a)).length ≤ L.length ∧ expT a (keptM L a) L.length = L) ∧ ∀ k : Int, (∀ x ∈ L, 0 ≤ x ∧ x ≤ k - 1) → ∀ n : Int, (L.length : Nat) ≤ n → OkM n k (keptM L a) ∧ endM (keptM L a) ≤ (L.length : Nat) := by
    intro l L h
    have step : ∀ (L : List Int) (x : Int) (k : Nat), (∀ y, L.getLast? = some y → y ≠ x) → (((expM a (keptM L a)).length ≤ L.length ∧ expT a (keptM L a) L.length = L) ∧ ∀ k : Int, (∀ x ∈ L, 0 ≤ x ∧ x ≤ k - 1) → ∀ n : Int, (L.length : Nat) ≤ n → OkM n k (keptM L a) ∧ endM (keptM L a) ≤ (L.length : Nat)) →
        (((expM a (keptM (L ++ List.replicate (k + 1) x) a)).length ≤ (L ++ List.replicate (k + 1) x).length ∧ expT a (keptM (L ++ List.replicate (k + 1) x) a) (L ++ List.replicate (k + 1) x).length = L ++ List.replicate (k + 1) x) ∧
          ∀ k' : Int, (∀ y ∈ L ++ List.replicate (k + 1) x, 0 ≤ y ∧ y ≤ k' - 1) → ∀ n : Int, ((L ++ List.replicate (k + 1) x).length : Nat) ≤ n → OkM n k' (keptM (L ++ List.replicate (k + 1) x) a) ∧ endM (keptM (L ++ List.replicate (k + 1) x) a) ≤ ((L ++ List.replicate (k + 1) x).length : Nat)) := by
      rintro L x k hx ⟨⟨i1, i2⟩, i3⟩
      rw [keptM_snoc a hx]
      have len : (L ++ List.replicate (k + 1) x).length = L.length + (k + 1) := by rw [List.length_append, List.length_replicate]
      unfold expT at i2
      by_cases c : x = a
      · subst c
        rw [if_pos rfl, List.append_nil, len]
        refine ⟨⟨by omega, ?_⟩, fun k' hk n hn => ?_⟩
        · unfold expT
          conv => rhs; rw [← i2]
          rw [List.append_assoc, List.replicate_append_replicate]
          congr 2
          omega
        · obtain ⟨o1, o2⟩ := i3 k' (fun y hy => hk y (List.mem_append_left _ hy)) n (by omega)
          exact ⟨o1, by omega⟩
      · rw [if_neg c, len]
        have e : expM a (keptM L a ++ [(((L.length : Nat) : Int), ((L.length : Nat) : Int) + (k : Nat), x)]) = L ++ List.replicate (k + 1) x := by
          rw [expM_snoc]
          unfold stepE
          show expM a (keptM L a) ++ List.replicate (((L.length : Nat) : Int).toNat - (expM a (keptM L a)).length) a ++ List.replicate (((L.length : Nat) : Int) + (k : Nat) + 1 - ((L.length : Nat) : Int)).toNat x = _
          rw [Int.toNat_natCast, i2]
          congr 2
          omega
        refine ⟨⟨by rw [e, len]; omega, ?_⟩, fun k' hk n hn => ?_⟩
        · unfold expT
          rw [e, len, Nat.sub_self]
          simp
        · obtain ⟨o1, o2⟩ := i3 k' (fun y hy => hk y (List.mem_append_left _ hy)) n (by omega)
          have hx2 := hk x (List.mem_append_right _ (by simp [List.replicate_succ]))
          refine ⟨okM_snoc.mpr ⟨o1, o2, by show ((L.length : Nat) : Int) ≤ ((L.length : Nat) : Int) + (k : Nat); omega, by show ((L.length : Nat) : Int) + (k : Nat) ≤ n - 1; omega, hx2.1, hx2.2⟩, ?_⟩
          rw [endM_snoc]
          show ((L.length : Nat) : Int) + (k : Nat) + 1 ≤ _
          omega
    have base : ((expM a (keptM [] a)).length ≤ ([] : List Int).length ∧ expT a (keptM [] a) ([] : List Int).length = []) ∧ ∀ k : Int, (∀ x ∈ ([] : List Int), 0 ≤ x ∧ x ≤ k - 1) → ∀ n : Int, (([] : List Int).length : Nat) ≤ n → OkM n k (keptM [] a) ∧ endM (keptM [] a) ≤ (([] : List Int).length : Nat) := ⟨⟨Nat.le_refl _, rfl⟩, fun k _ n _ => ⟨okM_nil, Int.le_refl _⟩⟩
    induction h with
    | nil => exact base
    | @one x k => exact step [] x k (fun y z => by simp at z) base
    | @snoc l q L x k h2 c ih => exact step L x k (fun y z => by rw [h2.last] at z; cases z; exact c) ih
  obtain ⟨h1, h2⟩ := key (rl_rle L)
  exact ⟨h1, fun k hk => h2 k hk _ (Int.le_refl _)⟩
end K61
set_option Elab.async false
set_option linter.all false
set_option maxRecDepth 100001
set_option maxHeartbeats 3999999
namespace K61
/-! ### where most signs lead -/
def AwayOf (L : List Int) (a : Int) : Prop := a ∈ L ∧ ∀ b ∈ L, L.count b < L.count a ∨ (L.count b = L.count a ∧ a ≤ b)
theorem away_uniq {L : List Int} {a b : Int} (h : AwayOf L a) (h' : AwayOf L b) : a = b := by
  rcases h.2 b h'.1 with h1 | ⟨h1, h2⟩ <;> rcases h'.2 a h.1 with h3 | ⟨h3, h4⟩ <;> omega
theorem away_some {L : List Int} (h : L ≠ []) : ∃ a, AwayOf L a := by
  have key : ∀ S : List Int, S ≠ [] → ∃ a ∈ S, ∀ b ∈ S, L.count b < L.count a ∨ (L.count b = L.count a ∧ a ≤ b) := by
    intro S
    induction S with
    | nil => exact fun z => absurd rfl z
    | cons x r ih =>
      intro _
      by_cases c : r = []
      · subst c
        exact ⟨x, List.mem_cons_self, fun b hb => by rw [List.mem_singleton.mp hb]; exact .inr ⟨rfl, Int.le_refl _⟩⟩
      · obtain ⟨a, ha, hb⟩ := ih c
        by_cases d : L.count x < L.count a ∨ (L.count x = L.count a ∧ a ≤ x)
        · refine ⟨a, List.mem_cons_of_mem _ ha, fun b hb2 => ?_⟩
          rcases List.mem_cons.mp hb2 with rfl | hb2
          · exact d
          · exact hb b hb2
        · refine ⟨x, List.mem_cons_self, fun b hb2 => ?_⟩
          rcases List.mem_cons.mp hb2 with rfl | hb2
          · exact .inr ⟨rfl, Int.le_refl _⟩
          · have := hb b hb2
            omega
  exact key L h
open Classical in
noncomputable def awayF (L : List Int) : Int := if h : ∃ a, AwayOf L a then h.choose else 0
theorem awayF_of {L : List Int} (h : L ≠ []) : AwayOf L (awayF L) := by
  have e := away_some h
  unfold awayF
  rw [dif_pos e]
  exact e.choose_spec
theorem awayF_eq {L : List Int} {a : Int} (h : AwayOf L a) : awayF L = a := away_uniq (awayF_of (fun e => by rw [e] at h; cases h.1)) h
/-- the row in the one form -/
noncomputable def Kr (L : List Int) : Int × List Mv := (awayF L, keptM L (awayF L))
theorem kr_inj {L L' : List Int} (h : Kr L = Kr L') (n : L.length = L'.length) : L = L' := by
  have h1 := congrArg Prod.fst h
  have h2 := congrArg Prod.snd h
  have e1 := (kept_exp (L := L) (awayF L)).1.2
  have e2 := (kept_exp (L := L') (awayF L')).1.2
  rw [← e1, ← e2]
  show expT _ (Kr L).2 _ = expT _ (Kr L').2 _
  rw [h, n]
  show expT (Kr L).1 _ _ = expT (Kr L').1 _ _
  rw [h]
/-! ### rows, each sign so many times -/
def widen (row : List Int) (w : Nat) : List Int := (row.map (List.replicate w)).flatten
theorem widen_snoc (row : List Int) (x : Int) (w : Nat) : widen (row ++ [x]) w = widen row w ++ List.replicate w x := by
  unfold widen
  rw [List.map_append, List.flatten_append]
  simp
theorem widen_len (row : List Int) (w : Nat) : (widen row w).length = row.length * w := by
  induction row with
  | nil => simp [widen]
  | cons x r ih =>
    have e : widen (x :: r) w = List.replicate w x ++ widen r w := rfl
    rw [e, List.length_append, List.length_replicate, ih, List.length_cons, Nat.succ_mul]
    omega
theorem widen_count (row : List Int) (w : Nat) (b : Int) : (widen row w).count b = row.count b * w := by
  induction row with
  | nil => simp [widen]
  | cons x r ih =>
    have e : widen (x :: r) w = List.replicate w x ++ widen r w := rfl
    rw [e, List.count_append, ih, List.count_cons, List.count_replicate]
    by_cases c : x = b
    · subst c
      simp [Nat.add_mul]
      omega
    · have c2 : (x == b) = false := by simpa using c
      simp [c2]
theorem widen_mem {row : List Int} {w : Nat} {b : Int} : b ∈ widen row w → b ∈ row := fun h => by
  obtain ⟨l, hl, hb⟩ := List.mem_flatten.mp h
  obtain ⟨x, hx, rfl⟩ := List.mem_map.mp hl
  rw [(List.mem_replicate.mp hb).2]
  exact hx
theorem widen_away {row : List Int} {w : Nat} {a : Int} (hw : 0 < w) (h : AwayOf row a) : AwayOf (widen row w) a := by
  refine ⟨?_, fun b hb => ?_⟩
  · have := List.count_pos_iff.mpr h.1
    refine List.count_pos_iff.mp ?_
    rw [widen_count]
    exact Nat.mul_pos this hw
  · rw [widen_count, widen_count]
    rcases h.2 b (widen_mem hb) with c | ⟨c, d⟩
    · exact .inl (Nat.mul_lt_mul_of_pos_right c hw)
    · exact .inr ⟨by rw [c], d⟩
theorem widen_at : ∀ (row : List Int) (w s : Nat), 0 < w → (widen row w)[s]? = row[s / w]?
  | [], w, s, _ => by simp [widen]
  | x :: r, w, s, hw => by
    have e : widen (x :: r) w = List.replicate w x ++ widen r w := rfl
    rw [e]
    by_cases c : s < w
    · rw [List.getElem?_append_left (by rw [List.length_replicate]; exact c), List.getElem?_replicate, if_pos c, Nat.div_eq_of_lt c]
      rfl
    · rw [List.getElem?_append_right (by rw [List.length_replicate]; omega), List.length_replicate, widen_at r w (s - w) hw]
      have : s / w = (s - w) / w + 1 := by
        rw [Nat.div_eq_sub_div hw (by omega)]
      rw [this]
      rfl
theorem widen_inj {r r' : List Int} {w : Nat} (hw : 0 < w) (h : widen r w = widen r' w) : r = r' := by
  refine List.ext_getElem? fun i => ?_
  have h1 := widen_at r w (i * w) hw
  have h2 := widen_at r' w (i * w) hw
  rw [Nat.mul_div_cancel _ hw] at h1 h2
  rw [← h1, ← h2, h]
/-- the signs of the i-th stretch -/
theorem take_beh {L : List Int} {i : Nat} {f st : Int} (h : (rle L)[i]? = some (f, st)) : L.take (beh (rle L) (L.length : Nat) i).toNat = L.take f.toNat ++ List.replicate (beh (rle L) (L.length : Nat) i - f).toNat st := by
  obtain ⟨a1, a2, a3, a4⟩ := (rle_p L).at_ i f st h
  refine List.ext_getElem? fun s => ?_
  by_cases c1 : s < f.toNat
  · rw [List.getElem?_append_left (by rw [List.length_take]; omega), List.getElem?_take_of_lt (by omega), List.getElem?_take_of_lt c1]
  · have lf : (L.take f.toNat).length = f.toNat := by rw [List.length_take]; omega
    rw [List.getElem?_append_right (by omega), lf, List.getElem?_replicate]
    by_cases c2 : (s : Int) < beh (rle L) (L.length : Nat) i
    · rw [if_pos (by omega), List.getElem?_take_of_lt (by omega)]
      exact a4 s (by omega) c2
    · rw [if_neg (by omega), List.getElem?_eq_none (by rw [List.length_take]; omega)]
end K61
set_option Elab.async false
set_option linter.all false
set_option maxRecDepth 100001
set_option maxHeartbeats 3999999
namespace K61
open PySem L2
abbrev sIsRow : Stmt := topS 40
abbrev sStr : Stmt := topS 41
abbrev sPut : Stmt := topS 42
abbrev sTold : Stmt := topS 43
abbrev sTarget : Stmt := topS 44
/-- pairs, triples of ints in the heap -/
def PrAt (H : Hp) : List V → List (Int × Int) → Prop := Paired fun v p => ∃ a, v = .ref a ∧ H a = some (.tup [.int p.1, .int p.2])
def TrAt (H : Hp) : List V → List Mv → Prop := Paired fun v p => ∃ a, v = .ref a ∧ H a = some (.tup [.int p.1, .int p.2.1, .int p.2.2])
/-- all but what is at L is as it was -/
def But1 (L : Addr) (H H' : Hp) : Prop := ∀ b o, b ≠ L → H b = some o → H' b = some o
theorem PrAt.but {H H' : Hp} {L : Addr} {xs ts : List V} {l : List (Int × Int)} (h : PrAt H ts l) (hL : H L = some (.lst xs)) (e : But1 L H H') : PrAt H' ts l := Paired.mapP h fun _ _ ⟨a, h1, h2⟩ => ⟨a, h1, e _ _ (ne_of h2 hL fun z => nomatch z) h2⟩
theorem PrAt.same {H H' : Hp} {ts : List V} {l : List (Int × Int)} (h : PrAt H ts l) (e : Same H H') : PrAt H' ts l := Paired.mapP h fun _ _ ⟨a, h1, h2⟩ => ⟨a, h1, e _ _ h2⟩
theorem TrAt.same {H H' : Hp} {ts : List V} {l : List Mv} (h : TrAt H ts l) (e : Same H H') : TrAt H' ts l := Paired.mapP h fun _ _ ⟨a, h1, h2⟩ => ⟨a, h1, e _ _ h2⟩
theorem paired_at {α β : Type} {F : α → β → Prop} : ∀ {ts : List α} {ps : List β} {i : Nat} {v : α}, Paired F ts ps → ts[i]? = some v → ∃ p, ps[i]? = some p ∧ F v p
  | _, _, _, _, .nil, h => by simp at h
  | _, _, 0, _, .cons h _, e => by cases e; exact ⟨_, rfl, h⟩
  | _, _, i + 1, v, .cons _ t, e => paired_at (i := i) t (by simpa using e)
/-- a row that is told: away, and moves -/
def RowAt (H : Hp) (v : V) (a : Int) (ms : List Mv) : Prop := ∃ t u ts, v = .ref t ∧ H t = some (.tup [.int a, .ref u]) ∧ LT H u ts ∧ TrAt H ts ms
theorem RowAt.same {H H' : Hp} {v : V} {a : Int} {ms : List Mv} (h : RowAt H v a ms) (e : Same H H') : RowAt H' v a ms := let ⟨t, u, ts, h1, h2, h3, h4⟩ := h; ⟨t, u, ts, h1, e _ _ h2, h3.same e, h4.same e⟩
section
variable {P : Program} {w : World} {K : PySem.W.Frag} {mg : Str → Option Value} {base : Heap}
def spList : Sp := fun vs H Q _ => ∃ u ts, vs = [.ref u] ∧ LT H u ts ∧ ∀ H', Same H H' → Q (.bl true) H'
theorem scList : FnScope ["value"] ["value"] (defScope sList) := ⟨rfl, rfl, rfl, by decide +kernel, rfl, by decide +kernel, by decide +kernel⟩
def spIsRow : Sp := fun vs H Q _ => ∃ (v : V) (n k a : Int) (ms : List Mv), vs = [v, .int n, .int k] ∧ RowAt H v a ms ∧ OkM n k ms ∧ 0 ≤ a ∧ a ≤ k - 1 ∧ ∀ H', Same H H' → Q (.bl true) H'
theorem scIsRow : FnScope ["row", "signs", "states", "least", "move", "first", "last", "state"] ["row", "signs", "states"] (defScope sIsRow) := ⟨rfl, rfl, rfl, by decide +kernel, rfl, by decide +kernel, by decide +kernel⟩
theorem btw_t {i lo hi : Int} (h1 : lo ≤ i) (h2 : i ≤ hi) : btw (.int i) lo hi = true := decide_eq_true ⟨h1, h2⟩
theorem ok_isRow {f : Addr} {fd : FuncData} (F : Fun K "is_row" "is_row" sIsRow f fd) (B : Bi mg) (cT : Cal CX0 P w K mg base 1 "is_tuple_of" spTupOf) (cB : Cal CX0 P w K mg base 2 "is_between" spBetween) (cL : Cal CX0 P w K mg base 1 "is_list" spList) : FnOk P w K mg base CX0 3 f fd ["row", "signs", "states"] spIsRow := by
  refine F.ok scIsRow (fun vs H Q E h => ?_) (fun cdv A outer s H vs Q E hr h => ?_)
  · obtain ⟨v, n, k, a, ms, rfl, _⟩ := h
    rfl
  · obtain ⟨v, n, k, a, ms, rfl, ⟨t, u, ts, rfl, ht, hu, hts⟩, ok, a1, a2, q⟩ := h
    refine ⟨_, pss_cons (ps_if (PW.pt (pw_or (pt_not (pt_val (pe_c cT hr pass0 (pa_cons (pv 0) (pa_cons pe_int pa_nil))))) (pw_or (pt_not (pt_val (pe_c cB hr pass0 (pa_cons (pe_ix ix_tup (pv 0) pe_int (fun _ _ => rfl)) (pa_cons pe_int (pa_cons (pe_op op_sub (pv 2) pe_int) pa_nil))))))
          (pw_or1 (pt_not (pt_val (pe_c cL hr pass0 (pa_cons (pe_ix ix_tup (pv 0) pe_int (fun _ _ => rfl)) pa_nil)))))))) pss_never pss_nil)
      (pss_cons (ps_set (i := 3) scIsRow.nd rfl (Or.inl rfl) pe_int)
      (pss_cons (ps_for PassesOwn.never rfl (pi_sqA (pe_ix ix_tup (pv 0) pe_int (fun _ _ => rfl))) (pg_name (i := 4) scIsRow.nd rfl (.inl rfl))
        (pss_cons (ps_if (pt_not (pt_val (pe_c cT hr pass0 (pa_cons (pv 4) (pa_cons pe_int pa_nil))))) pss_never pss_nil)
        (pss_cons (ps_asg (pv 4) (pg_tup rfl (pgs_cons (pg_name (i := 5) scIsRow.nd rfl (.inl rfl)) (pgs_cons (pg_name (i := 6) scIsRow.nd rfl (.inl rfl)) (pgs_cons (pg_name (i := 7) scIsRow.nd rfl (.inl rfl)) pgs_nil)))))
        (pss_cons (ps_if (PW.pt (pw_or (pt_not (pt_val (pe_c cB hr pass0 (pa_cons (pv 5) (pa_cons (pv 3) (pa_cons (pe_op op_sub (pv 1) pe_int) pa_nil)))))) (pw_or1 (pt_not (pt_val (pe_c cB hr pass0 (pa_cons (pv 6) (pa_cons (pv 5) (pa_cons (pe_op op_sub (pv 1) pe_int) pa_nil))))))))) pss_never pss_nil)
        (pss_cons (ps_if (pt_not (pt_val (pe_c cB hr pass0 (pa_cons (pv 7) (pa_cons pe_int (pa_cons (pe_op op_sub (pv 2) pe_int) pa_nil)))))) pss_never pss_nil)
        (pss_one (ps_set (i := 3) scIsRow.nd rfl (Or.inl rfl) (pe_op op_add (pv 6) pe_int))))))))
      (pss_one (ps_ret pe_bl)))), ?_⟩
    have kt : Kn H (.ref t) := .tup ht
    refine ⟨_, rfl, .ref t, 2, rfl, kt, _, rfl, ?_⟩
    rw [show isTn H (.ref t) 2 = true by simp [isTn, ht]]
    refine iteF ?_
    refine ⟨_, rfl, t, _, 0, .int a, rfl, rfl, SqT.of ht, rfl, _, rfl, _, _, rfl, rfl, .int a, 0, k - 1, rfl, .int a, _, rfl, ?_⟩
    rw [btw_t a1 a2]
    refine iteF ?_
    refine ⟨_, rfl, t, _, 1, .ref u, rfl, rfl, SqT.of ht, rfl, u, ts, rfl, hu, fun HX eX => ?_⟩
    refine ⟨_, rfl, ?_⟩
    refine iteF ?_
    have ht := eX _ _ ht
    have hu := hu.same eX
    have hts := hts.same eX
    have q := q _ eX
    clear eX kt
    refine ⟨_, rfl, t, _, 1, .ref u, rfl, rfl, SqT.of ht, rfl, u, ts, rfl, hu.sq, fun J G wk hG => for_it wk (fun i σ H' => ∃ (b c d e : Option V), σ = [some (.ref t), some (.int n), some (.int k), some (.int (endM (ms.take i))), b, c, d, e] ∧ H' = HX) ⟨none, none, none, none, rfl, rfl⟩ (fun i σ H' _ ⟨_, _, _, _, _, e⟩ => hG H' fun o z => by rw [e]; exact z) ?_ ?_⟩
    · rintro i x σ H1 H2 hi ⟨b, c, d, e, rfl, rfl⟩ ⟨rfl, hx⟩
      obtain ⟨m, hm, x0, rfl, hx0⟩ := paired_at hts hx
      obtain ⟨f, l, s⟩ := m
      obtain ⟨o1, o2, o3, o4, o5⟩ := ok i _ hm
      refine ⟨_, rfl, .ref x0, 3, rfl, .tup hx0, _, rfl, ?_⟩
      rw [show isTn H2 (.ref x0) 3 = true by simp [isTn, hx0]]
      refine iteF ?_
      refine ⟨_, rfl, x0, _, rfl, SqT.of hx0, rfl, _, _, rfl, _, _, rfl, _, _, rfl, rfl, ?_⟩
      refine ⟨_, rfl, _, rfl, _, rfl, _, _, rfl, rfl, .int f, _, n - 1, rfl, .int f, _, rfl, ?_⟩
      rw [btw_t o1 (by show f ≤ n - 1; have : f ≤ l := o2; have : l ≤ n - 1 := o3; omega)]
      refine iteF ?_
      refine ⟨_, rfl, _, rfl, _, rfl, _, _, rfl, rfl, .int l, f, n - 1, rfl, .int l, _, rfl, ?_⟩
      rw [btw_t o2 o3]
      refine iteF ?_
      refine ⟨_, rfl, _, rfl, _, _, rfl, rfl, .int s, 0, k - 1, rfl, .int s, _, rfl, ?_⟩
      rw [btw_t o4 o5]
      refine iteF ?_
      refine ⟨_, rfl, _, _, rfl, rfl, some (.ref x0), some (.int f), some (.int l), some (.int s), ?_, rfl⟩
      rw [take_snoc hm, endM_snoc]
      rfl
    · rintro σ H1 ⟨b, c, d, e, rfl, rfl⟩
      exact q
/-- put_stretch(told, first, state) -/
def spPut : Sp := fun vs H Q _ => ∃ (L : Addr) (f s : Int) (ts : List V) (l : List (Int × Int)), vs = [.ref L, .int f, .int s] ∧ H L = some (.lst ts) ∧ PrAt H ts l ∧ ts.length ≤ 10000 ∧ ∀ H' ts', But1 L H H' → H' L = some (.lst ts') → PrAt H' ts' (put l f s) → Q .non H'
theorem scPut : FnScope ["told", "first", "state"] ["told", "first", "state"] (defScope sPut) := ⟨rfl, rfl, rfl, by decide +kernel, rfl, by decide +kernel, by decide +kernel⟩
theorem ok_put {f : Addr} {fd : FuncData} (F : Fun K "put_stretch" "put_stretch" sPut f fd) : FnOk P w K mg base CX0 1 f fd ["told", "first", "state"] spPut := by
  refine F.ok scPut (fun vs H Q E h => ?_) (fun cdv A outer s H vs Q E hr h => ?_)
  · obtain ⟨L, f, s, ts, l, rfl, _⟩ := h
    rfl
  · obtain ⟨L, f, st, ts, l, rfl, hL, pr, len, q⟩ := h
    refine ⟨_, pss_one (ps_if (PW.pt (pw_or (pt_not (pt_truth (pv 0) (by intro _; rfl))) (pw_or1 (pt_cmpR op_ne (pe_ix ix_tup (pe_ix ix_list (pv 0) (pe_un un_neg pe_int) (fun _ _ => rfl)) pe_int (fun _ _ => rfl)) (pv 2) (nomark _)))))
      (pss_one (ps_expr (pe_bm PySem.F.plainAttrs_list PySem.F.slot_list_append PySem.F.type_list_append mt_append (pv 0) (pa_cons (pe_tup (pa_cons (pv 1) (pa_cons (pv 2) pa_nil))) pa_nil)))) pss_nil), ?_⟩
    have fin : put l f st = l ++ [(f, st)] → tDrop (tBM K "list" rAppend (tVar 0) (tCons (tTup (tCons (tVar 1) (tCons (tVar 2) tNil))) tNil)) { nx := fun _ H' => Q .non H', rt := Q } [some (.ref L), some (.int f), some (.int st)] H := fun e => by
      refine ⟨_, rfl, .inl ⟨rfl, _, SqL.of hL⟩, _, rfl, _, rfl, by show 2 ≤ sizeLine; decide, fun t nt => ⟨L, ts, _, rfl, rfl, (upd_ne (ne_of_none hL nt)).trans hL, small10 len, ?_⟩⟩
      have ntL : t ≠ L := Ne.symm (ne_of_none hL nt)
      have e1 : But1 L H (upd (upd H t (.tup [.int f, .int st])) L (.lst (ts ++ [.ref t]))) := fun b o n z => by
        rw [upd_ne n, upd_ne (ne_of_none z nt)]
        exact z
      refine q _ _ e1 upd_same ?_
      rw [e]
      exact Paired.snoc (pr.but hL e1) ⟨t, rfl, (upd_ne ntL).trans upd_same⟩
    rcases List.eq_nil_or_concat l with rfl | ⟨l, p, rfl⟩
    · cases pr
      refine ⟨_, rfl, false, .inl ⟨[], SqL.of hL, rfl⟩, ?_⟩
      refine iteT ?_
      refine iteT ?_
      exact fin rfl
    · rw [List.concat_eq_append] at pr fin q
      obtain ⟨us, v, rfl, pu, a0, rfl, ha0⟩ := paired_last pr
      refine ⟨_, rfl, true, .inl ⟨us ++ [V.ref a0], SqL.of hL, by cases us <;> rfl⟩, ?_⟩
      refine iteF ?_
      have two : atI [V.int p.1, V.int p.2] 1 = some (V.int p.2) := rfl
      refine ⟨_, rfl, _, rfl, L, _, _, _, rfl, rfl, SqL.of hL, atI_last us (V.ref a0), a0, _, _, _, rfl, rfl, SqT.of ha0, two, _, rfl, rfl, _, rfl, ?_⟩
      rw [dec_int]
      by_cases c : p.2 = st
      · rw [show (p.2 == st) = true by simpa using c]
        refine iteF ?_
        refine q H (us ++ [V.ref a0]) (fun _ _ _ z => z) hL ?_
        obtain ⟨p1, p2⟩ := p
        cases c
        rw [put_same]
        exact pr
      · rw [show (p.2 == st) = false by simpa using c]
        refine iteT ?_
        exact fin (put_new c)
/-- target_of(row, sign) -/
def spTarget : Sp := fun vs H Q _ => ∃ (t : Addr) (ts : List V) (L : List Int) (s : Nat) (st : Int), vs = [.ref t, .int (s : Nat)] ∧ H t = some (.tup ts) ∧ PrAt H ts (rle L) ∧ ts.length ≤ 10000 ∧ L[s]? = some st ∧ Q (.int st) H
theorem scTarget : FnScope ["row", "sign", "low", "high", "middle"] ["row", "sign"] (defScope sTarget) := ⟨rfl, rfl, rfl, by decide +kernel, rfl, by decide +kernel, by decide +kernel⟩
theorem ok_target {f : Addr} {fd : FuncData} (F : Fun K "target_of" "target_of" sTarget f fd) (B : Bi mg) : FnOk P w K mg base CX0 1 f fd ["row", "sign"] spTarget := by
  refine F.ok scTarget (fun vs H Q E h => ?_) (fun cdv A outer s H vs Q E hr h => ?_)
  · obtain ⟨t, ts, L, s, st, rfl, _⟩ := h
    rfl
  · obtain ⟨t, ts, L, sg, st, rfl, ht, pr, len, hs, q⟩ := h
    refine ⟨_, pss_cons (ps_par (i := 2) (j := 3) rfl scTarget.nd rfl rfl (by decide) rfl rfl (pa_cons pe_int (pa_cons (pe_len B.len (pa_cons (pv 0) pa_nil)) pa_nil)) rfl)
      (pss_cons (ps_while PassesOwn.never (pt_cmpR op_gt (pe_op op_sub (pv 3) (pv 2)) pe_int (nomark _))
        (pss_cons (ps_set (i := 4) scTarget.nd rfl (Or.inl rfl) (pe_op op_fdiv (pe_op op_add (pv 2) (pv 3)) pe_int))
        (pss_one (ps_if (pt_cmpR op_le (pe_ix ix_tup (pe_ix ix_tup (pv 0) (pv 4) (fun _ _ => rfl)) pe_int (fun _ _ => rfl)) (pv 1) (nomark _)) (pss_one (ps_set (i := 2) scTarget.nd rfl (Or.inl rfl) (pv 4))) (pss_one (ps_set (i := 3) scTarget.nd rfl (Or.inl rfl) (pv 4)))))))
      (pss_one (ps_ret (pe_ix ix_tup (pe_ix ix_tup (pv 0) (pv 2) (fun _ _ => rfl)) pe_int (fun _ _ => rfl))))), ?_⟩
    have P0 := rle_p L
    have plen : ts.length = (rle L).length := Paired.length pr
    have hsl := (List.getElem?_eq_some_iff.mp hs).1
    have ne : rle L ≠ [] := P0.some_ (fun e => by rw [e] at hsl; exact absurd hsl (Nat.not_lt_zero _))
    have pos : 0 < ts.length := by rw [plen]; exact List.length_pos_iff.mpr ne
    have item : ∀ i : Nat, i < ts.length → ∃ (p : Int × Int) (a : Addr), (rle L)[i]? = some p ∧ ts[i]? = some (.ref a) ∧ H a = some (.tup [.int p.1, .int p.2]) := fun i hi => by
      obtain ⟨p, hp, a, ea, ha⟩ := paired_at pr (List.getElem?_eq_getElem hi)
      exact ⟨p, a, hp, by rw [List.getElem?_eq_getElem hi, ea], ha⟩
    refine ⟨_, rfl, t, ts, rfl, .inr (SqT.of ht), _, _, rfl, ?_⟩
    refine while_by (fun σ H' => ∃ (lo hi : Nat) (a : Option V), σ = [some (.ref t), some (.int (sg : Nat)), some (.int (lo : Nat)), some (.int (hi : Nat)), a] ∧ H' = H ∧ lo < hi ∧ hi ≤ ts.length ∧ (∀ p, (rle L)[lo]? = some p → p.1 ≤ (sg : Nat)) ∧ (hi < ts.length → ∀ p, (rle L)[hi]? = some p → ((sg : Nat) : Int) < p.1))
      (fun σ _ => match σ with | [_, _, some (.int lo), some (.int hi), _] => (hi - lo).toNat | _ => 0) ⟨0, ts.length, none, rfl, rfl, pos, Nat.le_refl _, fun p hp => ?_, fun z => absurd z (Nat.lt_irrefl _)⟩ ?_ ?_
    · have := P0.zero p hp
      omega
    · rintro σ H1 ⟨lo, hi, a, rfl, rfl, h1, h2, h3, h4⟩
      refine ⟨_, rfl, _, rfl, _, _, rfl, rfl, _, _, rfl, rfl, _, rfl, ?_⟩
      by_cases c : (1 : Int) < (hi : Nat) - (lo : Nat)
      · rw [decide_eq_true c]
        refine iteT ?_
        refine ⟨_, rfl, _, rfl, _, _, rfl, rfl, _, _, rfl, rfl, ⟨by decide, by decide⟩, ?_⟩
        obtain ⟨mid, em⟩ := Int.eq_ofNat_of_zero_le (show (0 : Int) ≤ (((lo : Nat) : Int) + ((hi : Nat) : Int)) / 2 by omega)
        have m1 : lo < mid := by omega
        have m2 : mid < hi := by omega
        rw [show (fun i j : Int => V.int (i / j)) (((lo : Nat) : Int) + ((hi : Nat) : Int)) 2 = V.int (mid : Nat) from congrArg V.int em]
        obtain ⟨p, x, hp, hx, hh⟩ := item mid (by omega)
        have one : atI [V.int p.1, V.int p.2] 0 = some (V.int p.1) := rfl
        refine ⟨_, rfl, _, rfl, t, ts, _, .ref x, rfl, rfl, SqT.of ht, atI_nat hx, x, _, _, _, rfl, rfl, SqT.of hh, one, _, rfl, _, _, rfl, rfl, _, rfl, ?_⟩
        by_cases d : p.1 ≤ ((sg : Nat) : Int)
        · rw [decide_eq_true d]
          refine iteT ⟨_, rfl, ⟨mid, hi, _, rfl, rfl, m2, h2, fun p' hp' => ?_, h4⟩, ?_⟩
          · rw [hp] at hp'
            cases hp'
            exact d
          · show (((hi : Nat) : Int) - ((mid : Nat) : Int)).toNat < (((hi : Nat) : Int) - ((lo : Nat) : Int)).toNat
            omega
        · rw [decide_eq_false d]
          refine iteF ⟨_, rfl, ⟨lo, mid, _, rfl, rfl, m1, by omega, h3, fun _ p' hp' => ?_⟩, ?_⟩
          · rw [hp] at hp'
            cases hp'
            omega
          · show (((mid : Nat) : Int) - ((lo : Nat) : Int)).toNat < (((hi : Nat) : Int) - ((lo : Nat) : Int)).toNat
            omega
      · rw [decide_eq_false c]
        refine iteF ?_
        have e : hi = lo + 1 := by omega
        obtain ⟨p, x, hp, hx, hh⟩ := item lo (by omega)
        have two : atI [V.int p.1, V.int p.2] 1 = some (V.int p.2) := rfl
        refine ⟨_, rfl, _, rfl, t, ts, _, .ref x, rfl, rfl, SqT.of ht, atI_nat hx, x, _, _, _, rfl, rfl, SqT.of hh, two, ?_⟩
        obtain ⟨a1, a2, a3, a4⟩ := P0.at_ lo p.1 p.2 hp
        have e2 : L[sg]? = some p.2 := by
          refine a4 sg (h3 p hp) ?_
          unfold beh
          cases z : (rle L)[lo + 1]? with
          | none => show ((sg : Nat) : Int) < (L.length : Nat); omega
          | some p2 =>
            have lt := (List.getElem?_eq_some_iff.mp z).1
            exact h4 (by omega) p2 (by rw [e]; exact z)
        rw [hs] at e2
        rw [← Option.some.inj e2]
        exact q
    · exact fun σ H Q Q' m ⟨v, h1, u, h2, i, j, e1, e2, i2, j2, e3, e4, b, e5, x⟩ => ⟨v, h1, u, h2, i, j, e1, e2, i2, j2, e3, e4, b, e5, m _ _ x⟩
end
end K61
set_option Elab.async false
set_option linter.all false
set_option maxRecDepth 100001
set_option maxHeartbeats 3999999
namespace K61
open PySem L2
theorem put_len (l : List (Int × Int)) (f s : Int) : (put l f s).length ≤ l.length + 1 := by
  rcases List.eq_nil_or_concat l with rfl | ⟨l, q, rfl⟩
  · exact Nat.le_refl _
  · rw [List.concat_eq_append]
    by_cases c : q.2 = s
    · obtain ⟨a, b⟩ := q
      cases c
      rw [put_same]
      omega
    · rw [put_new c]
      simp
theorem rle_len (L : List Int) : (rle L).length ≤ L.length := by
  have key : ∀ (M : List Int) (a : List (Int × Int) × Int), (M.foldl rleF a).1.length ≤ a.1.length + M.length := by
    intro M
    induction M with
    | nil => exact fun a => Nat.le_refl _
    | cons x M ih =>
      intro a
      have h1 := ih (rleF a x)
      have h2 := put_len a.1 a.2 x
      rw [List.foldl_cons, List.length_cons]
      show (List.foldl rleF (rleF a x) M).1.length ≤ _
      have h3 : (rleF a x).1.length ≤ a.1.length + 1 := h2
      omega
  have := key L ([], 0)
  simpa [rle] using this
/-- the first put of a turn -/
theorem put_away (E : List Int) (a f : Int) (h : ((E.length : Nat) : Int) < f) : put (rle E) (E.length : Nat) a = rle (E ++ List.replicate (f.toNat - E.length) a) := by
  have e : f.toNat - E.length = (f.toNat - E.length - 1) + 1 := by omega
  rw [e, rle_rep]
theorem put_state (E : List Int) (f l s : Int) (h : ((E.length : Nat) : Int) = f) (h2 : f ≤ l) : put (rle E) f s = rle (E ++ List.replicate (l + 1 - f).toNat s) := by
  have e : (l + 1 - f).toNat = (l - f).toNat + 1 := by omega
  rw [e, rle_rep, h]
section
variable {P : Program} {w : World} {K : PySem.W.Frag} {mg : Str → Option Value} {base : Heap}
theorem ok_list {f : Addr} {fd : FuncData} (F : Fun K "is_list" "is_list" sList f fd) (B : Bi mg) : FnOk P w K mg base CX0 1 f fd ["value"] spList := by
  refine F.ok scList (fun vs H Q E h => ?_) (fun cdv A outer s H vs Q E hr h => ?_)
  · obtain ⟨u, ts, rfl, _⟩ := h
    rfl
  · obtain ⟨u, ts, rfl, hu, q⟩ := h
    refine ⟨_, pss_one (ps_ret (pe_callB call_isiT rfl B.isi PyProof.Rows.boot_isinstance (pa_cons (pv 0) (pa_cons (pe_tup (pa_cons (pe_ty "list" B.list) (pa_cons (pe_ty "tuple" B.tuple) pa_nil))) pa_nil)))), ?_⟩
    refine ⟨_, rfl, by show 2 ≤ sizeLine; decide, fun tp ntp => ?_⟩
    have e := same_new (o := .tup [.ty "list", .ty "tuple"]) ntp
    obtain ⟨_, _, g3, g4, _⟩ := kt_tup (K := K)
    obtain ⟨_, _, _, h4, _⟩ := kt_lst (K := K)
    rcases hu with h | h
    · exact ⟨.ref u, tp, _, .type "list", [.type "list", .type "tuple"], true, rfl, upd_same, .cons (.ty "list") (.cons (.ty "tuple") .nil), .base (.lst (e _ _ h)), kitAny_cons h4 (fun z => nomatch z) (fun _ => rfl), q _ e⟩
    · exact ⟨.ref u, tp, _, .type "tuple", [.type "list", .type "tuple"], true, rfl, upd_same, .cons (.ty "list") (.cons (.ty "tuple") .nil), .base (.tup (e _ _ h)), kitAny_cons g4 (fun _ => kitAny_cons g3 (fun z => nomatch z) (fun _ => rfl)) (fun z => nomatch z), q _ e⟩
/-- stretch_row(away, moves, signs) -/
def spStr : Sp := fun vs H Q _ => ∃ (a : Int) (u : Addr) (n : Nat) (k : Int) (ts : List V) (ms : List Mv), vs = [.int a, .ref u, .int (n : Nat)] ∧ LT H u ts ∧ TrAt H ts ms ∧ OkM (n : Nat) k ms ∧ n ≤ 5000 ∧
  ∀ t H' rs, Same H H' → H t = none → H' t = some (.tup rs) → PrAt H' rs (rle (expT a ms n)) → Q (.ref t) H'
theorem scStr : FnScope ["away", "moves", "signs", "told", "least", "first", "last", "state"] ["away", "moves", "signs"] (defScope sStr) := ⟨rfl, rfl, rfl, by decide +kernel, rfl, by decide +kernel, by decide +kernel⟩
theorem ok_str {f : Addr} {fd : FuncData} (F : Fun K "stretch_row" "stretch_row" sStr f fd) (B : Bi mg) (cP : Cal CX0 P w K mg base 1 "put_stretch" spPut) : FnOk P w K mg base CX0 2 f fd ["away", "moves", "signs"] spStr := by
  refine F.ok scStr (fun vs H Q E h => ?_) (fun cdv A outer s H vs Q E hr h => ?_)
  · obtain ⟨a, u, n, k, ts, ms, rfl, _⟩ := h
    rfl
  · obtain ⟨a, u, n, k, ts, ms, rfl, hu, hts, ok, hn, q⟩ := h
    refine ⟨_, pss_cons (ps_set (i := 3) scStr.nd rfl (Or.inl rfl) (pe_lst pa_nil)) (pss_cons (ps_set (i := 4) scStr.nd rfl (Or.inl rfl) pe_int)
      (pss_cons (ps_for PassesOwn.never rfl (pi_sqA (pv 1)) (pg_tup rfl (pgs_cons (pg_name (i := 5) scStr.nd rfl (.inl rfl)) (pgs_cons (pg_name (i := 6) scStr.nd rfl (.inl rfl)) (pgs_cons (pg_name (i := 7) scStr.nd rfl (.inl rfl)) pgs_nil))))
        (pss_cons (ps_if (pt_cmpR op_gt (pv 5) (pv 4) (nomark _)) (pss_one (ps_expr (pe_c cP hr pass0 (pa_cons (pv 3) (pa_cons (pv 4) (pa_cons (pv 0) pa_nil)))))) pss_nil)
        (pss_cons (ps_expr (pe_c cP hr pass0 (pa_cons (pv 3) (pa_cons (pv 5) (pa_cons (pv 7) pa_nil)))))
        (pss_one (ps_set (i := 4) scStr.nd rfl (Or.inl rfl) (pe_op op_add (pv 6) pe_int))))))
      (pss_cons (ps_if (pt_cmpR op_lt (pv 4) (pv 2) (nomark _)) (pss_one (ps_expr (pe_c cP hr pass0 (pa_cons (pv 3) (pa_cons (pv 4) (pa_cons (pv 0) pa_nil)))))) pss_nil)
      (pss_one (ps_ret (pe_tupleOf rfl B.tuple (pv 3))))))), ?_⟩
    refine ⟨Nat.zero_le _, fun L nL => ?_⟩
    have uL : u ≠ L := hu.elim (fun h => ne_of_none h nL) fun h => ne_of_none h nL
    have hu0 : LT (upd H L (.lst [])) u ts := hu.same (same_new nL)
    have small : ∀ {E : List Int} {rs : List V} {H' : Hp}, PrAt H' rs (rle E) → ((E.length : Nat) : Int) ≤ (n : Nat) → rs.length ≤ 10000 := fun {E rs H'} pr hE => by
      have h1 := Paired.length pr
      have h2 := rle_len E
      omega
    refine ⟨_, rfl, u, ts, rfl, hu0.sq, fun J G wk hG => for_it wk (fun i σ H' => ∃ (b c d : Option V) (rs : List V), σ = [some (.int a), some (.ref u), some (.int (n : Nat)), some (.ref L), some (.int (endM (ms.take i))), b, c, d] ∧ Same H H' ∧ H' L = some (.lst rs) ∧ PrAt H' rs (rle (expM a (ms.take i))))
      ⟨none, none, none, [], rfl, same_new nL, upd_same, .nil⟩ (fun i σ H' _ ⟨_, _, _, _, _, e, _⟩ => hG H' fun o z => ?_) ?_ ?_⟩
    · rw [upd_ne uL] at z
      exact e _ _ z
    · rintro i x σ H1 H2 hi ⟨b, c, d, rs, rfl, e, hL, pr⟩ ⟨rfl, hx⟩
      obtain ⟨m, hm, x0, rfl, hx0⟩ := paired_at hts hx
      obtain ⟨f, l, st⟩ := m
      obtain ⟨o1, o2, o3, o4, o5⟩ := ok i _ hm
      have o1 : endM (ms.take i) ≤ f := o1
      have o2 : f ≤ l := o2
      have o3 : l ≤ ((n : Nat) : Int) - 1 := o3
      obtain ⟨l1, l2, _⟩ := expM_len (a := a) (ok.take i)
      refine ⟨x0, _, rfl, SqT.of (e _ _ hx0), rfl, _, _, rfl, _, _, rfl, _, _, rfl, rfl, ?_⟩
      have fin : ∀ (E1 : List Int) (H4 : Hp) (rs4 : List V), E1 ++ List.replicate (l + 1 - f).toNat st = expM a (ms.take (i + 1)) → ((E1.length : Nat) : Int) = f → Same H H4 → H4 L = some (.lst rs4) → PrAt H4 rs4 (put (rle E1) f st) →
          ∃ (b c d : Option V) (rs : List V), [some (V.int a), some (.ref u), some (.int (n : Nat)), some (.ref L), some (.int (l + 1)), some (.int f), some (.int l), some (.int st)] = [some (.int a), some (.ref u), some (.int (n : Nat)), some (.ref L), some (.int (endM (ms.take (i + 1)))), b, c, d] ∧ Same H H4 ∧ H4 L = some (.lst rs) ∧ PrAt H4 rs (rle (expM a (ms.take (i + 1)))) := by
        intro E1 H4 rs4 hE hl e4 hL4 pr4
        refine ⟨some (.int f), some (.int l), some (.int st), rs4, ?_, e4, hL4, ?_⟩
        · rw [take_snoc hm, endM_snoc]
        · rw [put_state E1 f l st hl o2, hE] at pr4
          exact pr4
      have step : expM a (ms.take (i + 1)) = expM a (ms.take i) ++ List.replicate (f.toNat - (expM a (ms.take i)).length) a ++ List.replicate (l + 1 - f).toNat st := by
        rw [take_snoc hm, expM_snoc]
        rfl
      refine ⟨_, rfl, _, rfl, _, _, rfl, rfl, _, rfl, ?_⟩
      by_cases c1 : endM (ms.take i) < f
      · rw [decide_eq_true c1]
        refine iteT ⟨_, rfl, _, rfl, _, rfl, L, _, a, rs, _, rfl, hL, pr, small pr (by omega), fun H3 rs3 b3 hL3 pr3 => ?_⟩
        rw [← l1, put_away _ a f (by omega)] at pr3
        have e3 : Same H H3 := fun b o z => b3 _ _ (ne_of_none z nL) (e _ _ z)
        have len3 : (((expM a (ms.take i) ++ List.replicate (f.toNat - (expM a (ms.take i)).length) a).length : Nat) : Int) = f := by rw [List.length_append, List.length_replicate]; omega
        refine ⟨_, rfl, _, rfl, _, rfl, L, f, st, rs3, _, rfl, hL3, pr3, small pr3 (by omega), fun H4 rs4 b4 hL4 pr4 => ?_⟩
        exact ⟨_, rfl, _, _, rfl, rfl, fin _ H4 rs4 step.symm len3 (fun b o z => b4 _ _ (ne_of_none z nL) (e3 _ _ z)) hL4 pr4⟩
      · rw [decide_eq_false c1]
        refine iteF ?_
        have z0 : f.toNat - (expM a (ms.take i)).length = 0 := by omega
        rw [z0] at step
        refine ⟨_, rfl, _, rfl, _, rfl, L, f, st, rs, _, rfl, hL, pr, small pr (by omega), fun H4 rs4 b4 hL4 pr4 => ?_⟩
        exact ⟨_, rfl, _, _, rfl, rfl, fin _ H4 rs4 (by rw [step]; simp) (by omega) (fun b o z => b4 _ _ (ne_of_none z nL) (e _ _ z)) hL4 pr4⟩
    · rintro σ H1 ⟨b, c, d, rs, rfl, e, hL, pr⟩
      have em : ms.take ts.length = ms := by
        rw [Paired.length hts, List.take_length]
      rw [em] at pr
      obtain ⟨l1, l2, l3⟩ := expM_len (a := a) ok
      have l4 : endM ms ≤ (n : Nat) := by
        rcases l3 with z | z
        · rw [z]
          show (0 : Int) ≤ _
          omega
        · exact z
      have fin : ∀ (H3 : Hp) (rs3 : List V), Same H H3 → H3 L = some (.lst rs3) → PrAt H3 rs3 (rle (expT a ms n)) → ∀ t, H3 t = none → Q (.ref t) (upd H3 t (.tup rs3)) := fun H3 rs3 e3 hL3 pr3 t nt => q t _ rs3 (e3.trans (same_new nt)) (e3.free nt) upd_same (pr3.same (same_new nt))
      rw [em]
      refine ⟨_, rfl, _, rfl, _, _, rfl, rfl, _, rfl, ?_⟩
      by_cases c1 : endM ms < (n : Nat)
      · rw [decide_eq_true c1]
        refine iteT ⟨_, rfl, _, rfl, _, rfl, L, _, a, rs, _, rfl, hL, pr, small pr (by omega), fun H3 rs3 b3 hL3 pr3 => ?_⟩
        rw [← l1, put_away _ a (n : Nat) (by omega), Int.toNat_natCast] at pr3
        exact ⟨_, rfl, .inl ⟨L, rs3, rfl, SqL.of hL3, fin H3 rs3 (fun b o z => b3 _ _ (ne_of_none z nL) (e _ _ z)) hL3 pr3⟩⟩
      · rw [decide_eq_false c1]
        refine iteF ?_
        have z0 : n - (expM a ms).length = 0 := by omega
        refine ⟨_, rfl, .inl ⟨L, rs, rfl, SqL.of hL, fin H1 rs e hL ?_⟩⟩
        unfold expT
        rw [z0]
        simpa using pr
end
end K61
set_option Elab.async false
set_option linter.all false
set_option maxRecDepth 100001
set_option maxHeartbeats 3999999
namespace K61
open PySem L2
/-! ### how often each state is led to -/
structure Cnt (kvs : List (Key × V)) (M : List Int) : Prop where
  val : ∀ s : Int, valV kvs (.inl s) = if s ∈ M then some (.int (M.count s : Nat)) else none
  ent : ∀ e ∈ kvs, ∃ s : Int, s ∈ M ∧ e = (.inl s, .int (M.count s : Nat))
  has : ∀ s : Int, s ∈ M → ((.inl s : Key), V.int (M.count s : Nat)) ∈ kvs
theorem cnt_nil : Cnt [] [] := ⟨fun s => rfl, (fun _ z => nomatch z), (fun _ z => nomatch z)⟩
theorem mem_putK {kvs : List (Key × V)} {k : Key} {v : V} {e : Key × V} : e ∈ putK kvs k v ↔ e = (k, v) ∨ (e ∈ kvs ∧ e.1 ≠ k) := by
  unfold putK
  by_cases a : (kvs.any fun kv => decide (kv.1 = k)) = true
  · rw [if_pos a]
    constructor
    · intro h
      obtain ⟨p, hp, rfl⟩ := List.mem_map.mp h
      by_cases c : p.1 = k
      · rw [if_pos c, c]
        exact .inl rfl
      · rw [if_neg c]
        exact .inr ⟨hp, c⟩
    · rintro (rfl | ⟨h1, h2⟩)
      · obtain ⟨p, hp, hk⟩ := List.any_eq_true.mp a
        have hk := of_decide_eq_true hk
        exact List.mem_map.mpr ⟨p, hp, by rw [if_pos hk, hk]⟩
      · exact List.mem_map.mpr ⟨e, h1, by rw [if_neg h2]⟩
  · rw [if_neg a]
    have no : ∀ p ∈ kvs, p.1 ≠ k := fun p hp z => a (List.any_eq_true.mpr ⟨p, hp, decide_eq_true z⟩)
    constructor
    · intro h
      rcases List.mem_append.mp h with h | h
      · exact .inr ⟨h, no e h⟩
      · exact .inl (List.mem_singleton.mp h)
    · rintro (rfl | ⟨h1, h2⟩)
      · exact List.mem_append_right _ (List.mem_singleton.mpr rfl)
      · exact List.mem_append_left _ h1
theorem cnt_put {kvs : List (Key × V)} {M : List Int} (C : Cnt kvs M) (s : Int) (k : Nat) : Cnt (putK kvs (.inl s) (.int ((M.count s + (k + 1) : Nat) : Int))) (M ++ List.replicate (k + 1) s) := by
  have cs : (M ++ List.replicate (k + 1) s).count s = M.count s + (k + 1) := by rw [List.count_append, List.count_replicate_self]
  have co : ∀ j : Int, j ≠ s → (M ++ List.replicate (k + 1) s).count j = M.count j := fun j hj => by
    rw [List.count_append, List.count_replicate, if_neg (by simpa using Ne.symm hj)]
    rfl
  have ms : s ∈ M ++ List.replicate (k + 1) s := List.mem_append_right _ (by simp [List.replicate_succ])
  have mo : ∀ j : Int, j ≠ s → (j ∈ M ++ List.replicate (k + 1) s ↔ j ∈ M) := fun j hj => by
    rw [List.mem_append]
    exact ⟨fun h => h.elim id fun h => absurd (List.mem_replicate.mp h).2 hj, .inl⟩
  refine ⟨fun j => ?_, fun e he => ?_, fun j hj => ?_⟩
  · rw [valV_put]
    by_cases c : j = s
    · subst c
      rw [if_pos rfl, if_pos ms, cs]
    · rw [if_neg (fun z => c (Sum.inl.inj z)), C.val, co j c]
      by_cases d : j ∈ M
      · rw [if_pos d, if_pos ((mo j c).mpr d)]
      · rw [if_neg d, if_neg (fun z => d ((mo j c).mp z))]
  · rcases mem_putK.mp he with rfl | ⟨h1, h2⟩
    · exact ⟨s, ms, by rw [cs]⟩
    · obtain ⟨j, hj, rfl⟩ := C.ent e h1
      have c : j ≠ s := fun z => h2 (by rw [z])
      exact ⟨j, (mo j c).mpr hj, by rw [co j c]⟩
  · by_cases c : j = s
    · subst c
      rw [cs]
      exact mem_putK.mpr (.inl rfl)
    · rw [co j c]
      exact mem_putK.mpr (.inr ⟨C.has j ((mo j c).mp hj), fun z => c (Sum.inl.inj z)⟩)
theorem putK_len (kvs : List (Key × V)) (k : Key) (v : V) : (putK kvs k v).length ≤ kvs.length + 1 := by
  unfold putK
  split
  · rw [List.length_map]
    omega
  · rw [List.length_append]
    exact Nat.le_refl _
def posn (l : List (Int × Int)) (n : Int) (i : Nat) : Int := match l[i]? with
  | some q => q.1
  | none => n
theorem trips_take {l : List (Int × Int)} {n : Int} {i : Nat} {f s : Int} (h : l[i]? = some (f, s)) : (trips l n).take (i + 1) = (trips l n).take i ++ [(f, posn l n (i + 1) - 1, s)] := by
  have lt := (List.getElem?_eq_some_iff.mp h).1
  refine take_snoc ?_
  unfold trips
  rw [List.getElem?_map, List.getElem?_range lt, Option.map_some, List.getD_eq_getElem?_getD, h]
  rfl
theorem behind_ok {K : PySem.W.Frag} {σ : L2.St} {H : Hp} {Q : VK} {t : Addr} {rs : List V} {L : List Int} {i : Nat} (h0 : σ[0]? = some (some (.ref t))) (h1 : σ[1]? = some (some (.int (L.length : Nat)))) (h4 : σ[4]? = some (some (.int (i : Nat)))) (ht : H t = some (.tup rs)) (pr : PrAt H rs (rle L))
    (q : Q (.int (beh (rle L) (L.length : Nat) i)) H) : if decide (((i : Nat) : Int) + 1 < ((rs.length : Nat) : Int)) = true then tOp (rIxT K) (tOp (rIxT K) (tVar 0) (tOp (rI0 fun i j => V.int (i + j)) (tVar 4) (tC (.int 1)))) (tC (.int 0)) σ H Q else tVar 1 σ H Q := by
  have plen : rs.length = (rle L).length := Paired.length pr
  by_cases c : ((i : Nat) : Int) + 1 < ((rs.length : Nat) : Int)
  · rw [decide_eq_true c]
    have lt : i + 1 < rs.length := by omega
    obtain ⟨p, hp, x, ex, hx⟩ := paired_at pr (List.getElem?_eq_getElem lt)
    have hx2 : rs[i + 1]? = some (.ref x) := by rw [List.getElem?_eq_getElem lt, ex]
    have one : atI [V.int p.1, V.int p.2] 0 = some (V.int p.1) := rfl
    have eb : beh (rle L) (L.length : Nat) i = p.1 := by
      unfold beh
      rw [hp]
    rw [eb] at q
    exact iteT ⟨_, h0, _, h4, _, _, rfl, rfl, t, rs, _, .ref x, rfl, rfl, SqT.of ht, atI_nat (j := i + 1) hx2, x, _, _, _, rfl, rfl, SqT.of hx, one, q⟩
  · rw [decide_eq_false c]
    have eb : beh (rle L) (L.length : Nat) i = (L.length : Nat) := by
      unfold beh
      rw [List.getElem?_eq_none (by omega)]
    rw [eb] at q
    exact iteF ⟨_, h1, q⟩
theorem cnt_vals {kvs : List (Key × V)} {M : List Int} (C : Cnt kvs M) : ∃ ns : List Int, kvs.map (·.2) = ns.map V.int ∧ (∀ x ∈ ns, ∃ s ∈ M, x = (M.count s : Nat)) ∧ ∀ s ∈ M, ((M.count s : Nat) : Int) ∈ ns := by
  refine ⟨kvs.map fun e => match e.2 with | .int i => i | _ => 0, ?_, fun x hx => ?_, fun s hs => ?_⟩
  · rw [List.map_map]
    refine List.map_congr_left fun e he => ?_
    obtain ⟨s, _, rfl⟩ := C.ent e he
    rfl
  · obtain ⟨e, he, rfl⟩ := List.mem_map.mp hx
    obtain ⟨s, hs, rfl⟩ := C.ent e he
    exact ⟨s, hs, rfl⟩
  · exact List.mem_map.mpr ⟨_, C.has s hs, rfl⟩
abbrev NTo : List Str := ["row", "signs", "many", "moves", "at", "first", "state", "behind", "most", "away", "signs_there", "move"]
section
variable {P : Program} {w : World} {K : PySem.W.Frag} {mg : Str → Option Value} {base : Heap}
/-- told_row(row, signs) -/
def spTold : Sp := fun vs H Q _ => ∃ (t : Addr) (rs : List V) (L : List Int), vs = [.ref t, .int (L.length : Nat)] ∧ H t = some (.tup rs) ∧ PrAt H rs (rle L) ∧ L ≠ [] ∧ L.length ≤ 5000 ∧
  ∀ r u H' ms, Same H H' → H r = none → H' r = some (.tup [.int (awayF L), .ref u]) → H' u = some (.tup ms) → TrAt H' ms (keptM L (awayF L)) → Q (.ref r) H'
theorem scTold : FnScope NTo ["row", "signs"] (defScope sTold) := ⟨rfl, rfl, rfl, by decide +kernel, rfl, by decide +kernel, by decide +kernel⟩
theorem ok_told {f : Addr} {fd : FuncData} (F : Fun K "told_row" "told_row" sTold f fd) (B : Bi mg) : FnOk P w K mg base CX0 1 f fd ["row", "signs"] spTold := by
  refine F.ok scTold (fun vs H Q E h => ?_) (fun cdv A outer s H vs Q E hr h => ?_)
  · obtain ⟨t, rs, L, rfl, _⟩ := h
    rfl
  · obtain ⟨t, rs, L, rfl, ht, pr, ne, len, q⟩ := h
    refine ⟨_, pss_cons (ps_set (i := 2) scTold.nd rfl (Or.inl rfl) pe_dnewK) (pss_cons (ps_set (i := 3) scTold.nd rfl (Or.inl rfl) (pe_lst pa_nil))
      (pss_cons (ps_for PassesOwn.never rfl (pi_enA B.enum (pa_cons (pv 0) pa_nil)) (pg_tup rfl (pgs_cons (pg_name (i := 4) scTold.nd rfl (.inl rfl)) (pgs_cons (pg_tup rfl (pgs_cons (pg_name (i := 5) scTold.nd rfl (.inl rfl)) (pgs_cons (pg_name (i := 6) scTold.nd rfl (.inl rfl)) pgs_nil))) pgs_nil)))
        (pss_cons (ps_set (i := 7) scTold.nd rfl (Or.inl rfl) (pe_ifExp (pt_cmpR op_lt (pe_op op_add (pv 4) pe_int) (pe_len B.len (pa_cons (pv 0) pa_nil)) (nomark _)) (pe_ix ix_tup (pe_ix ix_tup (pv 0) (pe_op op_add (pv 4) pe_int) (fun _ _ => rfl)) pe_int (fun _ _ => rfl)) (pv 1)))
        (pss_cons (ps_dput (hu_of hr) (pv 2) (pv 6) (pe_op op_sub (pe_op op_add (pe_dget2 (hu_of hr) (pv 2) (pv 6) pe_int ⟨rfl, rfl, rfl, rfl⟩) (pv 7)) (pv 5)) rfl)
        (pss_one (ps_expr (pe_bm PySem.F.plainAttrs_list PySem.F.slot_list_append PySem.F.type_list_append mt_append (pv 3) (pa_cons (pe_tup (pa_cons (pv 5) (pa_cons (pe_op op_sub (pv 7) pe_int) (pa_cons (pv 6) pa_nil)))) pa_nil)))))))
      (pss_cons (ps_set (i := 8) scTold.nd rfl (Or.inr rfl) (pe_callB (cr_max rfl) rfl B.max (by decide +kernel) (pa_cons (pe_listValues rfl (pv 2) rfl B.list) pa_nil)))
      (pss_cons (ps_set (i := 9) scTold.nd rfl (Or.inr rfl) (pe_callB (cr_min rfl) rfl B.min (by decide +kernel) (pa_cons (pe_lock (pe_lc (own := [("state", 6), ("signs_there", 10)]) rfl scTold.nd (pi_items (pv 2)) (blkOk_by (N := NTo) (sc := defScope sTold) (by decide +kernel))
          (fun _ _ _ _ _ => pg_pairK K rfl rfl (pg_name (i := 6) scTold.nd rfl (Or.inl rfl) (.inr rfl)) (pg_name (i := 10) scTold.nd rfl (Or.inl rfl) (.inr rfl))) (fun _ _ _ _ _ => pts_one (pt_cmpR op_eq (pv 10) (pv 8) (nomark _))) (fun _ _ _ _ _ => pv 6))) pa_nil)))
      (pss_one (ps_ret (pe_tup (pa_cons (pv 9) (pa_cons (pe_tupleOf rfl B.tuple (pe_lc (own := [("move", 11)]) rfl scTold.nd (pi_sqA (pv 3)) (blkOk_by (N := NTo) (sc := defScope sTold) (by decide +kernel))
          (fun _ _ _ _ _ => pg_name (i := 11) scTold.nd rfl (Or.inl rfl)) (fun _ _ _ _ _ => pts_one (pt_cmpR op_ne (pe_ix (ix_tupK K rfl) (pv 11) pe_int (fun _ _ => rfl)) (pv 9) (nomark _))) (fun _ _ _ _ _ => pv 11))) pa_nil))))))))), ?_⟩
    have P0 := rle_p L
    have plen : rs.length = (rle L).length := Paired.length pr
    have ne2 : rle L ≠ [] := P0.some_ ne
    have p0 : posn (rle L) (L.length : Nat) 0 = 0 := by
      unfold posn
      cases z : (rle L)[0]? with
      | none => exact absurd (List.getElem?_eq_none_iff.mp z) (by have := List.length_pos_iff.mpr ne2; omega)
      | some p => exact P0.zero p z
    have rl := rle_len L
    refine fun D nD => ⟨Nat.zero_le _, fun ML nML => ?_⟩
    have nDM : D ≠ ML := ne_of_none upd_same nML
    have e0 : Same H (upd (upd H D (.dK [])) ML (.lst [])) := (same_new nD).trans (same_new nML)
    have tD : t ≠ D := ne_of_none ht nD
    have tM : t ≠ ML := ne_of_none ((upd_ne tD).trans ht) nML
    have nM0 : H ML = none := (same_new nD).free nML
    refine ⟨_, rfl, t, rs, rfl, .inr (SqT.of (e0 _ _ ht)), fun J G wk hG => for_it wk (fun i σ H' => ∃ (a b c d : Option V) (kvs : List (Key × V)) (ts : List V), σ = [some (.ref t), some (.int (L.length : Nat)), some (.ref D), some (.ref ML), a, b, c, d, none, none, none, none] ∧ Same H H' ∧ H' D = some (.dK kvs) ∧ H' ML = some (.lst ts) ∧
        Cnt kvs (L.take (posn (rle L) (L.length : Nat) i).toNat) ∧ kvs.length ≤ i ∧ TrAt H' ts ((trips (rle L) (L.length : Nat)).take i))
      ⟨none, none, none, none, [], [], rfl, e0, (upd_ne nDM).trans upd_same, upd_same, ?_, Nat.le_refl _, .nil⟩ (fun i σ H' _ ⟨_, _, _, _, _, _, _, e, _⟩ => hG H' fun o z => ?_) ?_ ?_⟩
    · rw [p0]
      exact cnt_nil
    · rw [upd_ne tM, upd_ne tD] at z
      exact e _ _ z
    · rintro i x σ H1 H2 hi ⟨a, b, c, d, kvs, ts, rfl, e, hD, hM, C, lk, tr⟩ ⟨T0, y, v, rfl, nT0, rfl, ey, hv⟩
      have ey : y = .int (i : Nat) := (Option.some.inj ey).symm
      subst ey
      obtain ⟨⟨f, st⟩, hp, x0, rfl, hx0⟩ := paired_at pr hv
      obtain ⟨a1, a2, a3, a4⟩ := P0.at_ i f st hp
      have ef : posn (rle L) (L.length : Nat) i = f := by
        unfold posn
        rw [hp]
      have eb : posn (rle L) (L.length : Nat) (i + 1) = beh (rle L) (L.length : Nat) i := rfl
      have tk := take_beh hp
      have li : i < (rle L).length := (List.getElem?_eq_some_iff.mp hp).1
      have x1 := same_new (o := .tup [.int (i : Nat), .ref x0]) nT0
      have e2 := e.trans x1
      have hD2 := x1 _ _ hD
      have hM2 := x1 _ _ hM
      have tr2 := tr.same x1
      have hT0 : upd H1 T0 (.tup [.int (i : Nat), .ref x0]) T0 = some (.tup [.int (i : Nat), .ref x0]) := upd_same
      generalize upd H1 T0 (.tup [.int (i : Nat), .ref x0]) = H2 at x1 e2 hD2 hM2 tr2 hT0 ⊢
      refine ⟨T0, _, rfl, SqT.of hT0, rfl, _, _, rfl, _, _, rfl, ⟨x0, _, rfl, SqT.of (e2 _ _ hx0), rfl, _, _, rfl, _, _, rfl, rfl, rfl, ?_⟩⟩
      refine ⟨_, rfl, _, _, rfl, rfl, _, rfl, t, rs, rfl, .inr (SqT.of (e2 _ _ ht)), _, _, rfl, rfl, _, rfl, ?_⟩
      refine behind_ok rfl rfl rfl (e2 _ _ ht) (pr.same e2) ?_
      have hg : ∃ o, DGet H2 D (.int st) o ∧ o.getD (.int 0) = V.int ((L.take f.toNat).count st : Nat) := by
        have g := DGet.k (k := .inl st) hD2
        rw [C.val st, ef] at g
        by_cases m : st ∈ L.take f.toNat
        · rw [if_pos m] at g
          exact ⟨_, g, rfl⟩
        · rw [if_neg m] at g
          exact ⟨_, g, by rw [List.count_eq_zero.mpr m]; rfl⟩
      obtain ⟨o, g1, g2⟩ := hg
      refine ⟨_, rfl, D, rfl, .inl ⟨kvs, .inl hD2⟩, _, rfl, o, g1, ?_⟩
      rw [g2]
      refine ⟨_, rfl, _, _, rfl, rfl, _, rfl, _, _, rfl, rfl, _, rfl, _, rfl, D, _, rfl, DPut.k (k := .inl st) hD2 (small10 (by omega)), ?_⟩
      have nMD : ML ≠ D := Ne.symm nDM
      obtain ⟨k, ek⟩ : ∃ k : Nat, beh (rle L) (L.length : Nat) i - f = ((k + 1 : Nat) : Int) := ⟨(beh (rle L) (L.length : Nat) i - f).toNat - 1, by omega⟩
      have ev : (((L.take f.toNat).count st : Nat) : Int) + beh (rle L) (L.length : Nat) i - f = (((L.take f.toNat).count st + (k + 1) : Nat) : Int) := by omega
      have hD3 : upd H2 D (.dK (putK kvs (.inl st) (.int ((((L.take f.toNat).count st : Nat) : Int) + beh (rle L) (L.length : Nat) i - f)))) D = some (.dK (putK kvs (.inl st) (.int (((L.take f.toNat).count st + (k + 1) : Nat) : Int)))) := by rw [upd_same, ev]
      have hM3 : upd H2 D (.dK (putK kvs (.inl st) (.int ((((L.take f.toNat).count st : Nat) : Int) + beh (rle L) (L.length : Nat) i - f)))) ML = some (.lst ts) := (upd_ne nMD).trans hM2
      have e3 : Same H (upd H2 D (.dK (putK kvs (.inl st) (.int ((((L.take f.toNat).count st : Nat) : Int) + beh (rle L) (L.length : Nat) i - f))))) := fun b' o' z => by
        rw [upd_ne (ne_of_none z nD)]
        exact e2 _ _ z
      have tr3 : TrAt (upd H2 D (.dK (putK kvs (.inl st) (.int ((((L.take f.toNat).count st : Nat) : Int) + beh (rle L) (L.length : Nat) i - f))))) ts ((trips (rle L) (L.length : Nat)).take i) := Paired.mapP tr2 fun _ _ ⟨a', h1, h2⟩ => ⟨a', h1, (upd_ne (ne_of h2 hD2 fun z => nomatch z)).trans h2⟩
      generalize upd H2 D (.dK (putK kvs (.inl st) (.int ((((L.take f.toNat).count st : Nat) : Int) + beh (rle L) (L.length : Nat) i - f)))) = H3 at hD3 hM3 e3 tr3 ⊢
      have lts : ts.length ≤ 10000 := by
        have h1 := Paired.length tr2
        rw [List.length_take] at h1
        omega
      refine ⟨_, rfl, .inl ⟨rfl, _, SqL.of hM3⟩, _, rfl, _, rfl, _, _, rfl, rfl, _, rfl, by show 3 ≤ sizeLine; decide, fun tt ntt => ⟨ML, ts, _, rfl, rfl, (upd_ne (ne_of_none hM3 ntt)).trans hM3, small10 lts, ?_⟩⟩
      have ttM : tt ≠ ML := Ne.symm (ne_of_none hM3 ntt)
      have ttD : D ≠ tt := ne_of_none hD3 ntt
      refine ⟨_, _, _, _, putK kvs (.inl st) (.int (((L.take f.toNat).count st + (k + 1) : Nat) : Int)), ts ++ [.ref tt], rfl, fun b' o' z => ?_, ?_, upd_same, ?_, ?_, ?_⟩
      · rw [upd_ne (ne_of_none z nM0), upd_ne (ne_of_none (e3 _ _ z) ntt)]
        exact e3 _ _ z
      · rw [upd_ne nDM, upd_ne ttD]
        exact hD3
      · rw [eb, tk, ek, Int.toNat_natCast]
        rw [ef] at C
        exact cnt_put C st k
      · have := putK_len kvs (.inl st) (.int (((L.take f.toNat).count st + (k + 1) : Nat) : Int))
        omega
      · rw [trips_take hp]
        refine Paired.snoc (Paired.mapP tr3 fun _ _ ⟨a', h1, h2⟩ => ⟨a', h1, ?_⟩) ⟨tt, rfl, (upd_ne ttM).trans upd_same⟩
        have z1 : upd H3 tt (.tup [.int f, .int (beh (rle L) (L.length : Nat) i - 1), .int st]) a' = _ := (upd_ne (ne_of_none h2 ntt)).trans h2
        exact (upd_ne (ne_of z1 ((upd_ne (Ne.symm ttM)).trans hM3) fun z => nomatch z)).trans z1
    · rintro σ H1 ⟨a, b, c, d, kvs, ts, rfl, e, hD, hM, C, lk, tr⟩
      have pe : posn (rle L) (L.length : Nat) rs.length = (L.length : Nat) := by
        unfold posn
        rw [List.getElem?_eq_none (by omega)]
      have tl : (trips (rle L) (L.length : Nat)).length = rs.length := by
        unfold trips
        rw [List.length_map, List.length_range, plen]
      rw [pe, Int.toNat_natCast, List.take_length] at C
      rw [← tl, List.take_length] at tr
      obtain ⟨ns, ens, n1, n2⟩ := cnt_vals C
      obtain ⟨x0, hx0⟩ := List.exists_mem_of_ne_nil L ne
      refine ⟨_, rfl, D, kvs, rfl, hD, fun l nl => ⟨l, ns, rfl, ?_, ?_, fun m hm hle => ?_⟩⟩
      · rw [← ens]
        exact SqL.of upd_same
      · exact List.length_pos_of_mem (n2 x0 hx0)
      have x1 := same_new (o := .lst (kvs.map (·.2))) nl
      have hD2 := x1 _ _ hD
      have hM2 := x1 _ _ hM
      have e2 := e.trans x1
      have tr2 := tr.same x1
      generalize upd H1 l (.lst (kvs.map (·.2))) = H2 at x1 hD2 hM2 e2 tr2 ⊢
      clear hD hM e tr nl
      obtain ⟨s0, hs0, em⟩ := n1 m hm
      have most : ∀ s ∈ L, ((L.count s : Nat) : Int) ≤ m := fun s hs => hle _ (n2 s hs)
      refine ⟨D, _, hD2, True.intro, fun od => ⟨_, rfl, D, od, kvs, rfl, upd_same, fun A nA => lc_it walk_items (fun i H' => ∃ as : List Int, (∀ b o, b ≠ A → upd H2 D (.frz od (.dK kvs)) b = some o → H' b = some o) ∧ H' A = some (.lst (as.map V.int)) ∧ as.length ≤ i ∧ (∀ s ∈ as, s ∈ L ∧ ((L.count s : Nat) : Int) = m) ∧ ∀ s, ((.inl s : Key), V.int m) ∈ kvs.take i → s ∈ as)
        ⟨[], fun b o n z => (upd_ne n).trans z, upd_same, Nat.le_refl _, (fun _ z => nomatch z), fun s z => by simp at z⟩ (fun i H' _ ⟨as, z, _⟩ => z _ _ (ne_of_none upd_same nA) upd_same) ?_ ?_⟩⟩
      · rintro i x H3 H4 hi ⟨as, k3, hA, la, as1, as2⟩ ⟨T0, y, v, rfl, nT0, rfl, ey, hv⟩
        have hk : kvs[i]? = some kvs[i] := List.getElem?_eq_getElem hi
        obtain ⟨s, hs, es⟩ := C.ent kvs[i] (List.getElem_mem hi)
        have ey : Option.map (fun kv : Key × V => kV kv.1) kvs[i]? = some y := ey
        have hv : Option.map Prod.snd kvs[i]? = some v := hv
        rw [hk, es] at ey hv
        have ey : y = .int s := (Option.some.inj ey).symm
        have hv : v = .int (L.count s : Nat) := (Option.some.inj hv).symm
        subst ey hv
        have hA4 : upd H3 T0 (.tup [.int s, .int (L.count s : Nat)]) A = some (.lst (as.map V.int)) := (upd_ne (ne_of_none hA nT0)).trans hA
        have hT0 : upd H3 T0 (.tup [.int s, .int (L.count s : Nat)]) T0 = some (.tup [.int s, .int (L.count s : Nat)]) := upd_same
        have k4 : ∀ b o, b ≠ A → upd H2 D (.frz od (.dK kvs)) b = some o → upd H3 T0 (.tup [.int s, .int (L.count s : Nat)]) b = some o := fun b o n z => by
          rw [upd_ne (ne_of_none (k3 b o n z) nT0)]
          exact k3 b o n z
        generalize upd H3 T0 (.tup [.int s, .int (L.count s : Nat)]) = H5 at hA4 hT0 k4 ⊢
        refine ⟨T0, _, rfl, SqT.of hT0, rfl, _, _, rfl, _, _, rfl, rfl, rfl, ?_⟩
        refine ⟨_, rfl, _, rfl, rfl, _, rfl, ?_⟩
        have tk : kvs.take (i + 1) = kvs.take i ++ [((.inl s : Key), V.int (L.count s : Nat))] := by rw [take_snoc hk, es]
        rw [dec_int]
        by_cases cm : ((L.count s : Nat) : Int) = m
        · rw [show (((L.count s : Nat) : Int) == m) = true by simpa using cm]
          refine iteT ⟨_, rfl, _, hA4, by rw [List.length_map]; exact small10 (by omega), as ++ [s], fun b o n z => (upd_ne n).trans (k4 b o n z), ?_, by rw [List.length_append]; show _ + 1 ≤ _; omega, fun s' hs' => ?_, fun s' hs' => ?_⟩
          · rw [upd_same, List.map_append]
            rfl
          · rcases List.mem_append.mp hs' with h | h
            · exact as1 s' h
            · rw [List.mem_singleton.mp h]
              exact ⟨hs, cm⟩
          · rw [tk] at hs'
            rcases List.mem_append.mp hs' with h | h
            · exact List.mem_append_left _ (as2 s' h)
            · have := List.mem_singleton.mp h
              cases this
              exact List.mem_append_right _ (List.mem_singleton.mpr rfl)
        · rw [show (((L.count s : Nat) : Int) == m) = false by simpa using cm]
          refine iteF ⟨as, k4, hA4, by omega, as1, fun s' hs' => ?_⟩
          rw [tk] at hs'
          rcases List.mem_append.mp hs' with h | h
          · exact as2 s' h
          · have := List.mem_singleton.mp h
            cases this
            exact absurd rfl cm
      · rintro H3 ⟨as, k3, hA, la, as1, as2⟩
        rw [List.take_length] at as2
        have nAD : A ≠ D := Ne.symm (ne_of_none upd_same nA)
        have in0 : s0 ∈ as := as2 s0 (by rw [em]; exact C.has s0 hs0)
        refine ⟨k3 _ _ (Ne.symm nAD) upd_same, A, as, rfl, SqL.of ((upd_ne nAD).trans hA), List.length_pos_of_mem in0, fun mn hmn hle2 => ?_⟩
        obtain ⟨mn1, mn2⟩ := as1 mn hmn
        have aw : AwayOf L mn := ⟨mn1, fun b hb => by
          have h1 := most b hb
          by_cases c2 : ((L.count b : Nat) : Int) = m
          · refine .inr ⟨by omega, hle2 b (as2 b ?_)⟩
            rw [← c2]
            exact C.has b hb
          · exact .inl (by omega)⟩
        have eaw := awayF_eq aw
        have e3 : Same H (upd H3 D (.dK kvs)) := fun b o z => by
          have nb : b ≠ D := ne_of_none z nD
          have z2 := e2 _ _ z
          have nbA : b ≠ A := ne_of_none ((upd_ne nb).trans z2) nA
          rw [upd_ne nb]
          exact k3 b o nbA ((upd_ne nb).trans z2)
        have keep : ∀ b o, b ≠ D → H2 b = some o → upd H3 D (.dK kvs) b = some o := fun b o nb z => by
          rw [upd_ne nb]
          exact k3 b o (ne_of_none ((upd_ne nb).trans z) nA) ((upd_ne nb).trans z)
        have hM3 := keep _ _ (Ne.symm nDM) hM2
        have tr3 : TrAt (upd H3 D (.dK kvs)) ts (trips (rle L) (L.length : Nat)) := Paired.mapP tr2 fun _ _ ⟨a', h1, h2⟩ => ⟨a', h1, keep _ _ (ne_of h2 hD2 fun z => nomatch z) h2⟩
        generalize upd H3 D (.dK kvs) = H6 at e3 hM3 tr3 ⊢
        have lts : ts.length ≤ 10000 := by
          have h1 := Paired.length tr3
          omega
        refine ⟨_, rfl, _, rfl, ML, ts, rfl, .inl (SqL.of hM3), fun J2 G2 wk2 hG2 B2 nB2 => lc_it wk2 (fun j H' => ∃ us : List V, (∀ b o, H6 b = some o → H' b = some o) ∧ H' B2 = some (.lst us) ∧ us.length ≤ j ∧ TrAt H' us (((trips (rle L) (L.length : Nat)).take j).filter fun t => !decide (t.2.2 = mn))) ⟨[], same_new nB2, upd_same, Nat.le_refl _, .nil⟩ (fun j H' _ ⟨_, z, _⟩ => hG2 H' fun o w => z _ _ w) ?_ ?_⟩
        · rintro j x H7 H8 hj ⟨us, k7, hB, lu, tu⟩ ⟨rfl, hx⟩
          obtain ⟨q3, hq, x1', rfl, hx1⟩ := paired_at tr3 hx
          have tj := take_snoc hq
          have two : atI [V.int q3.1, V.int q3.2.1, V.int q3.2.2] 2 = some (V.int q3.2.2) := rfl
          refine ⟨rfl, _, rfl, x1', _, _, _, rfl, rfl, SqT.of (k7 _ _ hx1), two, _, rfl, rfl, _, rfl, ?_⟩
          rw [dec_int]
          by_cases c3 : q3.2.2 = mn
          · rw [show (q3.2.2 == mn) = true by simpa using c3]
            refine iteF ⟨us, k7, hB, by omega, ?_⟩
            rw [tj, List.filter_append, List.filter_cons, if_neg (by simpa using c3), List.filter_nil, List.append_nil]
            exact tu
          · rw [show (q3.2.2 == mn) = false by simpa using c3]
            refine iteT ⟨_, rfl, _, hB, small10 (by omega), us ++ [.ref x1'], fun b o z => ?_, upd_same, by rw [List.length_append]; show _ + 1 ≤ _; omega, ?_⟩
            · rw [upd_ne (ne_of_none z nB2)]
              exact k7 _ _ z
            · rw [tj, List.filter_append, List.filter_cons, if_pos (by simpa using c3), List.filter_nil]
              refine Paired.snoc (Paired.mapP tu fun _ _ ⟨a', h1, h2⟩ => ⟨a', h1, (upd_ne (ne_of h2 hB fun z => nomatch z)).trans h2⟩) ⟨x1', rfl, (upd_ne (ne_of_none hx1 nB2)).trans (k7 _ _ hx1)⟩
        · rintro H7 ⟨us, k7, hB, lu, tu⟩
          have ej : (trips (rle L) (L.length : Nat)).take ts.length = trips (rle L) (L.length : Nat) := by rw [Paired.length tr3, List.take_length]
          rw [ej] at tu
          refine .inl ⟨B2, us, rfl, SqL.of hB, fun tt ntt => ⟨by show 2 ≤ sizeLine; decide, fun r nr => ?_⟩⟩
          have z1 := same_new (o := .tup us) ntt
          have htt : upd H7 tt (.tup us) tt = some (.tup us) := upd_same
          generalize upd H7 tt (.tup us) = H9 at z1 htt nr ⊢
          have z2 := same_new (o := .tup [.int mn, .ref tt]) nr
          have e7 : Same H H7 := fun b o z => k7 _ _ (e3 _ _ z)
          refine q r tt _ us (e7.trans (z1.trans z2)) ((e7.trans z1).free nr) ?_ (z2 _ _ htt) ?_
          · rw [upd_same, eaw]
          · rw [eaw]
            exact (tu.same z1).same z2
end
end K61
set_option Elab.async false
set_option linter.all false
set_option maxRecDepth 100001
set_option maxHeartbeats 3999999
namespace K61
open PySem L2
abbrev sMac (j : Nat) : Stmt := inClass (topS 39) j
abbrev sInit : Stmt := sMac 0
abbrev sEq : Stmt := sMac 1
abbrev sBeh : Stmt := sMac 2
abbrev sHas : Stmt := sMac 3
abbrev sMkd : Stmt := sMac 4
abbrev sBeg : Stmt := sMac 5
abbrev sCkS : Stmt := sMac 6
abbrev sCkR : Stmt := sMac 7
/-! ### a machine -/
def machF (n : Int) (tb rw : Addr) (st : Int) (mk kd : Addr) : List (Str × V) := putF "kinds" (.ref kd) (putF "marks" (.ref mk) (putF "start" (.int st) (putF "rows" (.ref rw) (putF "table" (.ref tb) (putF "signs" (.int n) [])))))
section
variable (n : Int) (tb rw : Addr) (st : Int) (mk kd : Addr)
theorem mf_kinds : (machF n tb rw st mk kd).lookup ("kinds" : Str) = some (.ref kd) := by
  unfold machF
  rw [lookup_putF, if_pos rfl]
theorem mf_marks : (machF n tb rw st mk kd).lookup ("marks" : Str) = some (.ref mk) := by
  unfold machF
  rw [lookup_putF, if_neg (by decide +kernel), lookup_putF, if_pos rfl]
theorem mf_start : (machF n tb rw st mk kd).lookup ("start" : Str) = some (.int st) := by
  unfold machF
  rw [lookup_putF, if_neg (by decide +kernel), lookup_putF, if_neg (by decide +kernel), lookup_putF, if_pos rfl]
theorem mf_rows : (machF n tb rw st mk kd).lookup ("rows" : Str) = some (.ref rw) := by
  unfold machF
  rw [lookup_putF, if_neg (by decide +kernel), lookup_putF, if_neg (by decide +kernel), lookup_putF, if_neg (by decide +kernel), lookup_putF, if_pos rfl]
theorem mf_table : (machF n tb rw st mk kd).lookup ("table" : Str) = some (.ref tb) := by
  unfold machF
  rw [lookup_putF, if_neg (by decide +kernel), lookup_putF, if_neg (by decide +kernel), lookup_putF, if_neg (by decide +kernel), lookup_putF, if_neg (by decide +kernel), lookup_putF, if_pos rfl]
theorem mf_signs : (machF n tb rw st mk kd).lookup ("signs" : Str) = some (.int n) := by
  unfold machF
  rw [lookup_putF, if_neg (by decide +kernel), lookup_putF, if_neg (by decide +kernel), lookup_putF, if_neg (by decide +kernel), lookup_putF, if_neg (by decide +kernel), lookup_putF, if_neg (by decide +kernel), lookup_putF, if_pos rfl]
theorem mf_no {x : Str} (h1 : ¬ x = "kinds") (h2 : ¬ x = "marks") (h3 : ¬ x = "start") (h4 : ¬ x = "rows") (h5 : ¬ x = "table") (h6 : ¬ x = "signs") : (machF n tb rw st mk kd).lookup x = none := by
  unfold machF
  rw [lookup_putF, if_neg h1, lookup_putF, if_neg h2, lookup_putF, if_neg h3, lookup_putF, if_neg h4, lookup_putF, if_neg h5, lookup_putF, if_neg h6]
  rfl
end
/-- stretch rows, told rows, rows in the one form -/
def StrAt (H : Hp) : List V → List (List Int) → Prop := Paired fun v L => ∃ a rs, v = .ref a ∧ H a = some (.tup rs) ∧ PrAt H rs (rle L)
def KrAt (H : Hp) : List V → List (List Int) → Prop := Paired fun v L => ∃ r u ms, v = .ref r ∧ H r = some (.tup [.int (awayF L), .ref u]) ∧ H u = some (.tup ms) ∧ TrAt H ms (keptM L (awayF L))
def RowsAt (H : Hp) (n : Nat) (k : Int) : List V → List (List Int) → Prop := Paired fun v L => ∃ a ms, RowAt H v a ms ∧ OkM (n : Nat) k ms ∧ 0 ≤ a ∧ a ≤ k - 1 ∧ expT a ms n = L
theorem StrAt.same {H H' : Hp} {ts : List V} {Ls : List (List Int)} (h : StrAt H ts Ls) (e : Same H H') : StrAt H' ts Ls := Paired.mapP h fun _ _ ⟨a, rs, h1, h2, h3⟩ => ⟨a, rs, h1, e _ _ h2, h3.same e⟩
theorem KrAt.same {H H' : Hp} {ts : List V} {Ls : List (List Int)} (h : KrAt H ts Ls) (e : Same H H') : KrAt H' ts Ls := Paired.mapP h fun _ _ ⟨r, u, ms, h1, h2, h3, h4⟩ => ⟨r, u, ms, h1, e _ _ h2, e _ _ h3, h4.same e⟩
theorem RowsAt.same {H H' : Hp} {n : Nat} {k : Int} {ts : List V} {Ls : List (List Int)} (h : RowsAt H n k ts Ls) (e : Same H H') : RowsAt H' n k ts Ls := Paired.mapP h fun _ _ ⟨a, ms, h1, h2⟩ => ⟨a, ms, h1.same e, h2⟩
theorem PrAt.at_ {H H' : Hp} {p : Addr} {ts : List V} {l : List (Int × Int)} (h : PrAt H ts l) (e : ButI p H H') (hp : ∀ xs, H p ≠ some (.tup xs)) : PrAt H' ts l := Paired.mapP h fun _ _ ⟨a, h1, h2⟩ => ⟨a, h1, e _ _ (fun z => hp _ (z ▸ h2)) h2⟩
theorem TrAt.at_ {H H' : Hp} {p : Addr} {ts : List V} {l : List Mv} (h : TrAt H ts l) (e : ButI p H H') (hp : ∀ xs, H p ≠ some (.tup xs)) : TrAt H' ts l := Paired.mapP h fun _ _ ⟨a, h1, h2⟩ => ⟨a, h1, e _ _ (fun z => hp _ (z ▸ h2)) h2⟩
theorem StrAt.at_ {H H' : Hp} {p : Addr} {ts : List V} {Ls : List (List Int)} (h : StrAt H ts Ls) (e : ButI p H H') (hp : ∀ xs, H p ≠ some (.tup xs)) : StrAt H' ts Ls := Paired.mapP h fun _ _ ⟨a, rs, h1, h2, h3⟩ => ⟨a, rs, h1, e _ _ (fun z => hp _ (z ▸ h2)) h2, h3.at_ e hp⟩
theorem KrAt.at_ {H H' : Hp} {p : Addr} {ts : List V} {Ls : List (List Int)} (h : KrAt H ts Ls) (e : ButI p H H') (hp : ∀ xs, H p ≠ some (.tup xs)) : KrAt H' ts Ls := Paired.mapP h fun _ _ ⟨r, u, ms, h1, h2, h3, h4⟩ => ⟨r, u, ms, h1, e _ _ (fun z => hp _ (z ▸ h2)) h2, e _ _ (fun z => hp _ (z ▸ h3)) h3, h4.at_ e hp⟩
def kindsV (k : Nat) (ms : List Int) : List V := (List.range k).map fun i => V.bl (decide (((i : Nat) : Int) ∈ ms))
/-- at p: the machine over n signs, with these rows, this start, these marks -/
def IsM (C : Addr) (H : Hp) (p : Addr) (n : Nat) (Ls : List (List Int)) (st : Int) (ms : List Int) : Prop := ∃ (dx tb rw mk kd : Addr) (ts us : List V), H p = some (.ins C dx (machF (n : Nat) tb rw st mk kd)) ∧ H tb = some (.lst ts) ∧ StrAt H ts Ls ∧ H rw = some (.tup us) ∧ KrAt H us Ls ∧ H mk = some (.tup (ms.map V.int)) ∧ H kd = some (.lst (kindsV Ls.length ms))
theorem IsM.same {C : Addr} {H H' : Hp} {p : Addr} {n : Nat} {Ls : List (List Int)} {st : Int} {ms : List Int} (h : IsM C H p n Ls st ms) (e : Same H H') : IsM C H' p n Ls st ms :=
  let ⟨dx, tb, rw, mk, kd, ts, us, h1, h2, h3, h4, h5, h6, h7⟩ := h
  ⟨dx, tb, rw, mk, kd, ts, us, e _ _ h1, e _ _ h2, h3.same e, e _ _ h4, h5.same e, e _ _ h6, e _ _ h7⟩
structure OkMa (n : Nat) (Ls : List (List Int)) (st : Int) (ms : List Int) : Prop where
  n1 : 1 ≤ n
  n2 : n ≤ 2000
  k1 : 1 ≤ Ls.length
  k2 : Ls.length ≤ 2000
  row : ∀ L ∈ Ls, L.length = n ∧ ∀ x ∈ L, 0 ≤ x ∧ x ≤ (Ls.length : Int) - 1
  s1 : 0 ≤ st
  s2 : st ≤ (Ls.length : Int) - 1
  mar : ∀ m ∈ ms, 0 ≤ m ∧ m ≤ (Ls.length : Int) - 1
  up : ms.Pairwise (· < ·)
/-- what the class is known by -/
structure Txt (K : PySem.W.Frag) (C : Addr) : Prop where
  cl : Cls K C
  nS : NoAttr K C "signs"
  nT : NoAttr K C "table"
  nR : NoAttr K C "rows"
  nA : NoAttr K C "start"
  nM : NoAttr K C "marks"
  nK : NoAttr K C "kinds"
/-- where a sign leads -/
def nxt (Ls : List (List Int)) (s x : Int) : Int := (Ls.getD s.toNat []).getD x.toNat 0
def wlk (Ls : List (List Int)) (s : Int) (xs : List Int) : Int := xs.foldl (nxt Ls) s
theorem wlk_snoc (Ls : List (List Int)) (s : Int) (xs : List Int) (x : Int) : wlk Ls s (xs ++ [x]) = nxt Ls (wlk Ls s xs) x := by
  unfold wlk
  rw [List.foldl_append]
  rfl
section
variable {n : Nat} {Ls : List (List Int)} {st : Int} {ms : List Int}
theorem OkMa.nxt (O : OkMa n Ls st ms) {s x : Int} (s1 : 0 ≤ s) (s2 : s ≤ (Ls.length : Int) - 1) (x1 : 0 ≤ x) (x2 : x ≤ (n : Int) - 1) : ∃ (i : Nat) (L : List Int), s = (i : Nat) ∧ Ls[i]? = some L ∧ L[x.toNat]? = some (nxt Ls s x) ∧ 0 ≤ nxt Ls s x ∧ nxt Ls s x ≤ (Ls.length : Int) - 1 := by
  obtain ⟨i, rfl⟩ := Int.eq_ofNat_of_zero_le s1
  have lt : i < Ls.length := by omega
  have e : Ls[i]? = some Ls[i] := List.getElem?_eq_getElem lt
  obtain ⟨l1, l2⟩ := O.row Ls[i] (List.getElem_mem lt)
  have lx : x.toNat < (Ls[i]).length := by omega
  have e2 : (Ls[i])[x.toNat]? = some (K61.nxt Ls (i : Nat) x) := by
    unfold K61.nxt
    rw [List.getD_eq_getElem?_getD, List.getD_eq_getElem?_getD, Int.toNat_natCast, e, Option.getD_some, List.getElem?_eq_getElem lx, Option.getD_some]
  have := l2 _ (List.mem_of_getElem? e2)
  exact ⟨i, Ls[i], rfl, e, e2, this.1, this.2⟩
theorem OkMa.wlk (O : OkMa n Ls st ms) : ∀ (xs : List Int) {s : Int}, 0 ≤ s → s ≤ (Ls.length : Int) - 1 → (∀ x ∈ xs, 0 ≤ x ∧ x ≤ (n : Int) - 1) → 0 ≤ wlk Ls s xs ∧ wlk Ls s xs ≤ (Ls.length : Int) - 1
  | [], s, s1, s2, _ => ⟨s1, s2⟩
  | x :: xs, s, s1, s2, h => by
    obtain ⟨x1, x2⟩ := h x List.mem_cons_self
    obtain ⟨_, _, _, _, _, a1, a2⟩ := O.nxt s1 s2 x1 x2
    exact OkMa.wlk O xs a1 a2 fun y hy => h y (List.mem_cons_of_mem _ hy)
end
theorem kindsV_at {k i : Nat} {ms : List Int} (h : i < k) : (kindsV k ms)[i]? = some (.bl (decide (((i : Nat) : Int) ∈ ms))) := by
  unfold kindsV
  rw [List.getElem?_map, List.getElem?_range h]
  rfl
theorem ints_at {xs : List Int} {i : Nat} {v : V} (h : (xs.map V.int)[i]? = some v) : ∃ x, xs[i]? = some x ∧ v = .int x := by
  rw [List.getElem?_map] at h
  cases z : xs[i]? with
  | none => rw [z] at h; cases h
  | some x => rw [z] at h; exact ⟨x, rfl, (Option.some.inj h).symm⟩
section
variable {P : Program} {w : World} {K : PySem.W.Frag} {mg : Str → Option Value} {base : Heap}
/-- first_wrong_sign(row, signs), of a row of signs -/
def spFws : Sp := fun vs H Q _ => ∃ (s : Addr) (xs : List Int) (n : Int), vs = [.ref s, .int n] ∧ LT H s (xs.map V.int) ∧ (∀ x ∈ xs, 0 ≤ x ∧ x ≤ n - 1) ∧ ∀ H', Same H H' → Q .non H'
theorem scFws : FnScope ["row", "signs", "index", "sign"] ["row", "signs"] (defScope sWrongS) := ⟨rfl, rfl, rfl, by decide +kernel, rfl, by decide +kernel, by decide +kernel⟩
theorem ok_fws {f : Addr} {fd : FuncData} (F : Fun K "first_wrong_sign" "first_wrong_sign" sWrongS f fd) (B : Bi mg) (cB : Cal CX0 P w K mg base 2 "is_between" spBetween) : FnOk P w K mg base CX0 3 f fd ["row", "signs"] spFws := by
  refine F.ok scFws (fun vs H Q E h => ?_) (fun cdv A outer s H vs Q E hr h => ?_)
  · obtain ⟨s, xs, n, rfl, _⟩ := h
    rfl
  · obtain ⟨s0, xs, n, rfl, hs, ok, q⟩ := h
    refine ⟨_, pss_cons (ps_for PassesOwn.never rfl (pi_enA B.enum (pa_cons (pv 0) pa_nil)) (pg_tup rfl (pgs_cons (pg_name (i := 2) scFws.nd rfl (.inl rfl)) (pgs_cons (pg_name (i := 3) scFws.nd rfl (.inl rfl)) pgs_nil)))
        (pss_one (ps_if (pt_not (pt_val (pe_c cB hr pass0 (pa_cons (pv 3) (pa_cons pe_int (pa_cons (pe_op op_sub (pv 1) pe_int) pa_nil)))))) pss_never pss_nil)))
      (pss_one (ps_ret pe_non)), ?_⟩
    refine ⟨_, rfl, s0, _, rfl, hs.sq, fun J G wk hG => for_it wk (fun i σ H' => ∃ (a b : Option V), σ = [some (.ref s0), some (.int n), a, b] ∧ Same H H') ⟨none, none, rfl, Same.refl H⟩ (fun i σ H' _ ⟨_, _, _, e⟩ => hG H' fun o z => e _ _ z) ?_ ?_⟩
    · rintro i x σ H1 H2 hi ⟨a, b, rfl, e⟩ ⟨T0, y, v, rfl, nT0, rfl, ey, hv⟩
      have ey : y = .int (i : Nat) := (Option.some.inj ey).symm
      subst ey
      obtain ⟨x, hx, rfl⟩ := ints_at hv
      obtain ⟨x1, x2⟩ := ok x (List.mem_of_getElem? hx)
      refine ⟨T0, _, rfl, SqT.of upd_same, rfl, _, _, rfl, _, _, rfl, rfl, ?_⟩
      refine ⟨_, rfl, _, rfl, _, _, rfl, rfl, .int x, 0, n - 1, rfl, .int x, _, rfl, ?_⟩
      rw [btw_t x1 x2]
      exact iteF ⟨_, _, rfl, e.trans (same_new nT0)⟩
    · rintro σ H1 ⟨a, b, rfl, e⟩
      exact q H1 e
def spCkS (C : Addr) : Sp := fun vs H Q _ => ∃ (p : Addr) (n : Nat) (Ls : List (List Int)) (st : Int) (ms : List Int) (i : Int), vs = [.ref p, .int i] ∧ IsM C H p n Ls st ms ∧ 0 ≤ i ∧ i ≤ (Ls.length : Int) - 1 ∧ Q .non H
theorem scCkS : FnScope ["self", "state"] ["self", "state"] (defScope sCkS) := ⟨rfl, rfl, rfl, by decide +kernel, rfl, by decide +kernel, by decide +kernel⟩
theorem ok_ckS {f C : Addr} {fd : FuncData} (F : Fun K "_check_state" "Machine._check_state" sCkS f fd) (B : Bi mg) (T : Txt K C) (cB : Cal CX0 P w K mg base 2 "is_between" spBetween) : FnOk P w K mg base CX0 3 f fd ["self", "state"] (spCkS C) := by
  refine F.ok scCkS (fun vs H Q E h => ?_) (fun cdv A outer s H vs Q E hr h => ?_)
  · obtain ⟨p, n, Ls, st, ms, i, rfl, _⟩ := h
    rfl
  · obtain ⟨p, n, Ls, st, ms, i, rfl, ⟨dx, tb, rw_, mk, kd, ts, us, h1, h2, h3, _⟩, i0, i1, q⟩ := h
    refine ⟨_, pss_one (ps_if (pt_not (pt_val (pe_c cB hr pass0 (pa_cons (pv 1) (pa_cons pe_int (pa_cons (pe_op op_sub (pe_len B.len (pa_cons (pe_fld (pv 0) rfl) pa_nil)) pe_int) pa_nil)))))) pss_never pss_nil), ?_⟩
    refine ⟨_, rfl, _, rfl, p, C, dx, _, _, rfl, h1, T.cl, T.nT, mf_table _ _ _ _ _ _, tb, ts, rfl, .inl (SqL.of h2), _, _, rfl, rfl, .int i, 0, _, rfl, .int i, _, rfl, ?_⟩
    rw [Paired.length h3, btw_t i0 i1]
    exact iteF q
def spCkR (C : Addr) : Sp := fun vs H Q _ => ∃ (p s : Addr) (n : Nat) (Ls : List (List Int)) (st : Int) (ms xs : List Int), vs = [.ref p, .ref s] ∧ IsM C H p n Ls st ms ∧ LT H s (xs.map V.int) ∧ (∀ x ∈ xs, 0 ≤ x ∧ x ≤ (n : Int) - 1) ∧ ∀ H', Same H H' → Q .non H'
theorem scCkR : FnScope ["self", "row", "wrong"] ["self", "row"] (defScope sCkR) := ⟨rfl, rfl, rfl, by decide +kernel, rfl, by decide +kernel, by decide +kernel⟩
theorem ok_ckR {f C : Addr} {fd : FuncData} (F : Fun K "_check_row" "Machine._check_row" sCkR f fd) (B : Bi mg) (T : Txt K C) (cF : Cal CX0 P w K mg base 3 "first_wrong_sign" spFws) : FnOk P w K mg base CX0 4 f fd ["self", "row"] (spCkR C) := by
  refine F.ok scCkR (fun vs H Q E h => ?_) (fun cdv A outer s H vs Q E hr h => ?_)
  · obtain ⟨p, s, n, Ls, st, ms, xs, rfl, _⟩ := h
    rfl
  · obtain ⟨p, s0, n, Ls, st, ms, xs, rfl, ⟨dx, tb, rw_, mk, kd, ts, us, h1, _⟩, hs, ok, q⟩ := h
    refine ⟨_, pss_cons (ps_set (i := 2) scCkR.nd rfl (Or.inl rfl) (pe_c cF hr pass0 (pa_cons (pv 1) (pa_cons (pe_fld (pv 0) rfl) pa_nil)))) (pss_one (ps_if (pt_cmpR op_notN (pv 2) pe_non (nomark _)) pss_never pss_nil)), ?_⟩
    refine ⟨_, rfl, _, rfl, p, C, dx, _, _, rfl, h1, T.cl, T.nS, mf_signs _ _ _ _ _ _, s0, xs, _, rfl, hs, ok, fun H' e => ?_⟩
    exact ⟨_, rfl, rfl, _, rfl, iteF (q H' e)⟩
/-- state_behind(state, row) -/
def spBeh (C : Addr) : Sp := fun vs H Q _ => ∃ (p s : Addr) (n : Nat) (Ls : List (List Int)) (st : Int) (ms xs : List Int) (i : Int), vs = [.ref p, .int i, .ref s] ∧ IsM C H p n Ls st ms ∧ OkMa n Ls st ms ∧ LT H s (xs.map V.int) ∧ (∀ x ∈ xs, 0 ≤ x ∧ x ≤ (n : Int) - 1) ∧ 0 ≤ i ∧ i ≤ (Ls.length : Int) - 1 ∧ ∀ H', Same H H' → Q (.int (wlk Ls i xs)) H'
theorem scBeh : FnScope ["self", "state", "row", "sign"] ["self", "state", "row"] (defScope sBeh) := ⟨rfl, rfl, rfl, by decide +kernel, rfl, by decide +kernel, by decide +kernel⟩
theorem mem_take {α : Type} {xs : List α} {i : Nat} {x : α} (h : x ∈ xs.take i) : x ∈ xs := List.mem_of_mem_take h
theorem ok_beh {f C : Addr} {fd : FuncData} (F : Fun K "state_behind" "Machine.state_behind" sBeh f fd) (B : Bi mg) (T : Txt K C) (mS : Met CX0 P w K mg base 3 C "_check_state" (spCkS C)) (mR : Met CX0 P w K mg base 4 C "_check_row" (spCkR C)) (cT : Cal CX0 P w K mg base 1 "target_of" spTarget) :
    FnOk P w K mg base CX0 5 f fd ["self", "state", "row"] (spBeh C) := by
  refine F.ok scBeh (fun vs H Q E h => ?_) (fun cdv A outer s H vs Q E hr h => ?_)
  · obtain ⟨p, s, n, Ls, st, ms, xs, i, rfl, _⟩ := h
    rfl
  · obtain ⟨p, s0, n, Ls, st, ms, xs, i, rfl, M, O, hs, ok, i0, i1, q⟩ := h
    refine ⟨_, pss_cons (ps_expr (pe_mt mS hr pass0 (pv 0) (pa_cons (pv 1) pa_nil))) (pss_cons (ps_expr (pe_mt mR hr pass0 (pv 0) (pa_cons (pv 2) pa_nil)))
      (pss_cons (ps_for PassesOwn.never rfl (pi_sqA (pv 2)) (pg_name (i := 3) scBeh.nd rfl (.inl rfl)) (pss_one (ps_set (i := 1) scBeh.nd rfl (Or.inl rfl) (pe_c cT hr pass0 (pa_cons (pe_ix ix_list (pe_fld (pv 0) rfl) (pv 1) (fun _ _ => rfl)) (pa_cons (pv 3) pa_nil))))))
      (pss_one (ps_ret (pv 1))))), ?_⟩
    obtain ⟨dx, tb, rw_, mk, kd, ts, us, h1, h2, h3, _⟩ := id M
    have no : ∀ {x : Str}, ¬ x = "kinds" → ¬ x = "marks" → ¬ x = "start" → ¬ x = "rows" → ¬ x = "table" → ¬ x = "signs" → (machF (n : Nat) tb rw_ st mk kd).lookup x = none := fun a b c d e f => mf_no _ _ _ _ _ _ a b c d e f
    refine ⟨_, rfl, p, dx, _, rfl, h1, no (by decide +kernel) (by decide +kernel) (by decide +kernel) (by decide +kernel) (by decide +kernel) (by decide +kernel), _, rfl, p, n, Ls, st, ms, i, rfl, M, i0, i1, ?_⟩
    refine ⟨_, rfl, p, dx, _, rfl, h1, no (by decide +kernel) (by decide +kernel) (by decide +kernel) (by decide +kernel) (by decide +kernel) (by decide +kernel), _, rfl, p, s0, n, Ls, st, ms, xs, rfl, M, hs, ok, fun HX eX => ?_⟩
    have h1 := eX _ _ h1
    have h2 := eX _ _ h2
    have h3 := h3.same eX
    refine ⟨_, rfl, s0, _, rfl, (hs.same eX).sq, fun J G wk hG => for_it wk (fun j σ H' => ∃ (a : Option V), σ = [some (.ref p), some (.int (wlk Ls i (xs.take j))), some (.ref s0), a] ∧ H' = HX) ⟨none, rfl, rfl⟩ (fun j σ H' _ ⟨_, _, e⟩ => hG H' fun o z => by rw [e]; exact z) ?_ ?_⟩
    · rintro j x σ H1 H2 hj ⟨a, rfl, rfl⟩ ⟨rfl, hv⟩
      obtain ⟨x, hx, rfl⟩ := ints_at hv
      obtain ⟨x1, x2⟩ := ok x (List.mem_of_getElem? hx)
      obtain ⟨w1, w2⟩ := O.wlk (xs.take j) i0 i1 fun y hy => ok y (mem_take hy)
      obtain ⟨k, L, ek, hL, hLx, _, _⟩ := O.nxt w1 w2 x1 x2
      obtain ⟨tv, htv, ta, rs, rfl, hta, hpr⟩ := paired_to h3 hL
      obtain ⟨xn, rfl⟩ := Int.eq_ofNat_of_zero_le x1
      rw [Int.toNat_natCast] at hLx
      have lr : rs.length ≤ 10000 := by
        have a1 := Paired.length hpr
        have a2 := rle_len L
        have a3 := (O.row L (List.mem_of_getElem? hL)).1
        have a4 := O.n2
        omega
      refine ⟨_, rfl, p, C, dx, _, _, rfl, h1, T.cl, T.nT, mf_table _ _ _ _ _ _, _, rfl, tb, ts, _, .ref ta, rfl, rfl, SqL.of h2, ?_, _, rfl, ta, rs, L, xn, _, rfl, hta, hpr, lr, hLx, ⟨some (.int (xn : Nat)), ?_, rfl⟩⟩
      · rw [ek]
        exact atI_nat htv
      · rw [take_snoc hx, wlk_snoc]
        rfl
    · rintro σ H1 ⟨a, rfl, rfl⟩
      refine ⟨_, rfl, ?_⟩
      have e : xs.take (xs.map V.int).length = xs := by rw [List.length_map, List.take_length]
      rw [e]
      exact q _ eX
end
end K61
set_option Elab.async false
set_option linter.all false
set_option maxRecDepth 100001
set_option maxHeartbeats 3999999
namespace K61
open PySem L2
/-- the marked places among the first k of a row -/
def plc (Ls : List (List Int)) (ms : List Int) (st : Int) (xs : List Int) (k : Nat) : List Int := ((List.range k).filter fun i => decide (wlk Ls st (xs.take (i + 1)) ∈ ms)).map fun i => ((i : Nat) : Int)
theorem plc_succ (Ls : List (List Int)) (ms : List Int) (st : Int) (xs : List Int) (k : Nat) : plc Ls ms st xs (k + 1) = plc Ls ms st xs k ++ (if wlk Ls st (xs.take (k + 1)) ∈ ms then [((k : Nat) : Int)] else []) := by
  unfold plc
  rw [List.range_succ, List.filter_append, List.map_append]
  congr 1
  by_cases c : wlk Ls st (xs.take (k + 1)) ∈ ms
  · rw [if_pos c, List.filter_cons, if_pos (by simpa using c)]
    rfl
  · rw [if_neg c, List.filter_cons, if_neg (by simpa using c)]
    rfl
theorem plc_len (Ls : List (List Int)) (ms : List Int) (st : Int) (xs : List Int) (k : Nat) : (plc Ls ms st xs k).length ≤ k := by
  unfold plc
  rw [List.length_map]
  exact Nat.le_trans (List.length_filter_le _ _) (by rw [List.length_range]; exact Nat.le_refl _)
section
variable {P : Program} {w : World} {K : PySem.W.Frag} {mg : Str → Option Value} {base : Heap}
/-- marked_in(row) -/
def spMkd (C : Addr) : Sp := fun vs H Q _ => ∃ (p s : Addr) (n : Nat) (Ls : List (List Int)) (st : Int) (ms xs : List Int), vs = [.ref p, .ref s] ∧ IsM C H p n Ls st ms ∧ OkMa n Ls st ms ∧ LT H s (xs.map V.int) ∧ (∀ x ∈ xs, 0 ≤ x ∧ x ≤ (n : Int) - 1) ∧ xs.length ≤ 2000 ∧
  ∀ t H', Same H H' → H t = none → H' t = some (.tup ((plc Ls ms st xs xs.length).map V.int)) → Q (.ref t) H'
theorem scMkd : FnScope ["self", "row", "state", "places", "place", "sign"] ["self", "row"] (defScope sMkd) := ⟨rfl, rfl, rfl, by decide +kernel, rfl, by decide +kernel, by decide +kernel⟩
theorem ok_mkd {f C : Addr} {fd : FuncData} (F : Fun K "marked_in" "Machine.marked_in" sMkd f fd) (B : Bi mg) (T : Txt K C) (mR : Met CX0 P w K mg base 4 C "_check_row" (spCkR C)) (cT : Cal CX0 P w K mg base 1 "target_of" spTarget) : FnOk P w K mg base CX0 5 f fd ["self", "row"] (spMkd C) := by
  refine F.ok scMkd (fun vs H Q E h => ?_) (fun cdv A outer s H vs Q E hr h => ?_)
  · obtain ⟨p, s, n, Ls, st, ms, xs, rfl, _⟩ := h
    rfl
  · obtain ⟨p, s0, n, Ls, st, ms, xs, rfl, M, O, hs, ok, len, q⟩ := h
    refine ⟨_, pss_cons (ps_expr (pe_mt mR hr pass0 (pv 0) (pa_cons (pv 1) pa_nil))) (pss_cons (ps_set (i := 2) scMkd.nd rfl (Or.inl rfl) (pe_fld (pv 0) rfl)) (pss_cons (ps_set (i := 3) scMkd.nd rfl (Or.inl rfl) (pe_lst pa_nil))
      (pss_cons (ps_for PassesOwn.never rfl (pi_enA B.enum (pa_cons (pv 1) pa_nil)) (pg_tup rfl (pgs_cons (pg_name (i := 4) scMkd.nd rfl (.inl rfl)) (pgs_cons (pg_name (i := 5) scMkd.nd rfl (.inl rfl)) pgs_nil)))
        (pss_cons (ps_set (i := 2) scMkd.nd rfl (Or.inl rfl) (pe_c cT hr pass0 (pa_cons (pe_ix ix_list (pe_fld (pv 0) rfl) (pv 2) (fun _ _ => rfl)) (pa_cons (pv 5) pa_nil))))
        (pss_one (ps_if (pt_val (pe_ix ix_list (pe_fld (pv 0) rfl) (pv 2) (fun _ _ => rfl))) (pss_one (ps_expr (pe_bm PySem.F.plainAttrs_list PySem.F.slot_list_append PySem.F.type_list_append mt_append (pv 3) (pa_cons (pv 4) pa_nil)))) pss_nil))))
      (pss_one (ps_ret (pe_tupleOf rfl B.tuple (pv 3))))))), ?_⟩
    obtain ⟨dx, tb, rw_, mk, kd, ts, us, h1, h2, h3, h4, h5, h6, h7⟩ := id M
    refine ⟨_, rfl, p, dx, _, rfl, h1, mf_no _ _ _ _ _ _ (by decide +kernel) (by decide +kernel) (by decide +kernel) (by decide +kernel) (by decide +kernel) (by decide +kernel), _, rfl, p, s0, n, Ls, st, ms, xs, rfl, M, hs, ok, fun HX eX => ?_⟩
    have h1 := eX _ _ h1
    have h2 := eX _ _ h2
    have h3 := h3.same eX
    have h7 := eX _ _ h7
    refine ⟨_, rfl, p, C, dx, _, _, rfl, h1, T.cl, T.nA, mf_start _ _ _ _ _ _, Nat.zero_le _, fun L nL => ?_⟩
    have sL : s0 ≠ L := (hs.same eX).elim (fun h => ne_of_none h nL) fun h => ne_of_none h nL
    have hs1 : LT (upd HX L (.lst [])) s0 (xs.map V.int) := (hs.same eX).same (same_new nL)
    refine ⟨_, rfl, s0, _, rfl, hs1.sq, fun J G wk hG => for_it wk (fun j σ H' => ∃ (a b : Option V), σ = [some (.ref p), some (.ref s0), some (.int (wlk Ls st (xs.take j))), some (.ref L), a, b] ∧ Same HX H' ∧ H' L = some (.lst ((plc Ls ms st xs j).map V.int)))
      ⟨none, none, rfl, same_new nL, upd_same⟩ (fun j σ H' _ ⟨_, _, _, e, _⟩ => hG H' fun o z => ?_) ?_ ?_⟩
    · rw [upd_ne sL] at z
      exact e _ _ z
    · rintro j x σ H1 H2 hj ⟨a, b, rfl, e, hL⟩ ⟨T0, y, v, rfl, nT0, rfl, ey, hv⟩
      have ey : y = .int (j : Nat) := (Option.some.inj ey).symm
      subst ey
      obtain ⟨x, hx, rfl⟩ := ints_at hv
      obtain ⟨x1, x2⟩ := ok x (List.mem_of_getElem? hx)
      obtain ⟨w1, w2⟩ := O.wlk (xs.take j) O.s1 O.s2 fun y hy => ok y (mem_take hy)
      obtain ⟨k, L0, ek, hL0, hLx, v1, v2⟩ := O.nxt w1 w2 x1 x2
      obtain ⟨tv, htv, ta, rs, rfl, hta, hpr⟩ := paired_to h3 hL0
      obtain ⟨xn, rfl⟩ := Int.eq_ofNat_of_zero_le x1
      rw [Int.toNat_natCast] at hLx
      have lr : rs.length ≤ 10000 := by
        have a1 := Paired.length hpr
        have a2 := rle_len L0
        have a3 := (O.row L0 (List.mem_of_getElem? hL0)).1
        have a4 := O.n2
        omega
      have x3 := same_new (o := .tup [.int (j : Nat), .int (xn : Nat)]) nT0
      have e2 := e.trans x3
      have hL2 := x3 _ _ hL
      have hT0 : upd H1 T0 (.tup [.int (j : Nat), .int (xn : Nat)]) T0 = some (.tup [.int (j : Nat), .int (xn : Nat)]) := upd_same
      generalize upd H1 T0 (.tup [.int (j : Nat), .int (xn : Nat)]) = H2 at x3 e2 hL2 hT0 ⊢
      have et : wlk Ls st (xs.take (j + 1)) = nxt Ls (wlk Ls st (xs.take j)) (xn : Nat) := by rw [take_snoc hx, wlk_snoc]
      refine ⟨T0, _, rfl, SqT.of hT0, rfl, _, _, rfl, _, _, rfl, rfl, ?_⟩
      refine ⟨_, rfl, p, C, dx, _, _, rfl, e2 _ _ h1, T.cl, T.nT, mf_table _ _ _ _ _ _, _, rfl, tb, ts, _, .ref ta, rfl, rfl, SqL.of (e2 _ _ h2), (by rw [ek]; exact atI_nat htv), _, rfl, ta, rs, L0, xn, _, rfl, e2 _ _ hta, hpr.same e2, lr, hLx, ?_⟩
      rw [← et] at v1 v2 ⊢
      obtain ⟨q1, eq1⟩ := Int.eq_ofNat_of_zero_le v1
      have ps := plc_succ Ls ms st xs j
      refine ⟨_, rfl, p, C, dx, _, _, rfl, e2 _ _ h1, T.cl, T.nK, mf_kinds _ _ _ _ _ _, _, rfl, kd, _, _, _, rfl, rfl, SqL.of (e2 _ _ h7), (by rw [eq1]; exact atI_nat (kindsV_at (by omega))), _, rfl, ?_⟩
      rw [← eq1]
      by_cases c : wlk Ls st (xs.take (j + 1)) ∈ ms
      · rw [decide_eq_true c]
        rw [if_pos c] at ps
        refine iteT ⟨_, rfl, .inl ⟨rfl, _, SqL.of hL2⟩, _, rfl, L, _, _, rfl, rfl, hL2, by rw [List.length_map]; exact small10 (Nat.le_trans (plc_len _ _ _ _ _) (by simp at hj; omega)), _, _, rfl, fun b' o' z => ?_, ?_⟩
        · rw [upd_ne (ne_of_none z nL)]
          exact e2 _ _ z
        · rw [upd_same, ps, List.map_append]
          rfl
      · rw [decide_eq_false c]
        rw [if_neg c, List.append_nil] at ps
        exact iteF ⟨_, _, rfl, e2, by rw [ps]; exact hL2⟩
    · rintro σ H1 ⟨a, b, rfl, e, hL⟩
      rw [List.length_map] at hL
      refine ⟨_, rfl, .inl ⟨L, _, rfl, SqL.of hL, fun t nt => q t _ ((eX.trans e).trans (same_new nt)) ((eX.trans e).free nt) upd_same⟩⟩
end
end K61
set_option Elab.async false
set_option linter.all false
set_option maxRecDepth 100001
set_option maxHeartbeats 3999999
namespace K61
open PySem L2
abbrev NIn : List Str := ["self", "signs", "rows", "start", "marks", "state", "row", "least", "index", "mark", "away", "moves", "_"]
def endI (ms : List Int) : Int := match ms.getLast? with
  | some x => x + 1
  | none => 0
theorem endI_snoc (ms : List Int) (x : Int) : endI (ms ++ [x]) = x + 1 := by
  unfold endI
  rw [List.getLast?_concat]
theorem asc_at {ms : List Int} {k : Int} (hm : ∀ m ∈ ms, 0 ≤ m ∧ m ≤ k - 1) (up : ms.Pairwise (· < ·)) {i : Nat} {x : Int} (h : ms[i]? = some x) : endI (ms.take i) ≤ x ∧ x ≤ k - 1 := by
  obtain ⟨lt, eq⟩ := List.getElem?_eq_some_iff.mp h
  have hx := hm x (List.mem_of_getElem? h)
  refine ⟨?_, hx.2⟩
  cases i with
  | zero =>
    show (0 : Int) ≤ x
    exact hx.1
  | succ j =>
    have hj : ms[j]? = some ms[j] := List.getElem?_eq_getElem (by omega)
    rw [take_snoc hj, endI_snoc]
    have := List.pairwise_iff_getElem.mp up j (j + 1) (by omega) lt (by omega)
    rw [eq] at this
    omega
theorem kindsV_nil (k : Nat) : kindsV k [] = (List.range k).map fun _ => V.bl false := by
  unfold kindsV
  refine List.map_congr_left fun i _ => ?_
  simp
theorem kindsV_len (k : Nat) (ms : List Int) : (kindsV k ms).length = k := by
  unfold kindsV
  rw [List.length_map, List.length_range]
theorem kindsV_set (k : Nat) (ms : List Int) (j : Nat) (h : j < k) : (kindsV k ms).set j (.bl true) = kindsV k (ms ++ [((j : Nat) : Int)]) := by
  refine List.ext_getElem? fun i => ?_
  rw [List.getElem?_set]
  by_cases c : i < k
  · rw [kindsV_at c, kindsV_at c]
    by_cases d : j = i
    · subst d
      rw [if_pos rfl, if_pos (by rw [kindsV_len]; exact c)]
      simp
    · rw [if_neg d]
      have : ¬ ((i : Nat) : Int) = ((j : Nat) : Int) := by omega
      simp [this]
  · have e1 : (kindsV k ms)[i]? = none := List.getElem?_eq_none (by rw [kindsV_len]; omega)
    have e2 : (kindsV k (ms ++ [((j : Nat) : Int)]))[i]? = none := List.getElem?_eq_none (by rw [kindsV_len]; omega)
    rw [e1, e2, if_neg (show ¬ j = i by omega)]
theorem expT_len {n k a : Int} {ms : List Mv} {m : Nat} (h : OkM (m : Nat) k ms) : (expT a ms m).length = m := by
  obtain ⟨l1, l2, l3⟩ := expM_len (a := a) h
  have l4 : endM ms ≤ (m : Nat) := by
    rcases l3 with z | z
    · rw [z]
      show (0 : Int) ≤ _
      omega
    · exact z
  unfold expT
  rw [List.length_append, List.length_replicate]
  omega
theorem kTup_lt {K : PySem.W.Frag} {H : Hp} {u : Addr} {ts : List V} {Q : VK} (h : LT H u ts) (q : ∀ mt H9, Same H H9 → H9 mt = some (.tup ts) → Q (.ref mt) H9) : kTup K (.ref u) H Q := by
  rcases h with h | h
  · exact .inl ⟨u, ts, rfl, SqL.of h, fun t nt => q t _ (same_new nt) upd_same⟩
  · exact .inr ⟨u, ts, rfl, SqT.of h, q u H (Same.refl H) h⟩
theorem LT.at_ {C p dx u : Addr} {fs : List (Str × V)} {H H' : Hp} {ts : List V} (h : LT H u ts) (e : ButI p H H') (hp : H p = some (.ins C dx fs)) : LT H' u ts := by
  rcases h with h | h
  · exact .inl (e _ _ (ne_of h hp fun z => nomatch z) h)
  · exact .inr (e _ _ (ne_of h hp fun z => nomatch z) h)
theorem ixN_nat {n j : Nat} (h : j < n) : ixN n ((j : Nat) : Int) = some j := by
  unfold ixN
  simp
  omega
/-- the constants of the module -/
structure Cs (mg : Str → Option Value) : Prop where
  sg : ∃ u, mg "MOST_SIGNS_machines" = some u ∧ RelV (.int 2000) u
  st : ∃ u, mg "MOST_STATES_machines" = some u ∧ RelV (.int 2000) u
section
variable {P : Program} {w : World} {K : PySem.W.Frag} {mg : Str → Option Value} {base : Heap}
/-- Machine(signs, rows, start, marks) -/
def spInit (C : Addr) : Sp := fun vs H Q _ => ∃ (p dx r mk : Addr) (n : Nat) (st : Int) (rvs : List V) (Ls : List (List Int)) (ms : List Int), vs = [.ref p, .int (n : Nat), .ref r, .int st, .ref mk] ∧ H p = some (.ins C dx []) ∧ LT H r rvs ∧ RowsAt H n (Ls.length : Int) rvs Ls ∧ LT H mk (ms.map V.int) ∧ OkMa n Ls st ms ∧
  ∀ H', ButI p H H' → IsM C H' p n Ls st ms → Q .non H'
theorem scInit : FnScope NIn ["self", "signs", "rows", "start", "marks"] (defScope sInit) := ⟨rfl, rfl, rfl, by decide +kernel, rfl, by decide +kernel, by decide +kernel⟩
theorem ok_init {f C : Addr} {fd : FuncData} (F : Fun K "__init__" "Machine.__init__" sInit f fd) (B : Bi mg) (T : Txt K C) (Z : Cs mg) (cB : Cal CX0 P w K mg base 2 "is_between" spBetween) (cR : Cal CX0 P w K mg base 3 "is_row" spIsRow) (cS : Cal CX0 P w K mg base 2 "stretch_row" spStr) (cT : Cal CX0 P w K mg base 1 "told_row" spTold) :
    FnOk P w K mg base CX0 4 f fd ["self", "signs", "rows", "start", "marks"] (spInit C) := by
  refine F.ok scInit (fun vs H Q E h => ?_) (fun cdv A outer s H vs Q E hr h => ?_)
  · obtain ⟨p, dx, r, mk, n, st, rvs, Ls, ms, rfl, _⟩ := h
    rfl
  · obtain ⟨p, dx, r, mk, n, st, rvs, Ls, ms, rfl, hp, hrw, rows, hmk, O, q⟩ := h
    refine ⟨_, pss_cons (ps_if (pt_not (pt_val (pe_c cB hr pass0 (pa_cons (pv 1) (pa_cons pe_int (pa_cons (C8.pe_gc rfl Z.sg) pa_nil)))))) pss_never pss_nil)
      (pss_cons (ps_if (pt_not (pt_chain op_le op_le pe_int (pe_len B.len (pa_cons (pv 2) pa_nil)) (C8.pe_gc rfl Z.st))) pss_never pss_nil)
      (pss_cons (ps_for PassesOwn.never rfl (pi_enA B.enum (pa_cons (pv 2) pa_nil)) (pg_tup rfl (pgs_cons (pg_name (i := 5) scInit.nd rfl (.inl rfl)) (pgs_cons (pg_name (i := 6) scInit.nd rfl (.inl rfl)) pgs_nil)))
        (pss_one (ps_if (pt_not (pt_val (pe_c cR hr pass0 (pa_cons (pv 6) (pa_cons (pv 1) (pa_cons (pe_len B.len (pa_cons (pv 2) pa_nil)) pa_nil)))))) pss_never pss_nil)))
      (pss_cons (ps_if (pt_not (pt_val (pe_c cB hr pass0 (pa_cons (pv 3) (pa_cons pe_int (pa_cons (pe_op op_sub (pe_len B.len (pa_cons (pv 2) pa_nil)) pe_int) pa_nil)))))) pss_never pss_nil)
      (pss_cons (ps_set (i := 7) scInit.nd rfl (Or.inl rfl) pe_int)
      (pss_cons (ps_for PassesOwn.never rfl (pi_enA B.enum (pa_cons (pv 4) pa_nil)) (pg_tup rfl (pgs_cons (pg_name (i := 8) scInit.nd rfl (.inl rfl)) (pgs_cons (pg_name (i := 9) scInit.nd rfl (.inl rfl)) pgs_nil)))
        (pss_cons (ps_if (pt_not (pt_val (pe_c cB hr pass0 (pa_cons (pv 9) (pa_cons (pv 7) (pa_cons (pe_op op_sub (pe_len B.len (pa_cons (pv 2) pa_nil)) pe_int) pa_nil)))))) pss_never pss_nil)
        (pss_one (ps_set (i := 7) scInit.nd rfl (Or.inl rfl) (pe_op op_add (pv 9) pe_int)))))
      (pss_cons (ps_fld (pv 0) (pv 1) rfl)
      (pss_cons (ps_fld (pv 0) (pe_lc (own := [("away", 10), ("moves", 11)]) rfl scInit.nd (pi_sqA (pv 2)) (blkOk_by (N := NIn) (sc := defScope sInit) (by decide +kernel))
          (fun _ _ _ _ _ => pg_pairK K rfl rfl (pg_name (i := 10) scInit.nd rfl (Or.inl rfl)) (pg_name (i := 11) scInit.nd rfl (Or.inl rfl))) (fun _ _ _ _ _ => pts_nil) (fun _ _ _ _ _ => pe_c cS hr pass0 (pa_cons (pv 10) (pa_cons (pv 11) (pa_cons (pv 1) pa_nil))))) rfl)
      (pss_cons (ps_fld (pv 0) (pe_tupleOf rfl B.tuple (pe_lc (own := [("row", 6)]) rfl scInit.nd (pi_sqA (pe_fld (pv 0) rfl)) (blkOk_by (N := NIn) (sc := defScope sInit) (by decide +kernel))
          (fun _ _ _ _ _ => pg_name (i := 6) scInit.nd rfl (Or.inl rfl)) (fun _ _ _ _ _ => pts_nil) (fun _ _ _ _ _ => pe_c cT hr pass0 (pa_cons (pv 6) (pa_cons (pv 1) pa_nil))))) rfl)
      (pss_cons (ps_fld (pv 0) (pv 3) rfl)
      (pss_cons (ps_fld (pv 0) (pe_tupleOf rfl B.tuple (pv 4)) rfl)
      (pss_cons (ps_fld (pv 0) (pe_lc (own := [("_", 12)]) rfl scInit.nd (pi_sqA (pv 2)) (blkOk_by (N := NIn) (sc := defScope sInit) (by decide +kernel))
          (fun _ _ _ _ _ => pg_name (i := 12) scInit.nd rfl (Or.inl rfl)) (fun _ _ _ _ _ => pts_nil) (fun _ _ _ _ _ => pe_bl)) rfl)
      (pss_one (ps_for PassesOwn.never rfl (pi_sqA (pv 4)) (pg_name (i := 9) scInit.nd rfl (.inl rfl)) (pss_one (ps_asg pe_bl (pg_sub (pe_fld (pv 0) rfl) (pv 9) set_list)))))))))))))))), ?_⟩
    have lk : rvs.length = Ls.length := Paired.length rows
    have n1 := O.n1
    have n2 := O.n2
    have k1 := O.k1
    have k2 := O.k2
    have tup_ne : ∀ {p : Addr} {H : Hp} {dx : Addr} {fs : List (Str × V)}, H p = some (.ins C dx fs) → ∀ xs, H p ≠ some (.tup xs) := fun h xs z => by
      rw [h] at z
      cases z
    refine ⟨_, rfl, .int (n : Nat), 1, 2000, rfl, .int _, _, rfl, ?_⟩
    rw [btw_t (by omega) (by omega)]
    refine iteF ?_
    refine ⟨_, rfl, r, rvs, rfl, hrw.sq, _, _, rfl, rfl, _, rfl, ?_⟩
    rw [decide_eq_true (show (1 : Int) ≤ ((rvs.length : Nat) : Int) by omega)]
    refine iteT ⟨_, _, rfl, rfl, _, rfl, ?_⟩
    rw [decide_eq_true (show ((rvs.length : Nat) : Int) ≤ 2000 by omega)]
    refine iteF ?_
    refine ⟨_, rfl, r, rvs, rfl, hrw.sq, fun J G wk hG => for_it wk (fun i σ H' => ∃ (a b : Option V), σ = [some (.ref p), some (.int (n : Nat)), some (.ref r), some (.int st), some (.ref mk), a, b, none, none, none, none, none, none] ∧ Same H H') ⟨none, none, rfl, Same.refl H⟩ (fun i σ H' _ ⟨_, _, _, e⟩ => hG H' fun o z => e _ _ z) ?_ ?_⟩
    · rintro i x σ H1 H2 hi ⟨a, b, rfl, e⟩ ⟨T0, y, v, rfl, nT0, rfl, ey, hv⟩
      have ey : y = .int (i : Nat) := (Option.some.inj ey).symm
      subst ey
      obtain ⟨L, hL, a0, mvs, hrow, okm, a1, a2, _⟩ := paired_at rows hv
      have e2 := e.trans (same_new (o := .tup [.int (i : Nat), v]) nT0)
      refine ⟨T0, _, rfl, SqT.of upd_same, rfl, _, _, rfl, _, _, rfl, rfl, ?_⟩
      refine ⟨_, rfl, _, rfl, _, rfl, r, rvs, rfl, (hrw.same e2).sq, v, (n : Nat), _, a0, mvs, rfl, hrow.same e2, (by rw [lk]; exact okm), a1, (by rw [lk]; exact a2), fun H3 e3 => ⟨_, rfl, iteF ⟨_, _, rfl, e2.trans e3⟩⟩⟩
    rintro σ H1 ⟨a, b, rfl, e1⟩
    refine ⟨_, rfl, _, rfl, r, rvs, rfl, (hrw.same e1).sq, _, _, rfl, rfl, .int st, 0, _, rfl, .int _, _, rfl, ?_⟩
    rw [btw_t O.s1 (by rw [lk]; exact O.s2)]
    refine iteF ?_
    refine ⟨_, rfl, mk, _, rfl, (hmk.same e1).sq, fun J G wk hG => for_it wk (fun i σ H' => ∃ (c d : Option V), σ = [some (.ref p), some (.int (n : Nat)), some (.ref r), some (.int st), some (.ref mk), a, b, some (.int (endI (ms.take i))), c, d, none, none, none] ∧ Same H H') ⟨none, none, rfl, e1⟩ (fun i σ H' _ ⟨_, _, _, e⟩ => hG H' fun o z => ?_) ?_ ?_⟩
    · rcases hmk with h | h
      · rw [e1 _ _ h] at z
        cases z
        exact e _ _ h
      · rw [e1 _ _ h] at z
        cases z
        exact e _ _ h
    · rintro i x σ H2 H3 hi ⟨c, d, rfl, e⟩ ⟨T0, y, v, rfl, nT0, rfl, ey, hv⟩
      have ey : y = .int (i : Nat) := (Option.some.inj ey).symm
      subst ey
      obtain ⟨x, hx, rfl⟩ := ints_at hv
      obtain ⟨x1, x2⟩ := asc_at O.mar O.up hx
      have e2 := e.trans (same_new (o := .tup [.int (i : Nat), .int x]) nT0)
      refine ⟨T0, _, rfl, SqT.of upd_same, rfl, _, _, rfl, _, _, rfl, rfl, ?_⟩
      refine ⟨_, rfl, _, rfl, _, rfl, r, rvs, rfl, (hrw.same e2).sq, _, _, rfl, rfl, .int x, _, _, rfl, .int _, _, rfl, ?_⟩
      rw [btw_t x1 (by rw [lk]; exact x2)]
      refine iteF ⟨_, rfl, _, _, rfl, rfl, some (.int (i : Nat)), some (.int x), ?_, e2⟩
      rw [take_snoc hx, endI_snoc]
      rfl
    rintro σ H2 ⟨c, d, rfl, e2⟩
    clear e1
    -- signs
    have hp2 := e2 _ _ hp
    have fe : ∀ {xs : List (Str × V)}, xs.length < 900 → xs.length < 1000 := fun h => by omega
    refine ⟨_, rfl, _, rfl, p, C, dx, [], rfl, hp2, T.cl, T.nS, by show 0 < 1000; decide, ?_⟩
    have b3 : ButI p H (upd H2 p (.ins C dx (putF "signs" (.int (n : Nat)) []))) := fun b' o' nb z => (upd_ne nb).trans (e2 _ _ z)
    have hp3 : upd H2 p (.ins C dx (putF "signs" (.int (n : Nat)) [])) p = _ := upd_same
    generalize upd H2 p (.ins C dx (putF "signs" (.int (n : Nat)) [])) = H3 at b3 hp3 ⊢
    clear e2 hp2
    -- all but p stays
    have ltb : ∀ {H4 : Hp} {u : Addr} {ts : List V}, LT H u ts → ButI p H H4 → LT H4 u ts := fun h b4 => LT.at_ h b4 hp
    have trb : ∀ {H4 : Hp} {ts : List V} {l : List Mv}, TrAt H ts l → ButI p H H4 → TrAt H4 ts l := fun h b4 => h.at_ b4 (tup_ne hp)
    -- table
    refine ⟨_, rfl, r, rvs, rfl, (ltb hrw b3).sq, fun J G wk hG D nD => lc_it wk (fun i H' => ∃ ts : List V, Same H3 H' ∧ H' D = some (.lst ts) ∧ StrAt H' ts (Ls.take i)) ⟨[], same_new nD, upd_same, .nil⟩ (fun i H' _ ⟨_, z, _⟩ => hG H' fun o w => z _ _ w) ?_ ?_⟩
    · rintro i x H4 H5 hi ⟨ts, e4, hD, str⟩ ⟨rfl, hx⟩
      obtain ⟨L, hL, a0, mvs, ⟨t, u, tv, rfl, g1, g2, g3⟩, okm, a1, a2, rfl⟩ := paired_at rows hx
      have b4 : ButI p H H5 := fun b' o' nb z => e4 _ _ (b3 _ _ nb z)
      refine ⟨t, _, rfl, SqT.of (b4 _ _ (ne_of g1 hp fun z => nomatch z) g1), rfl, _, _, rfl, _, _, rfl, rfl, rfl, ?_⟩
      unfold tYes
      refine iteT ?_
      refine ⟨_, rfl, _, rfl, _, rfl, a0, u, n, _, tv, mvs, rfl, ltb g2 b4, trb g3 b4, okm, by omega, fun t' H6 rs e6 nt' ht' pr' => ?_⟩
      have hD6 := e6 _ _ hD
      refine ⟨_, hD6, ?_, ts ++ [.ref t'], fun b' o' z => ?_, upd_same, ?_⟩
      · have := Paired.length str
        rw [List.length_take] at this
        exact small10 (by omega)
      · rw [upd_ne (ne_of_none z nD)]
        exact e6 _ _ (e4 _ _ z)
      · rw [take_snoc hL]
        have b7 : ButI D H6 (upd H6 D (.lst (ts ++ [.ref t']))) := fun b' o' nb z => (upd_ne nb).trans z
        have nl : ∀ xs, H6 D ≠ some (.tup xs) := fun xs z => by rw [hD6] at z; cases z
        exact Paired.snoc ((str.same e6).at_ b7 nl) ⟨t', rs, rfl, (upd_ne (ne_of ht' hD6 fun z => nomatch z)).trans ht', pr'.at_ b7 nl⟩
    rintro H4 ⟨ts, e4, hD, str⟩
    rw [lk, List.take_length] at str
    have hp4 := e4 _ _ hp3
    refine ⟨_, rfl, p, C, dx, _, rfl, hp4, T.cl, T.nT, by show 1 < 1000; decide, ?_⟩
    have x5 : ButI p H4 (upd H4 p (.ins C dx (putF "table" (.ref D) (putF "signs" (.int (n : Nat)) [])))) := fun b' o' nb z => (upd_ne nb).trans z
    have b5 : ButI p H (upd H4 p (.ins C dx (putF "table" (.ref D) (putF "signs" (.int (n : Nat)) [])))) := fun b' o' nb z => x5 _ _ nb (e4 _ _ (b3 _ _ nb z))
    have hp5 : upd H4 p (.ins C dx (putF "table" (.ref D) (putF "signs" (.int (n : Nat)) []))) p = _ := upd_same
    have str5 := str.at_ x5 (tup_ne hp4)
    have hD5 := x5 _ _ (ne_of hD hp4 fun z => nomatch z) hD
    generalize upd H4 p (.ins C dx (putF "table" (.ref D) (putF "signs" (.int (n : Nat)) []))) = H5 at b5 hp5 str5 hD5 ⊢
    clear x5 str hD e4 hp4 b3 hp3
    -- rows
    have lt5 : (putF "table" (.ref D) (putF "signs" (.int (n : Nat)) [])).lookup ("table" : Str) = some (.ref D) := by rw [lookup_putF, if_pos rfl]
    refine ⟨_, rfl, p, C, dx, _, _, rfl, hp5, T.cl, T.nT, lt5, D, ts, rfl, .inl (SqL.of hD5), fun J G wk hG D2 nD2 => lc_it wk (fun i H' => ∃ us : List V, Same H5 H' ∧ H' D2 = some (.lst us) ∧ KrAt H' us (Ls.take i)) ⟨[], same_new nD2, upd_same, .nil⟩ (fun i H' _ ⟨_, z, _⟩ => hG H' fun o w => z _ _ w) ?_ ?_⟩
    · rintro i x H6 H7 hi ⟨us, e6, hD2, kr⟩ ⟨rfl, hx⟩
      obtain ⟨L, hL, t, rs, rfl, ht, pr⟩ := paired_at str5 hx
      have lenL := (O.row L (List.mem_of_getElem? hL)).1
      refine ⟨rfl, ?_⟩
      unfold tYes
      refine iteT ?_
      refine ⟨_, rfl, _, rfl, t, rs, L, (by rw [lenL]; rfl), e6 _ _ ht, pr.same e6, (fun z => by rw [z] at lenL; simp at lenL; omega), by omega, fun r' u' H8 mvs e8 nr' hr' hu' tr' => ?_⟩
      have hD8 := e8 _ _ hD2
      refine ⟨_, hD8, ?_, us ++ [.ref r'], fun b' o' z => ?_, upd_same, ?_⟩
      · have := Paired.length kr
        rw [List.length_take] at this
        exact small10 (by omega)
      · rw [upd_ne (ne_of_none z nD2)]
        exact e8 _ _ (e6 _ _ z)
      · rw [take_snoc hL]
        have b7 : ButI D2 H8 (upd H8 D2 (.lst (us ++ [.ref r']))) := fun b' o' nb z => (upd_ne nb).trans z
        have nl : ∀ xs, H8 D2 ≠ some (.tup xs) := fun xs z => by rw [hD8] at z; cases z
        exact Paired.snoc ((kr.same e8).at_ b7 nl) ⟨r', u', mvs, rfl, (upd_ne (ne_of hr' hD8 fun z => nomatch z)).trans hr', (upd_ne (ne_of hu' hD8 fun z => nomatch z)).trans hu', tr'.at_ b7 nl⟩
    rintro H6 ⟨us, e6, hD2, kr⟩
    rw [Paired.length str5, List.take_length] at kr
    refine .inl ⟨D2, us, rfl, SqL.of hD2, fun W nW => ?_⟩
    have hp6 : upd H6 W (.tup us) p = _ := (same_new nW) _ _ (e6 _ _ hp5)
    have kr6 := kr.same (same_new (o := .tup us) nW)
    have hW6 : upd H6 W (.tup us) W = some (.tup us) := upd_same
    have str6 := (str5.same e6).same (same_new (o := .tup us) nW)
    have hD6 := same_new (o := .tup us) nW _ _ (e6 _ _ hD5)
    have b6 : ButI p H (upd H6 W (.tup us)) := fun b' o' nb z => same_new nW _ _ (e6 _ _ (b5 _ _ nb z))
    generalize upd H6 W (.tup us) = H7 at hp6 kr6 hW6 str6 hD6 b6 ⊢
    clear str5 hD5 hp5 b5 e6 hD2 kr nW
    refine ⟨_, rfl, p, C, dx, _, rfl, hp6, T.cl, T.nR, by show 2 < 1000; decide, ?_⟩
    -- start, marks
    refine ⟨_, rfl, _, rfl, p, C, dx, _, rfl, upd_same, T.cl, T.nA, by show 3 < 1000; decide, ?_⟩
    have x8 : ButI p H7 (upd (upd H7 p (.ins C dx (putF "rows" (.ref W) (putF "table" (.ref D) (putF "signs" (.int (n : Nat)) []))))) p (.ins C dx (putF "start" (.int st) (putF "rows" (.ref W) (putF "table" (.ref D) (putF "signs" (.int (n : Nat)) [])))))) := fun b' o' nb z => (upd_ne nb).trans ((upd_ne nb).trans z)
    have hp8 : upd (upd H7 p (.ins C dx (putF "rows" (.ref W) (putF "table" (.ref D) (putF "signs" (.int (n : Nat)) []))))) p (.ins C dx (putF "start" (.int st) (putF "rows" (.ref W) (putF "table" (.ref D) (putF "signs" (.int (n : Nat)) []))))) p = _ := upd_same
    generalize upd (upd H7 p (.ins C dx (putF "rows" (.ref W) (putF "table" (.ref D) (putF "signs" (.int (n : Nat)) []))))) p (.ins C dx (putF "start" (.int st) (putF "rows" (.ref W) (putF "table" (.ref D) (putF "signs" (.int (n : Nat)) []))))) = H8 at x8 hp8 ⊢
    have kr8 := kr6.at_ x8 (tup_ne hp6)
    have str8 := str6.at_ x8 (tup_ne hp6)
    have hW8 := x8 _ _ (ne_of hW6 hp6 fun z => nomatch z) hW6
    have hD8 := x8 _ _ (ne_of hD6 hp6 fun z => nomatch z) hD6
    have b8 : ButI p H H8 := fun b' o' nb z => x8 _ _ nb (b6 _ _ nb z)
    clear x8 kr6 str6 hW6 hD6 b6 hp6
    have hmk8 := ltb hmk b8
    -- behind the marks
    refine ⟨_, rfl, kTup_lt hmk8 fun mt H9 e9 hmt => ?_⟩
    have hp9 := e9 _ _ hp8
    refine ⟨_, rfl, p, C, dx, _, rfl, hp9, T.cl, T.nM, by show 4 < 1000; decide, ?_⟩
    generalize eF : putF "marks" (V.ref mt) (putF "start" (.int st) (putF "rows" (.ref W) (putF "table" (.ref D) (putF "signs" (.int (n : Nat)) [])))) = FS
    have x10 : ButI p H9 (upd H9 p (.ins C dx FS)) := fun b' o' nb z => (upd_ne nb).trans z
    have hp10 : upd H9 p (.ins C dx FS) p = some (.ins C dx FS) := upd_same
    generalize upd H9 p (.ins C dx FS) = H10 at x10 hp10 ⊢
    have kr10 := (kr8.same e9).at_ x10 (tup_ne hp9)
    have str10 := (str8.same e9).at_ x10 (tup_ne hp9)
    have hW10 := x10 _ _ (ne_of (e9 _ _ hW8) hp9 fun z => nomatch z) (e9 _ _ hW8)
    have hD10 := x10 _ _ (ne_of (e9 _ _ hD8) hp9 fun z => nomatch z) (e9 _ _ hD8)
    have hmt10 := x10 _ _ (ne_of hmt hp9 fun z => nomatch z) hmt
    have b10 : ButI p H H10 := fun b' o' nb z => x10 _ _ nb (e9 _ _ (b8 _ _ nb z))
    clear x10 kr8 str8 hW8 hD8 b8 hp8 hp9 e9 hmt hmk8
    have hr10 := ltb hrw b10
    have hmk10 := ltb hmk b10
    refine ⟨_, rfl, r, rvs, rfl, hr10.sq, fun J G wk hG D3 nD3 => lc_it wk (fun i H' => Same H10 H' ∧ H' D3 = some (.lst ((List.range i).map fun _ => V.bl false))) ⟨same_new nD3, upd_same⟩ (fun i H' _ z => hG H' fun o w => z.1 _ _ w) ?_ ?_⟩
    · rintro i x H6 H7 hi ⟨e6, hD3⟩ ⟨rfl, hx⟩
      refine ⟨rfl, ?_⟩
      unfold tYes
      refine iteT ⟨_, hD3, by rw [List.length_map, List.length_range]; exact small10 (by omega), fun b' o' z => ?_, ?_⟩
      · rw [upd_ne (ne_of_none z nD3)]
        exact e6 _ _ z
      · rw [upd_same, List.range_succ, List.map_append]
        rfl
    rintro H11 ⟨e11, hD3⟩
    rw [lk, ← kindsV_nil] at hD3
    have hp11 := e11 _ _ hp10
    have x12 : ButI p H11 (upd H11 p (.ins C dx (putF "kinds" (.ref D3) FS))) := fun b' o' nb z => (upd_ne nb).trans z
    have l5 : FS.length < 1000 := by
      rw [← eF]
      show 5 < 1000
      decide
    refine ⟨_, rfl, p, C, dx, _, rfl, hp11, T.cl, T.nK, l5, ?_⟩
    have eM : putF "kinds" (V.ref D3) FS = machF (n : Nat) D W st mt D3 := by
      rw [← eF]
      rfl
    rw [eM] at x12 ⊢
    have hp12 : upd H11 p (.ins C dx (machF (n : Nat) D W st mt D3)) p = some (.ins C dx (machF (n : Nat) D W st mt D3)) := upd_same
    generalize upd H11 p (.ins C dx (machF (n : Nat) D W st mt D3)) = H12 at x12 hp12 ⊢
    have up12 : ButI p H10 H12 := fun b' o' nb z => x12 _ _ nb (e11 _ _ z)
    have hD12 : H12 D3 = some (.lst (kindsV Ls.length [])) := x12 _ _ (ne_of hD3 hp11 fun z => nomatch z) hD3
    clear x12 hD3 hp11 e11 eF eM l5
    have nmk : mk ≠ D3 := hmk10.elim (fun h => ne_of_none h nD3) fun h => ne_of_none h nD3
    have hmk12 : LT H12 mk (ms.map V.int) := LT.at_ hmk10 up12 hp10
    refine ⟨_, rfl, mk, _, rfl, hmk12.sq, fun J G wk hG => for_it wk (fun i σ H' => ∃ (c d : Option V), σ = [some (.ref p), some (.int (n : Nat)), some (.ref r), some (.int st), some (.ref mk), a, b, some (.int (endI (ms.take (ms.map V.int).length))), c, d, none, none, none] ∧ ButI D3 H12 H' ∧ H' D3 = some (.lst (kindsV Ls.length (ms.take i))))
      ⟨c, d, rfl, (fun _ _ _ z => z), hD12⟩ (fun i σ H' _ ⟨_, _, _, e, _⟩ => hG H' fun o z => e _ _ nmk z) ?_ ?_⟩
    · rintro i x σ H13 H14 hi ⟨c', d', rfl, e13, hK⟩ ⟨rfl, hv⟩
      obtain ⟨x, hx, rfl⟩ := ints_at hv
      obtain ⟨x1, x2⟩ := O.mar x (List.mem_of_getElem? hx)
      obtain ⟨j, rfl⟩ := Int.eq_ofNat_of_zero_le x1
      have hp14 := e13 _ _ (ne_of hp12 hD12 fun z => nomatch z) hp12
      refine ⟨_, rfl, p, C, dx, _, _, rfl, hp14, T.cl, T.nK, mf_kinds _ _ _ _ _ _, _, rfl, D3, _, (j : Nat), j, rfl, rfl, hK, ?_, c', some (.int (j : Nat)), rfl, fun b' o' nb z => (upd_ne nb).trans (e13 _ _ nb z), ?_⟩
      · rw [kindsV_len]
        exact ixN_nat (by omega)
      · rw [upd_same, kindsV_set _ _ _ (by omega), take_snoc hx]
    · rintro σ H13 ⟨c', d', rfl, e13, hK⟩
      rw [List.length_map, List.take_length] at hK
      have nD : ∀ {b' : Addr} {o' : HO}, H10 b' = some o' → b' ≠ D3 := fun z => ne_of_none z nD3
      have up13 : ∀ {b' : Addr} {o' : HO}, b' ≠ p → H10 b' = some o' → H13 b' = some o' := fun nb z => e13 _ _ (nD z) (up12 _ _ nb z)
      have tn : ∀ {b' : Addr} {xs : List V}, H10 b' = some (.tup xs) → b' ≠ p := fun z => ne_of z hp10 fun z => nomatch z
      refine q H13 (fun b' o' nb z => up13 nb (b10 _ _ nb z)) ⟨dx, D, W, mt, D3, ts, us, e13 _ _ (ne_of hp12 hD12 fun z => nomatch z) hp12, up13 (ne_of hD10 hp10 fun z => nomatch z) hD10, ?_, up13 (tn hW10) hW10, ?_, up13 (tn hmt10) hmt10, hK⟩
      · exact Paired.mapP str10 fun _ _ ⟨a', rs, g1, g2, g3⟩ => ⟨a', rs, g1, up13 (tn g2) g2, Paired.mapP g3 fun _ _ ⟨a2, g4, g5⟩ => ⟨a2, g4, up13 (tn g5) g5⟩⟩
      · exact Paired.mapP kr10 fun _ _ ⟨r', u', mv, g1, g2, g3, g4⟩ => ⟨r', u', mv, g1, up13 (tn g2) g2, up13 (tn g3) g3, Paired.mapP g4 fun _ _ ⟨a2, g5, g6⟩ => ⟨a2, g5, up13 (tn g6) g6⟩⟩
end
end K61
set_option Elab.async false
set_option linter.all false
set_option maxRecDepth 100001
set_option maxHeartbeats 3999999
namespace K61
open PySem L2
/-! ### values told as data -/
structure Enc {α : Type} [DecidableEq α] (f : α → PyData) (d : Nat) : Prop where
  eqv : ∀ a b, PyData.eqv (f a) (f b) = decide (a = b)
  lay : ∀ a, PyData.canLay0 (f a) = true
  dep : ∀ a, PyData.depth (f a) ≤ d
section
variable {α β γ δ : Type} [DecidableEq α] [DecidableEq β] [DecidableEq γ] [DecidableEq δ] {f : α → PyData} {g : β → PyData} {h : γ → PyData} {i : δ → PyData} {d d2 d3 d4 : Nat}
theorem enc_int : Enc PyData.int 0 := ⟨fun a b => by by_cases c : a = b <;> simp [PyData.eqv, c], fun a => by simp [PyData.canLay0], fun a => by simp [PyData.depth]⟩
theorem enc_bool : Enc PyData.bool 0 := ⟨fun a b => by cases a <;> cases b <;> simp [PyData.eqv], fun a => by simp [PyData.canLay0], fun a => by simp [PyData.depth]⟩
theorem Enc.mono (e : Enc f d) (h : d ≤ d2) : Enc f d2 := ⟨e.eqv, e.lay, fun a => Nat.le_trans (e.dep a) h⟩
theorem Enc.eqvAll (e : Enc f d) : ∀ xs ys : List α, PyData.eqvAll (xs.map f) (ys.map f) = decide (xs = ys)
  | [], [] => by simp [PyData.eqvAll]
  | [], _ :: _ => by simp [PyData.eqvAll]
  | _ :: _, [] => by simp [PyData.eqvAll]
  | x :: xs, y :: ys => by
    have ih := Enc.eqvAll e xs ys
    have e2 : PyData.eqvAll ((x :: xs).map f) ((y :: ys).map f) = (PyData.eqv (f x) (f y) && PyData.eqvAll (xs.map f) (ys.map f)) := by simp only [List.map_cons, PyData.eqvAll]
    rw [e2, ih, e.eqv]
    by_cases h1 : x = y
    · by_cases h2 : xs = ys
      · simp [h1, h2]
      · simp [h1, h2]
    · simp [h1]
theorem Enc.layAll (e : Enc f d) : ∀ xs : List α, PyData.canLayAll0 (xs.map f) = true
  | [] => by simp [PyData.canLayAll0]
  | x :: xs => by rw [List.map_cons, PyData.canLayAll0, e.lay, Enc.layAll e xs]; rfl
theorem Enc.depAll (e : Enc f d) : ∀ xs : List α, PyData.depthAll (xs.map f) ≤ d
  | [] => by simp [PyData.depthAll]
  | x :: xs => by
    have h1 := e.dep x
    have h2 := Enc.depAll e xs
    simp only [List.map_cons, PyData.depthAll]
    omega
theorem Enc.tup (e : Enc f d) : Enc (fun xs : List α => PyData.tuple (xs.map f)) (d + 1) :=
  ⟨fun a b => by simp only [PyData.eqv]; exact e.eqvAll a b, fun a => by simp only [PyData.canLay0]; exact e.layAll a, fun a => by simp only [PyData.depth]; have := e.depAll a; omega⟩
theorem Enc.lst (e : Enc f d) : Enc (fun xs : List α => PyData.list (xs.map f)) (d + 1) :=
  ⟨fun a b => by simp only [PyData.eqv]; exact e.eqvAll a b, fun a => by simp only [PyData.canLay0]; exact e.layAll a, fun a => by simp only [PyData.depth]; have := e.depAll a; omega⟩
theorem Enc.two (e : Enc f d) (e2 : Enc g d) : Enc (fun p : α × β => PyData.tuple [f p.1, g p.2]) (d + 1) := by
  refine ⟨fun a b => ?_, fun a => ?_, fun a => ?_⟩
  · simp only [PyData.eqv, PyData.eqvAll, e.eqv, e2.eqv, Bool.and_true]
    obtain ⟨a1, a2⟩ := a
    obtain ⟨b1, b2⟩ := b
    by_cases h1 : a1 = b1 <;> by_cases h2 : a2 = b2 <;> simp [h1, h2]
  · simp only [PyData.canLay0, PyData.canLayAll0, e.lay, e2.lay]
    rfl
  · have h1 := e.dep a.1
    have h2 := e2.dep a.2
    simp only [PyData.depth, PyData.depthAll]
    omega
theorem Enc.three (e : Enc f d) (e2 : Enc g d) (e3 : Enc h d) : Enc (fun p : α × β × γ => PyData.tuple [f p.1, g p.2.1, h p.2.2]) (d + 1) := by
  refine ⟨fun a b => ?_, fun a => ?_, fun a => ?_⟩
  · simp only [PyData.eqv, PyData.eqvAll, e.eqv, e2.eqv, e3.eqv, Bool.and_true]
    obtain ⟨a1, a2, a3⟩ := a
    obtain ⟨b1, b2, b3⟩ := b
    by_cases h1 : a1 = b1 <;> by_cases h2 : a2 = b2 <;> by_cases h3 : a3 = b3 <;> simp [h1, h2, h3]
  · simp only [PyData.canLay0, PyData.canLayAll0, e.lay, e2.lay, e3.lay]
    rfl
  · have h1 := e.dep a.1
    have h2 := e2.dep a.2.1
    have h3 := e3.dep a.2.2
    simp only [PyData.depth, PyData.depthAll]
    omega
theorem Enc.four (e : Enc f d) (e2 : Enc g d) (e3 : Enc h d) (e4 : Enc i d) : Enc (fun p : α × β × γ × δ => PyData.tuple [f p.1, g p.2.1, h p.2.2.1, i p.2.2.2]) (d + 1) := by
  refine ⟨fun a b => ?_, fun a => ?_, fun a => ?_⟩
  · simp only [PyData.eqv, PyData.eqvAll, e.eqv, e2.eqv, e3.eqv, e4.eqv, Bool.and_true]
    obtain ⟨a1, a2, a3, a4⟩ := a
    obtain ⟨b1, b2, b3, b4⟩ := b
    by_cases h1 : a1 = b1 <;> by_cases h2 : a2 = b2 <;> by_cases h3 : a3 = b3 <;> by_cases h4 : a4 = b4 <;> simp [h1, h2, h3, h4]
  · simp only [PyData.canLay0, PyData.canLayAll0, e.lay, e2.lay, e3.lay, e4.lay]
    rfl
  · have h1 := e.dep a.1
    have h2 := e2.dep a.2.1
    have h3 := e3.dep a.2.2.1
    have h4 := e4.dep a.2.2.2
    simp only [PyData.depth, PyData.depthAll]
    omega
theorem Enc.sh (e : Enc f d) (hd : d ≤ 64) (a : α) : SeqAt.shaped (f a) = true := by
  show (PyData.canLay0 (f a) && decide (PyData.depth (f a) ≤ 64)) = true
  rw [Bool.and_eq_true]
  exact ⟨e.lay a, decide_eq_true (Nat.le_trans (e.dep a) hd)⟩
/-- two values that are told as data by one rule -/
def rEqE {α : Type} [DecidableEq α] (K : PySem.W.Frag) (f : α → PyData) : R2 := fun x y H Q => ∃ a b : α, Dp K H x (f a) ∧ Dp K H y (f b) ∧ Q (.bl (decide (a = b))) H
def rNeE {α : Type} [DecidableEq α] (K : PySem.W.Frag) (f : α → PyData) : R2 := fun x y H Q => ∃ a b : α, Dp K H x (f a) ∧ Dp K H y (f b) ∧ Q (.bl (!decide (a = b))) H
theorem op_eqE {X : Cx} (hu : X.A.units + 64 < cLine) (e : Enc f d) (hd : d ≤ 64) : OpR X (compareOp .Eq) (rEqE X.K f) := by
  intro pins s σ H x y v u Q I rx ry h
  obtain ⟨a, b, d1, d2, q⟩ := h
  refine op_eqD hu pins s σ H _ _ v u Q I rx ry ⟨f a, f b, d1, d2, e.sh hd a, e.sh hd b, ?_⟩
  rw [e.eqv]
  exact q
theorem op_neE {X : Cx} (hu : X.A.units + 64 < cLine) (e : Enc f d) (hd : d ≤ 64) : OpR X (compareOp .NotEq) (rNeE X.K f) := by
  intro pins s σ H x y v u Q I rx ry h
  obtain ⟨a, b, d1, d2, q⟩ := h
  refine op_neD hu pins s σ H _ _ v u Q I rx ry ⟨f a, f b, d1, d2, e.sh hd a, e.sh hd b, ?_⟩
  rw [e.eqv]
  exact q
end
abbrev Rw := Int × List Mv
def dMv (t : Mv) : PyData := .tuple [.int t.1, .int t.2.1, .int t.2.2]
def dRow (r : Rw) : PyData := .tuple [.int r.1, .tuple (r.2.map dMv)]
def dRows (rs : List Rw) : PyData := .tuple (rs.map dRow)
def dInts (xs : List Int) : PyData := .tuple (xs.map .int)
def dAll (q : Int × List Rw × Int × List Int) : PyData := .tuple [.int q.1, dRows q.2.1, .int q.2.2.1, dInts q.2.2.2]
theorem enc_mv : Enc dMv 1 := enc_int.three enc_int enc_int
theorem enc_row : Enc dRow 3 := (enc_int.mono (by decide)).two enc_mv.tup
theorem enc_rows : Enc dRows 4 := enc_row.tup
theorem enc_ints : Enc dInts 1 := enc_int.tup
set_option synthInstance.maxHeartbeats 400000 in
set_option synthInstance.maxSize 4000 in
theorem enc_all : Enc dAll 5 := (enc_int.mono (by decide)).four enc_rows (enc_int.mono (by decide)) (enc_ints.mono (by decide))
section
variable {K : PySem.W.Frag} {H : Hp}
theorem dpAll_ints : ∀ xs : List Int, DpAll K H (xs.map V.int) (xs.map .int)
  | [] => .nil
  | _ :: xs => .cons (.int _) (dpAll_ints xs)
theorem dpAll_mvs : ∀ {ts : List V} {ms : List Mv}, TrAt H ts ms → DpAll K H ts (ms.map dMv)
  | _, _, .nil => .nil
  | _, _, .cons ⟨a, e, h⟩ t => by
    subst e
    exact .cons (.tup (SqT.of h) (.cons (.int _) (.cons (.int _) (.cons (.int _) .nil)))) (dpAll_mvs t)
theorem dpAll_rows : ∀ {us : List V} {Ls : List (List Int)}, KrAt H us Ls → DpAll K H us ((Ls.map Kr).map dRow)
  | _, _, .nil => .nil
  | _, _, .cons ⟨r, u, ms, e, h1, h2, h3⟩ t => by
    subst e
    exact .cons (.tup (SqT.of h1) (.cons (.int _) (.cons (.tup (SqT.of h2) (dpAll_mvs h3)) .nil))) (dpAll_rows t)
theorem dp_rows {a : Addr} {us : List V} {Ls : List (List Int)} (h : H a = some (.tup us)) (kr : KrAt H us Ls) : Dp K H (.ref a) (dRows (Ls.map Kr)) := .tup (SqT.of h) (dpAll_rows kr)
theorem dp_ints {a : Addr} {xs : List Int} (h : H a = some (.tup (xs.map V.int))) : Dp K H (.ref a) (dInts xs) := .tup (SqT.of h) (dpAll_ints xs)
end
theorem krs_inj : ∀ {Ls Ls' : List (List Int)} {n : Nat}, (∀ L ∈ Ls, L.length = n) → (∀ L ∈ Ls', L.length = n) → Ls.map Kr = Ls'.map Kr → Ls = Ls'
  | [], [], _, _, _, _ => rfl
  | [], _ :: _, _, _, _, h => by cases h
  | _ :: _, [], _, _, _, h => by cases h
  | L :: Ls, L' :: Ls', n, h1, h2, h => by
    rw [List.map_cons, List.map_cons] at h
    have e1 := List.cons.inj h
    rw [kr_inj e1.1 ((h1 L List.mem_cons_self).trans (h2 L' List.mem_cons_self).symm), krs_inj (fun M m => h1 M (List.mem_cons_of_mem _ m)) (fun M m => h2 M (List.mem_cons_of_mem _ m)) e1.2]
/-- rows in the one form are rows that are told -/
theorem kr_rows {H : Hp} {n : Nat} {Ls : List (List Int)} {us : List V} {k : Int} (kr : KrAt H us Ls) (hn : 1 ≤ n) (ok : ∀ L ∈ Ls, L.length = n ∧ ∀ x ∈ L, 0 ≤ x ∧ x ≤ k - 1) : RowsAt H n k us Ls := by
  have key : ∀ {us : List V} {Ms : List (List Int)}, KrAt H us Ms → (∀ L ∈ Ms, L ∈ Ls) → RowsAt H n k us Ms := by
    intro us Ms kr
    induction kr with
    | nil => exact fun _ => .nil
    | @cons v L vs Ms h t ih =>
      intro hm
      obtain ⟨r, u, ms, rfl, h1, h2, h3⟩ := h
      obtain ⟨l1, l2⟩ := ok L (hm L List.mem_cons_self)
      have ne : L ≠ [] := fun z => by rw [z] at l1; simp at l1; omega
      obtain ⟨k1, k2⟩ := kept_exp (L := L) (awayF L)
      obtain ⟨o1, _⟩ := k2 k l2
      have aw := l2 _ (awayF_of ne).1
      rw [l1] at o1 k1
      exact .cons ⟨awayF L, _, ⟨r, u, ms, rfl, h1, .inr h2, h3⟩, o1, aw.1, aw.2, k1.2⟩ (ih fun M m => hm M (List.mem_cons_of_mem _ m))
  exact key kr fun _ m => m
/-- what more the class is known by -/
structure TxE (K : PySem.W.Frag) (C : Addr) : Prop where
  cc : PySem.W.findIn K (.ref C) "__class__" = some (some (.builtin "object.__class__"))
  gg : PySem.W.specialIn K (.builtin "object.__class__") "__get__" = some (some (.builtin "getset_descriptor.__get__"))
  tk : PySem.W.takesIn K (.builtin "object.__class__") = some true
  mr : PySem.W.mroIn K C (.type "object") = some true
  kT : PySem.W.kitOne K (.type "tuple") (.ref C) = some false
theorem IsM.ty {K : PySem.W.Frag} {C : Addr} {H : Hp} {p : Addr} {n : Nat} {Ls : List (List Int)} {st : Int} {ms : List Int} (T : Txt K C) (E : TxE K C) (q : IsM C H p n Ls st ms) : TyX K H (.ref p) (.ref C) :=
  let ⟨_, _, _, _, _, _, _, h1, _⟩ := q
  .base (.ins h1 T.cl E.cc E.gg E.tk E.mr)
/-- one == other -/
def spEq (C : Addr) : Sp := fun vs H Q _ => ∃ (p : Addr) (y : V) (n : Nat) (Ls : List (List Int)) (st : Int) (ms : List Int), vs = [.ref p, y] ∧ IsM C H p n Ls st ms ∧ OkMa n Ls st ms ∧
  ((∃ (q : Addr) (n2 : Nat) (Ls2 : List (List Int)) (st2 : Int) (ms2 : List Int), y = .ref q ∧ IsM C H q n2 Ls2 st2 ms2 ∧ OkMa n2 Ls2 st2 ms2 ∧ Q (.bl (decide (n = n2 ∧ Ls = Ls2 ∧ st = st2 ∧ ms = ms2))) H) ∨ (∃ t xs, y = .ref t ∧ H t = some (.tup xs) ∧ Q (.bl false) H))
section
variable {P : Program} {w : World} {K : PySem.W.Frag} {mg : Str → Option Value} {base : Heap}
theorem scEq : FnScope ["self", "other"] ["self", "other"] (defScope sEq) := ⟨rfl, rfl, rfl, by decide +kernel, rfl, by decide +kernel, by decide +kernel⟩
theorem ok_eq {f C : Addr} {fd : FuncData} (F : Fun K "__eq__" "Machine.__eq__" sEq f fd) (B : Bi mg) (T : Txt K C) (TE : TxE K C) (gC : mg "Machine" = some (.ref C)) : FnOk P w K mg base CX0 1 f fd ["self", "other"] (spEq C) := by
  refine F.ok scEq (fun vs H Q E h => ?_) (fun cdv A outer s H vs Q E hr h => ?_)
  · obtain ⟨p, y, n, Ls, st, ms, rfl, _⟩ := h
    rfl
  · obtain ⟨p, y, n, Ls, st, ms, rfl, M, O, h⟩ := h
    refine ⟨_, pss_one (ps_ret (pe_and (pe_isi B.isi (pa_cons (pv 1) (pa_cons (pe_glob (v := .ref C) rfl gC rfl) pa_nil))) (pe_and (pe_cmpR op_eq (pe_fld (pv 0) rfl) (pe_fld (pv 1) rfl) (nomark _)) (pe_and (pe_cmpR (op_eqE (hu64 hr) enc_rows (by decide)) (pe_fld (pv 0) rfl) (pe_fld (pv 1) rfl) (nomark _))
        (pe_and (pe_cmpR op_eq (pe_fld (pv 0) rfl) (pe_fld (pv 1) rfl) (nomark _)) (pe_one (pe_cmpR (op_eqE (hu64 hr) enc_ints (by decide)) (pe_fld (pv 0) rfl) (pe_fld (pv 1) rfl) (nomark _)))))))), ?_⟩
    obtain ⟨dx, tb, rw_, mk, kd, ts, us, h1, h2, h3, h4, h5, h6, h7⟩ := id M
    rcases h with ⟨q, n2, Ls2, st2, ms2, rfl, M2, O2, h⟩ | ⟨t2, xs, rfl, ht, h⟩
    · obtain ⟨dx2, tb2, rw2, mk2, kd2, ts2, us2, g1, g2, g3, g4, g5, g6, g7⟩ := id M2
      refine ⟨_, rfl, _, _, _, _, _, rfl, .own C, M2.ty T TE, kit_self, _, rfl, ?_⟩
      refine ⟨_, rfl, p, C, dx, _, _, rfl, h1, T.cl, T.nS, mf_signs _ _ _ _ _ _, _, rfl, q, C, dx2, _, _, rfl, g1, T.cl, T.nS, mf_signs _ _ _ _ _ _, rfl, _, rfl, ?_⟩
      rw [dec_int]
      by_cases e1 : n = n2
      · rw [show (((n : Nat) : Int) == ((n2 : Nat) : Int)) = true by rw [e1]; simp]
        refine ⟨_, rfl, p, C, dx, _, _, rfl, h1, T.cl, T.nR, mf_rows _ _ _ _ _ _, _, rfl, q, C, dx2, _, _, rfl, g1, T.cl, T.nR, mf_rows _ _ _ _ _ _, _, _, dp_rows h4 h5, dp_rows g4 g5, _, rfl, ?_⟩
        by_cases e2 : Ls = Ls2
        · rw [decide_eq_true (congrArg (List.map Kr) e2)]
          refine ⟨_, rfl, p, C, dx, _, _, rfl, h1, T.cl, T.nA, mf_start _ _ _ _ _ _, _, rfl, q, C, dx2, _, _, rfl, g1, T.cl, T.nA, mf_start _ _ _ _ _ _, rfl, _, rfl, ?_⟩
          rw [dec_int]
          by_cases e3 : st = st2
          · rw [show (st == st2) = true by rw [e3]; simp]
            refine ⟨_, rfl, p, C, dx, _, _, rfl, h1, T.cl, T.nM, mf_marks _ _ _ _ _ _, _, rfl, q, C, dx2, _, _, rfl, g1, T.cl, T.nM, mf_marks _ _ _ _ _ _, _, _, dp_ints h6, dp_ints g6, ?_⟩
            have e : decide (n = n2 ∧ Ls = Ls2 ∧ st = st2 ∧ ms = ms2) = decide (ms = ms2) := by simp [e1, e2, e3]
            rw [e] at h
            exact h
          · rw [show (st == st2) = false by simpa using e3]
            rw [decide_eq_false fun z => e3 z.2.2.1] at h
            exact h
        · rw [decide_eq_false fun z => e2 (krs_inj (fun L m => (O.row L m).1) (fun L m => (O2.row L m).1.trans e1.symm) z)]
          rw [decide_eq_false fun z => e2 z.2.1] at h
          exact h
      · rw [show (((n : Nat) : Int) == ((n2 : Nat) : Int)) = false from beq_eq_false_iff_ne.mpr (by omega)]
        rw [decide_eq_false fun z => e1 z.1] at h
        exact h
    · exact ⟨_, rfl, _, _, _, _, _, rfl, .own C, .base (.tup ht), TE.kT, _, rfl, h⟩
/-- what comes of Machine(..) -/
theorem mk_ok {C : Addr} {H : Hp} {r mk : Addr} {n : Nat} {st : Int} {rvs : List V} {Ls : List (List Int)} {ms : List Int} {Q : VK} {E : XK} (hr : LT H r rvs) (rows : RowsAt H n (Ls.length : Int) rvs Ls) (hm : LT H mk (ms.map V.int)) (O : OkMa n Ls st ms)
    (q : ∀ x H', H x = none → Same H H' → IsM C H' x n Ls st ms → Q (.ref x) H') : ∀ x dx, H x = none → H dx = none → dx ≠ x → spInit C [.ref x, .int (n : Nat), .ref r, .int st, .ref mk] (upd (upd H dx (.own x)) x (.ins C dx [])) (fun v H2 => v = .non ∧ Q (.ref x) H2) E := by
  intro x dx nx ndx ne
  have nx2 : upd H dx (.own x) x = none := (upd_ne (Ne.symm ne)).trans nx
  have e : Same H (upd (upd H dx (.own x)) x (.ins C dx [])) := (same_new ndx).trans (same_new nx2)
  exact ⟨x, dx, r, mk, n, st, rvs, Ls, ms, rfl, upd_same, hr.same e, rows.same e, hm.same e, O, fun H' b M => ⟨rfl, q x H' nx (fun b' o' z => b _ _ (ne_of_none z nx) (e _ _ z)) M⟩⟩
end
end K61
set_option Elab.async false
set_option linter.all false
set_option maxRecDepth 100001
set_option maxHeartbeats 3999999
namespace K61
open PySem L2
abbrev sMof : Stmt := topS 45
/-- the states of which it holds -/
def selM (f : Nat → Bool) (k : Nat) : List Int := ((List.range k).filter f).map fun i => ((i : Nat) : Int)
def selV (f : Nat → Bool) (k : Nat) : List V := (List.range k).map fun i => V.bl (f i)
theorem selM_succ (f : Nat → Bool) (k : Nat) : selM f (k + 1) = selM f k ++ (if f k = true then [((k : Nat) : Int)] else []) := by
  unfold selM
  rw [List.range_succ, List.filter_append, List.map_append]
  congr 1
  by_cases c : f k = true
  · rw [if_pos c, List.filter_cons, if_pos c]
    rfl
  · rw [if_neg c, List.filter_cons, if_neg c]
    rfl
theorem selM_mem (f : Nat → Bool) (k : Nat) {m : Int} : m ∈ selM f k ↔ ∃ i : Nat, m = (i : Nat) ∧ i < k ∧ f i = true := by
  unfold selM
  rw [List.mem_map]
  constructor
  · rintro ⟨i, hi, rfl⟩
    obtain ⟨h1, h2⟩ := List.mem_filter.mp hi
    exact ⟨i, rfl, List.mem_range.mp h1, h2⟩
  · rintro ⟨i, rfl, h1, h2⟩
    exact ⟨i, List.mem_filter.mpr ⟨List.mem_range.mpr h1, h2⟩, rfl⟩
theorem selM_up (f : Nat → Bool) (k : Nat) : (selM f k).Pairwise (· < ·) := by
  unfold selM
  refine List.Pairwise.map _ (fun a b (h : a < b) => ?_) (List.Pairwise.filter _ List.pairwise_lt_range)
  omega
theorem selM_len (f : Nat → Bool) (k : Nat) : (selM f k).length ≤ k := by
  unfold selM
  rw [List.length_map]
  exact Nat.le_trans (List.length_filter_le _ _) (by rw [List.length_range]; exact Nat.le_refl _)
theorem OkMa.sel {n : Nat} {Ls : List (List Int)} {st : Int} {ms : List Int} (O : OkMa n Ls st ms) (f : Nat → Bool) : OkMa n Ls st (selM f Ls.length) :=
  ⟨O.n1, O.n2, O.k1, O.k2, O.row, O.s1, O.s2, fun m hm => by obtain ⟨i, rfl, h, _⟩ := (selM_mem _ _).mp hm; omega, selM_up _ _⟩
abbrev NMo : List Str := ["signs", "table", "start", "kinds", "marks", "state", "kind", "row"]
section
variable {P : Program} {w : World} {K : PySem.W.Frag} {mg : Str → Option Value} {base : Heap}
/-- machine_of(signs, table, start, kinds) -/
def spMof (C : Addr) : Sp := fun vs H Q _ => ∃ (tb kd : Addr) (n : Nat) (Ls : List (List Int)) (st : Int) (ts : List V) (f : Nat → Bool), vs = [.int (n : Nat), .ref tb, .int st, .ref kd] ∧ H tb = some (.lst ts) ∧ StrAt H ts Ls ∧ H kd = some (.lst (selV f Ls.length)) ∧ OkMa n Ls st (selM f Ls.length) ∧
  ∀ x H', H x = none → Same H H' → IsM C H' x n Ls st (selM f Ls.length) → Q (.ref x) H'
theorem scMof : FnScope NMo ["signs", "table", "start", "kinds"] (defScope sMof) := ⟨rfl, rfl, rfl, by decide +kernel, rfl, by decide +kernel, by decide +kernel⟩
theorem ok_mof {f C : Addr} {fd : FuncData} (F : Fun K "machine_of" "machine_of" sMof f fd) (B : Bi mg) (cT : Cal CX0 P w K mg base 1 "told_row" spTold) (mkC : Mak CX0 P w K mg base 4 "Machine" C (spInit C)) : FnOk P w K mg base CX0 6 f fd ["signs", "table", "start", "kinds"] (spMof C) := by
  refine F.ok scMof (fun vs H Q E h => ?_) (fun cdv A outer s H vs Q E hr h => ?_)
  · obtain ⟨tb, kd, n, Ls, st, ts, f, rfl, _⟩ := h
    rfl
  · obtain ⟨tb, kd, n, Ls, st, ts, f, rfl, htb, str, hkd, O, q⟩ := h
    refine ⟨_, pss_cons (ps_setLc (i := 4) (own := [("state", 5), ("kind", 6)]) rfl scMof.nd rfl rfl (sw_true rfl rfl rfl (by decide +kernel)) (pi_enA B.enum (pa_cons (pv 3) pa_nil)) (blkOk_by (N := NMo) (sc := defScope sMof) (by decide +kernel))
          (fun _ _ _ _ _ => pg_pairK K rfl rfl (pg_name (i := 5) scMof.nd rfl (Or.inl rfl)) (pg_name (i := 6) scMof.nd rfl (Or.inl rfl))) (fun _ _ _ _ _ => pts_one (pt_val (pv 6))) (fun _ _ _ _ _ => pv 5))
      (pss_one (ps_ret (pe_mk mkC hr pass0 (pa_cons (pv 0) (pa_cons (pe_lc (own := [("row", 7)]) rfl scMof.nd (pi_sqA (pv 1)) (blkOk_by (N := NMo) (sc := defScope sMof) (by decide +kernel))
          (fun _ _ _ _ _ => pg_name (i := 7) scMof.nd rfl (Or.inl rfl)) (fun _ _ _ _ _ => pts_nil) (fun _ _ _ _ _ => pe_c cT hr pass0 (pa_cons (pv 7) (pa_cons (pv 0) pa_nil)))) (pa_cons (pv 2) (pa_cons (pv 4) pa_nil))))))), ?_⟩
    have n1 := O.n1
    have n2 := O.n2
    have k2 := O.k2
    have lv : (selV f Ls.length).length = Ls.length := by unfold selV; rw [List.length_map, List.length_range]
    refine ⟨_, rfl, kd, _, rfl, .inl (SqL.of hkd), fun J G wk hG D nD => lc_it wk (fun i H' => Same H H' ∧ H' D = some (.lst ((selM f i).map V.int))) ⟨same_new nD, upd_same⟩ (fun i H' _ z => hG H' fun o w => z.1 _ _ w) ?_ ?_⟩
    · rintro i x H1 H2 hi ⟨e, hD⟩ ⟨T0, y, v, rfl, nT0, rfl, ey, hv⟩
      have ey : y = .int (i : Nat) := (Option.some.inj ey).symm
      subst ey
      have hv : (selV f Ls.length)[i]? = some v := hv
      rw [lv] at hi
      unfold selV at hv
      rw [List.getElem?_map, List.getElem?_range hi] at hv
      have ev : V.bl (f i) = v := Option.some.inj hv
      subst ev
      have x1 := same_new (o := .tup [.int (i : Nat), .bl (f i)]) nT0
      have hD1 := x1 _ _ hD
      refine ⟨T0, _, rfl, SqT.of upd_same, rfl, _, _, rfl, _, _, rfl, rfl, rfl, ?_⟩
      refine ⟨_, rfl, _, rfl, ?_⟩
      have ss := selM_succ f i
      cases c : f i with
      | true =>
        rw [if_pos c] at ss
        refine iteT ⟨_, rfl, _, (by rw [← c]; exact hD1), ?_, fun b' o' z => ?_, ?_⟩
        · rw [List.length_map]
          exact small10 (Nat.le_trans (selM_len _ _) (by omega))
        · rw [upd_ne (ne_of_none z nD), ← c]
          exact x1 _ _ (e _ _ z)
        · rw [upd_same, ss, List.map_append]
          rfl
      | false =>
        rw [if_neg (by rw [c]; decide), List.append_nil] at ss
        refine iteF ⟨?_, ?_⟩
        · rw [← c]
          exact e.trans x1
        · rw [ss, ← c]
          exact hD1
    rintro H1 ⟨e1, hD⟩
    rw [lv] at hD
    refine ⟨_, rfl, _, rfl, tb, ts, rfl, .inl (SqL.of (e1 _ _ htb)), fun J G wk hG D2 nD2 => lc_it wk (fun i H' => ∃ us : List V, Same H1 H' ∧ H' D2 = some (.lst us) ∧ KrAt H' us (Ls.take i)) ⟨[], same_new nD2, upd_same, .nil⟩ (fun i H' _ ⟨_, z, _⟩ => hG H' fun o w => z _ _ w) ?_ ?_⟩
    · rintro i x H6 H7 hi ⟨us, e6, hD2, kr⟩ ⟨rfl, hx⟩
      obtain ⟨L, hL, t, rs, rfl, ht, pr⟩ := paired_at str hx
      have lenL := (O.row L (List.mem_of_getElem? hL)).1
      refine ⟨rfl, ?_⟩
      unfold tYes
      refine iteT ?_
      refine ⟨_, rfl, _, rfl, t, rs, L, (by rw [lenL]; rfl), (e1.trans e6) _ _ ht, pr.same (e1.trans e6), (fun z => by rw [z] at lenL; simp at lenL; omega), by omega, fun r' u' H8 mvs e8 nr' hr' hu' tr' => ?_⟩
      have hD8 := e8 _ _ hD2
      refine ⟨_, hD8, ?_, us ++ [.ref r'], fun b' o' z => ?_, upd_same, ?_⟩
      · have := Paired.length kr
        rw [List.length_take] at this
        exact small10 (by omega)
      · rw [upd_ne (ne_of_none z nD2)]
        exact e8 _ _ (e6 _ _ z)
      · rw [take_snoc hL]
        have b7 : ButI D2 H8 (upd H8 D2 (.lst (us ++ [.ref r']))) := fun b' o' nb z => (upd_ne nb).trans z
        have nl : ∀ xs, H8 D2 ≠ some (.tup xs) := fun xs z => by rw [hD8] at z; cases z
        exact Paired.snoc ((kr.same e8).at_ b7 nl) ⟨r', u', mvs, rfl, (upd_ne (ne_of hr' hD8 fun z => nomatch z)).trans hr', (upd_ne (ne_of hu' hD8 fun z => nomatch z)).trans hu', tr'.at_ b7 nl⟩
    rintro H6 ⟨us, e6, hD2, kr⟩
    rw [Paired.length str, List.take_length] at kr
    refine ⟨_, rfl, _, rfl, ?_⟩
    have e7 := e1.trans e6
    exact mk_ok (.inl hD2) (kr_rows kr n1 O.row) (.inl (e6 _ _ hD)) O fun x H' nx e M => q x H' (e7.free nx) (e7.trans e) M
/-- inverted(machine) -/
def notM (k : Nat) (ms : List Int) : List Int := selM (fun i => !decide (((i : Nat) : Int) ∈ ms)) k
/-! ### the law's table -/
/-- lists of ints in the heap -/
def TabAt (H : Hp) : List V → List (List Int) → Prop := Paired fun v L => ∃ a, v = .ref a ∧ H a = some (.lst (L.map V.int))
theorem TabAt.same {H H' : Hp} {ts : List V} {T : List (List Int)} (h : TabAt H ts T) (e : Same H H') : TabAt H' ts T := Paired.mapP h fun _ _ ⟨a, h1, h2⟩ => ⟨a, h1, e _ _ h2⟩
/-- a table of so many states over s signs -/
def OkT (s : Nat) (T : List (List Int)) (k : Nat) : Prop := ∀ L ∈ T, L.length = s ∧ ∀ x ∈ L, 0 ≤ x ∧ x ≤ (k : Int) - 1
theorem TabAt.but {pn : Addr} {H H' : Hp} {ts : List V} {T : List (List Int)} (h : TabAt H ts T) (e : But pn H H') (hp : ∀ xs, H pn ≠ some (.lst xs)) : TabAt H' ts T := Paired.mapP h fun _ _ ⟨a, h1, h2⟩ => ⟨a, h1, e _ _ (fun z => hp _ (z ▸ h2)) h2⟩
/-- none of them at L -/
def TabN (L : Addr) (H : Hp) : List V → List (List Int) → Prop := Paired fun v R => ∃ a, v = .ref a ∧ a ≠ L ∧ H a = some (.lst (R.map V.int))
theorem TabN.but {pn L : Addr} {H H' : Hp} {ts : List V} {T : List (List Int)} (h : TabN L H ts T) (e : But pn H H') (hp : ∀ xs, H pn ≠ some (.lst xs)) : TabN L H' ts T := Paired.mapP h fun _ _ ⟨a, h1, h2, h3⟩ => ⟨a, h1, h2, e _ _ (fun z => hp _ (z ▸ h3)) h3⟩
theorem Pen.nl {H : Hp} {pn cl : Addr} {b : Nat} (h : Pen H pn cl b) : ∀ xs, H pn ≠ some (.lst xs) := fun xs z => by
  obtain ⟨_, _, _, h1, _⟩ := h
  rw [h1] at z
  cases z
theorem Pen.nt {H : Hp} {pn cl : Addr} {b : Nat} (h : Pen H pn cl b) : ∀ xs, H pn ≠ some (.tup xs) := fun xs z => by
  obtain ⟨_, _, _, h1, _⟩ := h
  rw [h1] at z
  cases z
end
end K61
set_option Elab.async false
set_option maxRecDepth 100001
set_option maxHeartbeats 3999999
/-! {k: v} with a tuple as its key. -/
namespace L2
open PySem.Spec PySem PyProof.Rows
def tDispT1 (tk tv : TE) : TE := fun σ H Q => ∀ p, H p = none → tk σ (upd H p (.dT [])) fun x H1 => tv σ H1 fun y H2 => ∃ (b : Addr) (k : List Key), x = .ref b ∧ H2 p = some (.dT []) ∧ H2 b = some (.tup (k.map kV)) ∧ Q (.ref p) (upd H2 p (.dT [(k, y)]))
theorem pe_dispT1 {X : Cx} {pos : Pos} {k v : Expr} {tk tv : TE} (hu : X.A.units < cLine) (hk : PE X k tk) (hv : PE X v tv) : PE X (.Dict [some k] [v] pos) (tDispT1 tk tv) := by
  refine ⟨fun pins s σ H Q I q => ?_⟩
  have hn := I.hok.fresh (Nat.le_refl s.heap.objs.size)
  have I1 := I.laid (a := s.heap.objs.size) (o := .dT []) (h' := s.heap.push { cls := .type "dict", data := .dict #[] }) (t' := s.toks) (fun _ _ q => Heap.get?_push_of_some _ q) (Nat.le_refl _) (dt_empty s.heap I.big)
  rw [arm_eval_Dict, zip_pairTrees [some k] [v] X.env pos rfl rfl, dictDisplay_pairs _ (by simp [pairTrees]) (by simp [pairTrees])]
  refine wpAny_bind (wpAny_standAt (wpAny_bind (wpAny_subDictH (knd := tupleKind (mixKind X.prog X.w)) (show X.A.units < cLine from hu) (by simp [pairTrees]) ?_)))
  refine pairTrees_cons_walk (thn (hk.run pins _ σ _ _ I1 (q _ hn)) fun u s1 ⟨x, H1, I1, rx, q1⟩ => thn (hv.run pins s1 σ H1 _ I1 q1) fun w2 s2 ⟨y, H2, I2, ry, b, ks, ex, e, eb, q2⟩ => pairTrees_nil_walk ?_)
  subst ex
  cases (show u = Value.ref b from rx)
  obtain ⟨z, hd, xs, rel, dd⟩ := dt_of I2.hok e
  cases rel
  refine ⟨[(ks, b, w2)], ⟨rfl, rfl, key_of I2.hok eb, trivial⟩, dd, fun h' tk dd' hs => wpAny_pure ⟨.ref s.heap.objs.size, _, ?_, rfl, q2⟩⟩
  obtain ⟨qo, es, ep, hq, h2, h3, h4, _, h5⟩ := dd'
  have kt : KT H2 [(ks, y)] (storedAllH [] [(ks, b, w2)]) := KT.put (kvs := []) .nil ks eb ry
  refine d_write I2 (by rw [e]; exact True.intro) hs ⟨qo, hq⟩ ⟨by rw [sizeLine_eq]; simp, hd, _, kt.keeps fun c ys ec => ?_, qo, es, ep, hq, h2, h3, h4, h5⟩
  rw [upd_ne (ne_of ec e (fun z => nomatch z))]
  exact ec
end L2
set_option Elab.async false
set_option linter.all false
set_option maxRecDepth 100001
set_option maxHeartbeats 3999999
namespace K61
open PySem L2
theorem nextOf {D : Ends} {σ : St} {H : Hp} (h : D.nx σ H) : tNext D σ H := h
theorem gN {i : Nat} {v : V} {σ : St} {H : Hp} {Q : St → Hp → Prop} (h : Q (σ.set i (some v)) H) : gName i v σ H Q := h
/-! ### stretched -/
abbrev sStd : Stmt := topS 2
abbrev NStd : List Str := ["targets", "row", "sign", "state"]
def spStd : L2.Sp := fun vs H Q _ => ∃ (a : Addr) (L : List Int), vs = [.ref a] ∧ LT H a (L.map V.int) ∧ L.length ≤ 5000 ∧ ∀ t H' rs, Same H H' → H t = none → H' t = some (.tup rs) → PrAt H' rs (rle L) → Q (.ref t) H'
section
variable {P : Program} {w : World} {K : PySem.W.Frag} {mg : Str → Option Value} {base : Heap}
theorem scStd : FnScope NStd ["targets"] (defScope sStd) := ⟨rfl, rfl, rfl, by decide +kernel, rfl, by decide +kernel, by decide +kernel⟩
theorem ok_Std {f : Addr} {fd : FuncData} (F : Fun K "stretched" "stretched" sStd f fd) (B : Bi mg) : FnOk P w K mg base CX0 1 f fd ["targets"] spStd := by
  refine F.ok scStd (fun vs H Q E h => ?_) (fun cdv A outer s H vs Q E hr h => ?_)
  · obtain ⟨a, L, rfl, _⟩ := h
    rfl
  · obtain ⟨a, L, rfl, ha, l5, q⟩ := h
    refine ⟨_, pss_cons (ps_set (i := 1) scStd.nd rfl (Or.inl rfl) (pe_lst pa_nil))
      (pss_cons (ps_for PassesOwn.never rfl (pi_enA B.enum (pa_cons (pv 0) pa_nil)) (pg_tup rfl (pgs_cons (pg_name (i := 2) scStd.nd rfl (Or.inl rfl)) (pgs_cons (pg_name (i := 3) scStd.nd rfl (Or.inl rfl)) pgs_nil)))
        (pss_one (ps_if (PW.pt (pw_or (pt_not (pt_truth (pv 1) (by intro _; rfl))) (pw_or1 (pt_cmpR op_ne (pe_ix ix_tup (pe_ix ix_list (pv 1) (pe_un un_neg pe_int) (fun _ _ => rfl)) pe_int (fun _ _ => rfl)) (pv 3) (nomark _))))) (pss_one (ps_expr (pe_bm PySem.F.plainAttrs_list PySem.F.slot_list_append PySem.F.type_list_append mt_append (pv 1) (pa_cons (pe_tup (pa_cons (pv 2) (pa_cons (pv 3) pa_nil))) pa_nil)))) pss_nil)))
      (pss_one (ps_ret (pe_tupleOf rfl B.tuple (pv 1))))), ?_⟩
    refine ⟨by show 0 ≤ sizeLine; decide, fun R nR => ?_⟩
    have e1 := same_new (o := .lst []) nR
    have hR : upd H R (.lst []) R = some (.lst []) := upd_same
    generalize upd H R (.lst []) = H1 at e1 hR ⊢
    have aR : a ≠ R := ha.elim (fun h => ne_of_none h nR) fun h => ne_of_none h nR
    have eqa : H1 a = H a := by
      rcases ha with h | h
      · rw [e1 _ _ h, h]
      · rw [e1 _ _ h, h]
    refine ⟨_, rfl, a, _, rfl, (ha.same e1).sq, fun J G wk hG => for_it wk (fun i σ H' => ∃ (o2 o3 : Option V) (ts : List V), σ = [some (.ref a), some (.ref R), o2, o3] ∧ Same H H' ∧ H' R = some (.lst ts) ∧ PrAt H' ts (rle (L.take i)) ∧ ts.length ≤ i) ⟨none, none, [], rfl, e1, hR, .nil, Nat.le_refl _⟩ (fun i σ H' _ ⟨_, _, _, _, e, _⟩ => hG H' fun o z => e _ _ (by rw [← eqa]; exact z)) ?_ ?_⟩
    · rintro i x σ H2 H3 hi ⟨o2, o3, ts, rfl, e2, hR2, pr, lt⟩ ⟨T0, y, v, rfl, nT0, rfl, ey, hv⟩
      rw [List.length_map] at hi
      cases ey
      obtain ⟨c, hc, rfl⟩ := ints_at hv
      have lT : (L.take i).length = i := by rw [List.length_take]; omega
      have et : rle (L.take (i + 1)) = put (rle (L.take i)) (i : Nat) c := by rw [take_snoc hc, rle_snoc, lT]
      refine ⟨T0, _, rfl, SqT.of upd_same, rfl, _, _, rfl, _, _, rfl, rfl, ?_⟩
      have e3 := same_new (o := .tup [.int ((i : Nat) : Int), .int c]) nT0
      have e23 := e2.trans e3
      have hR3 := e3 _ _ hR2
      have pr3 := pr.same e3
      generalize upd H2 T0 (.tup [.int ((i : Nat) : Int), .int c]) = H3 at e23 hR3 pr3 ⊢
      dsimp only
      have fin : rle (L.take (i + 1)) = rle (L.take i) ++ [(((i : Nat) : Int), c)] → tDrop (tBM K "list" rAppend (tVar 1) (tCons (tTup (tCons (tVar 2) (tCons (tVar 3) tNil))) tNil)) { nx := fun σ' H' => ∃ (o2 o3 : Option V) (ts : List V), σ' = [some (.ref a), some (.ref R), o2, o3] ∧ Same H H' ∧ H' R = some (.lst ts) ∧ PrAt H' ts (rle (L.take (i + 1))) ∧ ts.length ≤ i + 1, rt := Q } [some (.ref a), some (.ref R), some (.int ((i : Nat) : Int)), some (.int c)] H3 := fun e => by
        refine ⟨_, rfl, .inl ⟨rfl, _, SqL.of hR3⟩, _, rfl, _, rfl, by show 2 ≤ sizeLine; decide, fun t nt => ⟨R, ts, _, rfl, rfl, (upd_ne (ne_of_none hR3 nt)).trans hR3, small10 (by omega), ?_⟩⟩
        have ntL : t ≠ R := Ne.symm (ne_of_none hR3 nt)
        have e1 : But1 R H3 (upd (upd H3 t (.tup [.int ((i : Nat) : Int), .int c])) R (.lst (ts ++ [.ref t]))) := fun b o n z => by
          rw [upd_ne n, upd_ne (ne_of_none z nt)]
          exact z
        refine ⟨_, _, ts ++ [.ref t], rfl, fun b o z => e1 b o (ne_of_none z nR) (e23 _ _ z), upd_same, ?_, by simp; omega⟩
        rw [e]
        exact Paired.snoc (pr3.but hR3 e1) ⟨t, rfl, (upd_ne ntL).trans upd_same⟩
      rcases List.eq_nil_or_concat (rle (L.take i)) with z | ⟨l, p, z⟩
      · rw [z] at pr3 et
        cases pr3
        refine ⟨_, rfl, false, .inl ⟨[], SqL.of hR3, rfl⟩, ?_⟩
        refine iteT ?_
        refine iteT ?_
        exact fin (by rw [et, z]; rfl)
      · rw [z, List.concat_eq_append] at pr3
        obtain ⟨us, v, rfl, pu, a0, rfl, ha0⟩ := paired_last pr3
        refine ⟨_, rfl, true, .inl ⟨us ++ [V.ref a0], SqL.of hR3, by cases us <;> rfl⟩, ?_⟩
        refine iteF ?_
        have two : atI [V.int p.1, V.int p.2] 1 = some (V.int p.2) := rfl
        refine ⟨_, rfl, _, rfl, R, _, _, _, rfl, rfl, SqL.of hR3, atI_last us (V.ref a0), a0, _, _, _, rfl, rfl, SqT.of ha0, two, _, rfl, rfl, _, rfl, ?_⟩
        rw [dec_int]
        by_cases cc : p.2 = c
        · rw [show (p.2 == c) = true by simpa using cc]
          refine iteF ⟨_, _, us ++ [.ref a0], rfl, e23, hR3, ?_, by omega⟩
          rw [et, z, List.concat_eq_append, ← cc, put_same]
          exact pr3
        · rw [show (p.2 == c) = false by simpa using cc]
          refine iteT (fin ?_)
          rw [et, z, List.concat_eq_append, put_new cc]
    · rintro σ H2 ⟨o2, o3, ts, rfl, e2, hR2, pr, lt⟩
      dsimp only
      rw [List.length_map, List.take_length] at pr
      refine ⟨_, rfl, .inl ⟨R, ts, rfl, SqL.of hR2, fun t nt => ?_⟩⟩
      exact q t _ ts (e2.trans (same_new nt)) (e2.free nt) upd_same (pr.same (same_new nt))
end
/-! ### the standings of a code and a machine -/
/-- a proper beginning of a word -/
def Nd (ws : List W) (x : W) : Prop := ∃ (o : Nat) (v : W), v ≠ [] ∧ ws[o]? = some (x ++ v)
/-- the node behind a bit -/
def ndB (ws : List W) (x : W) (b : Bool) : W := if x ++ [b] ∈ ws then [] else x ++ [b]
def idxD {S : Type} [DecidableEq S] (o : List S) (y : S) : Nat := o.idxOf y
theorem idxD_lt {S : Type} [DecidableEq S] {o : List S} {y : S} (m : y ∈ o) : idxD o y < o.length := List.idxOf_lt_length_iff.mpr m
theorem idxD_get {S : Type} [DecidableEq S] {o : List S} {y : S} (m : y ∈ o) : o[idxD o y]? = some y := by
  rw [List.getElem?_eq_getElem (idxD_lt m)]
  exact congrArg some (List.getElem_idxOf (idxD_lt m))
/-- the sign that ends with a bit -/
def sgB (ws : List W) (x : W) (b : Bool) : Option Nat := if x ++ [b] ∈ ws then some (idxD ws (x ++ [b])) else none
theorem pf_at {ws : List W} (pf : PF ws) {i j : Nat} {a b : W} (hi : ws[i]? = some a) (hj : ws[j]? = some b) (h : a <+: b) : i = j := by
  obtain ⟨li, rfl⟩ := List.getElem?_eq_some_iff.mp hi
  obtain ⟨lj, rfl⟩ := List.getElem?_eq_some_iff.mp hj
  have g := List.pairwise_iff_getElem.mp pf
  rcases Nat.lt_trichotomy i j with c | c | c
  · exact absurd h (g i j li lj c).1
  · exact c
  · exact absurd h (g j i lj li c).2
theorem pf_idx {ws : List W} (pf : PF ws) {o : Nat} {u : W} (h : ws[o]? = some u) : idxD ws u = o :=
  pf_at pf (idxD_get (List.mem_of_getElem? h)) h List.prefix_rfl
theorem Nd.not {ws : List W} (pf : PF ws) {x : W} (h : Nd ws x) : x ∉ ws := fun m => by
  obtain ⟨o, v, n, e⟩ := h
  obtain ⟨i, hi⟩ := List.mem_iff_getElem?.mp m
  have := pf_at pf hi e (List.prefix_append _ _)
  subst this
  rw [hi] at e
  have := congrArg List.length (Option.some.inj e)
  rw [List.length_append] at this
  exact n (List.length_eq_zero_iff.mp (by omega))
/-- nodes are in the tree -/
theorem nd_mem {ws nm : List W} {y2 y3 : List V} {kvs : List (Key × V)} (T : TrOk ws nm y2 y3 kvs) (pf : PF ws) : ∀ (n : Nat) (x : W), x.length = n → Nd ws x → x ∈ nm
  | 0, x, e, _ => by
    rw [List.length_eq_zero_iff.mp e]
    exact List.mem_of_getElem? T.root
  | n + 1, x, e, h => by
    rcases List.eq_nil_or_concat x with rfl | ⟨y, b, rfl⟩
    · cases e
    · rw [List.concat_eq_append] at e h ⊢
      have ly : y.length = n := by simpa using e
      have hy : Nd ws y := by
        obtain ⟨o, v, n, z⟩ := h
        exact ⟨o, b :: v, (fun z => nomatch z), by rw [z, List.append_assoc]; rfl⟩
      obtain ⟨i, hi⟩ := List.mem_iff_getElem?.mp (nd_mem T pf n y ly hy)
      obtain ⟨_, k0, k1⟩ := T.dn i y hi
      have key : ∀ xs, KidOk ws nm xs i y b → y ++ [b] ∈ nm := fun xs ⟨c, _, k⟩ => by
        rcases k with ⟨j, _, _, hj⟩ | ⟨o, _, ho⟩
        · exact List.mem_of_getElem? hj
        · exact absurd (List.mem_of_getElem? ho) (h.not pf)
      cases b with
      | false => exact k0.elim False.elim (key _)
      | true => exact k1.elim False.elim (key _)
/-- the code at q -/
structure CdAt (C CR : Addr) (H : Hp) (q : Addr) (ws : List W) : Prop where
  ob : ∃ (dx lt wt tr : Addr) (L : Nat), H q = some (.ins C dx (coF L ws.length lt wt tr)) ∧ H wt = some (.tup (ws.map wV)) ∧ IsTr CR H tr ws
  pf : PF ws
  two : 2 ≤ ws.length
  few : ws.length ≤ 2000
  long : ∀ w ∈ ws, w.length ≤ 2000
theorem CdAt.same {C CR : Addr} {H H' : Hp} {q : Addr} {ws : List W} (h : CdAt C CR H q ws) (e : Same H H') : CdAt C CR H' q ws :=
  let ⟨dx, lt, wt, tr, L, h1, h2, h3⟩ := h.ob
  ⟨⟨dx, lt, wt, tr, L, e _ _ h1, e _ _ h2, h3.same e⟩, h.pf, h.two, h.few, h.long⟩
theorem co_tree (L n : Nat) (lt wt tr : Addr) : (coF L n lt wt tr).lookup ("tree" : Str) = some (.ref tr) := by
  unfold coF
  rw [lookup_putF, if_pos rfl]
theorem co_size (L n : Nat) (lt wt tr : Addr) : (coF L n lt wt tr).lookup ("size" : Str) = some (.int (n : Nat)) := by
  unfold coF
  rw [lookup_putF, if_neg (by decide +kernel), lookup_putF, if_pos rfl]
/-! ### Tree.behind -/
abbrev sTrB : Stmt := inClass (topS 27) 2
abbrev NTrB : List Str := ["self", "node", "bit"]
def spTrB (CR : Addr) : L2.Sp := fun vs H Q _ => ∃ (p dx a1 a2 a3 D : Addr) (y2 y3 : List V) (i : Nat) (b : Bool) (c : V), vs = [.ref p, .int (i : Nat), .str ⟨#[cd b]⟩] ∧ H p = some (.ins CR dx (putF "numbers" (.ref D) (trF a1 a2 a3))) ∧ H a2 = some (.lst y2) ∧ H a3 = some (.lst y3) ∧ (if b = true then y3 else y2)[i]? = some c ∧ Q c H
section
variable {P : Program} {w : World} {K : PySem.W.Frag} {mg : Str → Option Value} {base : Heap}
theorem tn_names (D a1 a2 a3 : Addr) : (putF "numbers" (.ref D) (trF a1 a2 a3)).lookup ("names" : Str) = some (.ref a1) := by
  rw [lookup_putF, if_neg (by decide +kernel), tr_names]
theorem tn_zeros (D a1 a2 a3 : Addr) : (putF "numbers" (.ref D) (trF a1 a2 a3)).lookup ("zeros" : Str) = some (.ref a2) := by
  rw [lookup_putF, if_neg (by decide +kernel), tr_zeros]
theorem tn_ones (D a1 a2 a3 : Addr) : (putF "numbers" (.ref D) (trF a1 a2 a3)).lookup ("ones" : Str) = some (.ref a3) := by
  rw [lookup_putF, if_neg (by decide +kernel), tr_ones]
theorem tn_numbers (D a1 a2 a3 : Addr) : (putF "numbers" (.ref D) (trF a1 a2 a3)).lookup ("numbers" : Str) = some (.ref D) := by
  rw [lookup_putF, if_pos rfl]
theorem scTrB : FnScope NTrB ["self", "node", "bit"] (defScope sTrB) := ⟨rfl, rfl, rfl, by decide +kernel, rfl, by decide +kernel, by decide +kernel⟩
theorem cd_one (b : Bool) : decide (V.str ⟨#[cd b]⟩ = V.str "1") = b := by
  cases b
  · exact decide_eq_false (fun z => by
      injection z with z
      exact absurd z (by decide +kernel))
  · exact decide_eq_true rfl
theorem ok_TrB {f CR : Addr} {fd : FuncData} (F : Fun K "behind" "Tree.behind" sTrB f fd) (T : TxR K CR) : FnOk P w K mg base CX0 1 f fd ["self", "node", "bit"] (spTrB CR) := by
  refine F.ok scTrB (fun vs H Q E h => ?_) (fun cdv A outer s H vs Q E hr h => ?_)
  · obtain ⟨p, dx, a1, a2, a3, D, y2, y3, i, b, c, rfl, _⟩ := h
    rfl
  · obtain ⟨p, dx, a1, a2, a3, D, y2, y3, i, b, c, rfl, hp, h2, h3, hc, q⟩ := h
    refine ⟨_, pss_one (ps_ret (pe_ifExp (pt_cmpR op_eq (pv 2) pe_str (nomark _)) (pe_ix ix_list (pe_fld (pv 0) rfl) (pv 1) (fun _ _ => rfl)) (pe_ix ix_list (pe_fld (pv 0) rfl) (pv 1) (fun _ _ => rfl)))), ?_⟩
    refine ⟨_, rfl, rfl, _, rfl, ?_⟩
    rw [cd_one]
    cases b with
    | true => exact iteT ⟨_, rfl, p, CR, dx, _, _, rfl, hp, T.cl, T.o, tn_ones _ _ _ _, _, rfl, a3, y3, _, c, rfl, rfl, SqL.of h3, atI_nat hc, q⟩
    | false => exact iteF ⟨_, rfl, p, CR, dx, _, _, rfl, hp, T.cl, T.z, tn_zeros _ _ _ _, _, rfl, a2, y2, _, c, rfl, rfl, SqL.of h2, atI_nat hc, q⟩
end
/-! ### node_or_sign -/
abbrev sNoS : Stmt := topS 50
abbrev NNoS : List Str := ["code", "node", "bit", "behind"]
def sgV : Option Nat → V
  | some o => .int (o : Nat)
  | none => .non
def spNoS (C CR : Addr) : L2.Sp := fun vs H Q _ => ∃ (q : Addr) (ws : List W) (x : W) (b : Bool), vs = [.ref q, wV x, .str ⟨#[cd b]⟩] ∧ CdAt C CR H q ws ∧ Nd ws x ∧ ∀ t H', Same H H' → H' t = some (.tup [wV (ndB ws x b), sgV (sgB ws x b)]) → Q (.ref t) H'
section
variable {P : Program} {w : World} {K : PySem.W.Frag} {mg : Str → Option Value} {base : Heap}
theorem tr_no (D a1 a2 a3 : Addr) : (putF "numbers" (.ref D) (trF a1 a2 a3)).lookup ("behind" : Str) = none := by
  unfold trF
  rw [lookup_putF, if_neg (by decide +kernel), lookup_putF, if_neg (by decide +kernel), lookup_putF, if_neg (by decide +kernel), lookup_putF, if_neg (by decide +kernel)]
  rfl
theorem scNoS : FnScope NNoS ["code", "node", "bit"] (defScope sNoS) := ⟨rfl, rfl, rfl, by decide +kernel, rfl, by decide +kernel, by decide +kernel⟩
theorem ok_NoS {f C CR : Addr} {fd : FuncData} (F : Fun K "node_or_sign" "node_or_sign" sNoS f fd) (TC : TxC K C) (T : TxR K CR) (mB : Met CX0 P w K mg base 1 CR "behind" (spTrB CR)) : FnOk P w K mg base CX0 2 f fd ["code", "node", "bit"] (spNoS C CR) := by
  refine F.ok scNoS (fun vs H Q E h => ?_) (fun cdv A outer s H vs Q E hr h => ?_)
  · obtain ⟨q, ws, x, b, rfl, _⟩ := h
    rfl
  · obtain ⟨q, ws, x, b, rfl, cd, nd, k⟩ := h
    refine ⟨_, pss_cons (ps_set (i := 3) scNoS.nd rfl (Or.inl rfl) (pe_mt mB hr pass0 (pe_fld (pv 0) rfl) (pa_cons (pe_dget (hu_of hr) (pe_fld (pe_fld (pv 0) rfl) rfl) (pv 1) (fun _ _ => rfl)) (pa_cons (pv 2) pa_nil))))
      (pss_one (ps_ret (pe_ifExp (pt_cmpR op_ge (pv 3) pe_int (nomark _)) (pe_tup (pa_cons (pe_ix ix_list (pe_fld (pe_fld (pv 0) rfl) rfl) (pv 3) (fun _ _ => rfl)) (pa_cons pe_non pa_nil))) (pe_tup (pa_cons pe_str (pa_cons (pe_op op_sub (pe_un un_neg pe_int) (pv 3)) pa_nil)))))), ?_⟩
    obtain ⟨dx, lt, wt, tr, L, hq, hw, dx2, a1, a2, a3, D, nm, y2, y3, kvs, hp, h1, h2, h3, hD, TR⟩ := cd.ob
    obtain ⟨i, hi, hnm⟩ := TR.num x (nd_mem TR cd.pf _ x rfl nd)
    obtain ⟨_, k0, k1⟩ := TR.dn i x hnm
    obtain ⟨c, hc, out⟩ : KidOk ws nm (if b = true then y3 else y2) i x b := by
      cases b with
      | true => exact k1.elim False.elim id
      | false => exact k0.elim False.elim id
    refine ⟨_, rfl, q, C, dx, _, _, rfl, hq, TC.cl, TC.t, co_tree _ _ _ _ _, tr, dx2, _, rfl, hp, tr_no _ _ _ _, ?_⟩
    refine ⟨_, rfl, q, C, dx, _, _, rfl, hq, TC.cl, TC.t, co_tree _ _ _ _ _, tr, CR, dx2, _, _, rfl, hp, T.cl, T.b, tn_numbers _ _ _ _, _, rfl, D, _, rfl, hi ▸ DGet.k (k := .inr (bS x)) hD, ?_⟩
    refine ⟨_, rfl, tr, dx2, a1, a2, a3, D, y2, y3, i, b, c, rfl, hp, h2, h3, hc, ?_⟩
    dsimp only
    rcases out with ⟨j, rfl, ij, hj⟩ | ⟨o, rfl, ho⟩
    · have nw : x ++ [b] ∉ ws := by
        obtain ⟨⟨o, v, n, e⟩, _⟩ := TR.dn j _ hj
        exact Nd.not cd.pf ⟨o, v, n, e⟩
      refine ⟨_, rfl, _, _, rfl, rfl, _, rfl, ?_⟩
      rw [decide_eq_true (show (0 : Int) ≤ ((j : Nat) : Int) by omega)]
      refine iteT ⟨_, rfl, q, C, dx, _, _, rfl, hq, TC.cl, TC.t, co_tree _ _ _ _ _, tr, CR, dx2, _, _, rfl, hp, T.cl, T.n, tn_names _ _ _ _, _, rfl, a1, _, _, wV (x ++ [b]), rfl, rfl, SqL.of h1, atI_nat (by rw [List.getElem?_map, hj]; rfl), by show 2 ≤ sizeLine; decide, fun t nt => ?_⟩
      refine k t _ (same_new nt) ?_
      unfold ndB sgB
      rw [if_neg nw, if_neg nw]
      exact upd_same
    · have nw : x ++ [b] ∈ ws := List.mem_of_getElem? ho
      refine ⟨_, rfl, _, _, rfl, rfl, _, rfl, ?_⟩
      rw [decide_eq_false (show ¬ (0 : Int) ≤ -1 - ((o : Nat) : Int) by omega)]
      refine iteF ⟨_, rfl, _, rfl, _, _, rfl, rfl, by show 2 ≤ sizeLine; decide, fun t nt => ?_⟩
      refine k t _ (same_new nt) ?_
      unfold ndB sgB
      rw [if_pos nw, if_pos nw, pf_idx cd.pf ho]
      show upd H t _ t = some (.tup [.str (bS []), .int ((o : Nat) : Int)])
      rw [upd_same]
      refine congrArg (fun v : Int => some (HO.tup [V.str (bS []), V.int v])) ?_
      omega
end
/-! ### standing_behind -/
abbrev sStB : Stmt := topS 51
abbrev NStB : List Str := ["code", "machine", "standing", "bit", "state", "node", "behind", "sign"]
/-- the standing behind a bit -/
def stp (ws : List W) (Ls : List (List Int)) (s : Int × W) (b : Bool) : Int × W := match sgB ws s.2 b with
  | some o => (nxt Ls s.1 (o : Nat), [])
  | none => (s.1, ndB ws s.2 b)
theorem sgB_lt {ws : List W} {x : W} {b : Bool} {o : Nat} (h : sgB ws x b = some o) : o < ws.length := by
  unfold sgB at h
  split at h
  · rename_i m
    cases h
    exact idxD_lt m
  · cases h
/-- a code, and a machine over its signs -/
structure CM (C CR CMa : Addr) (H : Hp) (q m : Addr) (ws : List W) (Ls : List (List Int)) (st : Int) (ms : List Int) : Prop where
  cd : CdAt C CR H q ws
  ma : IsM CMa H m ws.length Ls st ms
  ok : OkMa ws.length Ls st ms
theorem CM.same {C CR CMa : Addr} {H H' : Hp} {q m : Addr} {ws : List W} {Ls : List (List Int)} {st : Int} {ms : List Int} (h : CM C CR CMa H q m ws Ls st ms) (e : Same H H') : CM C CR CMa H' q m ws Ls st ms := ⟨h.cd.same e, h.ma.same e, h.ok⟩
/-- a standing that there is -/
def SOk (ws : List W) (Ls : List (List Int)) (s : Int × W) : Prop := 0 ≤ s.1 ∧ s.1 ≤ (Ls.length : Int) - 1 ∧ Nd ws s.2
def spStB (C CR CMa : Addr) : L2.Sp := fun vs H Q _ => ∃ (q m t : Addr) (ws : List W) (Ls : List (List Int)) (st : Int) (ms : List Int) (s : Int) (x : W) (b : Bool), vs = [.ref q, .ref m, .ref t, .str ⟨#[cd b]⟩] ∧ CM C CR CMa H q m ws Ls st ms ∧ H t = some (.tup [.int s, wV x]) ∧ SOk ws Ls (s, x) ∧
  ∀ r u H', Same H H' → H' r = some (.tup [.ref u, .bl (sgB ws x b).isSome]) → H' u = some (.tup [.int (stp ws Ls (s, x) b).1, wV (stp ws Ls (s, x) b).2]) → Q (.ref r) H'
section
variable {P : Program} {w : World} {K : PySem.W.Frag} {mg : Str → Option Value} {base : Heap}
theorem scStB : FnScope NStB ["code", "machine", "standing", "bit"] (defScope sStB) := ⟨rfl, rfl, rfl, by decide +kernel, rfl, by decide +kernel, by decide +kernel⟩
theorem ok_StB {f C CR CMa : Addr} {fd : FuncData} (F : Fun K "standing_behind" "standing_behind" sStB f fd) (T : Txt K CMa) (cN : Cal CX0 P w K mg base 2 "node_or_sign" (spNoS C CR)) (cT : Cal CX0 P w K mg base 1 "target_of" spTarget) : FnOk P w K mg base CX0 3 f fd ["code", "machine", "standing", "bit"] (spStB C CR CMa) := by
  refine F.ok scStB (fun vs H Q E h => ?_) (fun cdv A outer s H vs Q E hr h => ?_)
  · obtain ⟨q, m, t, ws, Ls, st, ms, s, x, b, rfl, _⟩ := h
    rfl
  · obtain ⟨q, m, t, ws, Ls, st, ms, s, x, b, rfl, M, ht, ok, k⟩ := h
    refine ⟨_, pss_cons (ps_asg (pv 2) (pg_tup rfl (pgs_cons (pg_name (i := 4) scStB.nd rfl (Or.inl rfl)) (pgs_cons (pg_name (i := 5) scStB.nd rfl (Or.inl rfl)) pgs_nil))))
      (pss_cons (ps_asg (pe_c cN hr pass0 (pa_cons (pv 0) (pa_cons (pv 5) (pa_cons (pv 3) pa_nil)))) (pg_tup rfl (pgs_cons (pg_name (i := 6) scStB.nd rfl (Or.inl rfl)) (pgs_cons (pg_name (i := 7) scStB.nd rfl (Or.inl rfl)) pgs_nil))))
      (pss_cons (ps_if (pt_cmpR op_isN (pv 7) pe_non (nomark _)) (pss_one (ps_ret (pe_tup (pa_cons (pe_tup (pa_cons (pv 4) (pa_cons (pv 6) pa_nil))) (pa_cons pe_bl pa_nil))))) pss_nil)
      (pss_one (ps_ret (pe_tup (pa_cons (pe_tup (pa_cons (pe_c cT hr pass0 (pa_cons (pe_ix ix_list (pe_fld (pv 1) rfl) (pv 4) (fun _ _ => rfl)) (pa_cons (pv 7) pa_nil))) (pa_cons (pv 6) pa_nil))) (pa_cons pe_bl pa_nil))))))), ?_⟩
    obtain ⟨s1, s2, nd⟩ := ok
    refine ⟨_, rfl, t, _, rfl, SqT.of ht, rfl, _, _, rfl, _, _, rfl, rfl, ?_⟩
    dsimp only
    refine ⟨_, rfl, _, rfl, _, rfl, q, ws, x, b, rfl, M.cd, nd, fun r H1 e1 hr1 => ⟨r, _, rfl, SqT.of hr1, rfl, _, _, rfl, _, _, rfl, rfl, ?_⟩⟩
    have M1 := M.same e1
    dsimp only
    cases es : sgB ws x b with
    | none =>
      rw [es] at k hr1
      refine ⟨_, rfl, rfl, _, rfl, ?_⟩
      refine iteT ?_
      refine ⟨_, rfl, _, rfl, by show 2 ≤ sizeLine; decide, fun u nu => ⟨by show 2 ≤ sizeLine; decide, fun r2 nr2 => ?_⟩⟩
      refine k r2 u _ (e1.trans ((same_new nu).trans (same_new nr2))) upd_same (same_new nr2 _ _ ?_)
      unfold stp
      rw [es]
      exact upd_same
    | some o =>
      rw [es] at k hr1
      have lo := sgB_lt es
      refine ⟨_, rfl, rfl, _, rfl, ?_⟩
      refine iteF (nextOf ?_)
      obtain ⟨dx, tb, rw_, mk, kd, ts, us, h1, h2, h3, h4, h5, h6, h7⟩ := id M1.ma
      obtain ⟨i, L0, ei, hL0, hLx, v1, v2⟩ := M1.ok.nxt s1 s2 (x := ((o : Nat) : Int)) (by omega) (by omega)
      obtain ⟨tv, htv, ta, rs, rfl, hta, hpr⟩ := paired_to h3 hL0
      rw [Int.toNat_natCast] at hLx
      have lr : rs.length ≤ 10000 := by
        have a1 := Paired.length hpr
        have a2 := rle_len L0
        have a3 := (M1.ok.row L0 (List.mem_of_getElem? hL0)).1
        have a4 := M1.ok.n2
        omega
      refine ⟨_, rfl, m, CMa, dx, _, _, rfl, h1, T.cl, T.nT, mf_table _ _ _ _ _ _, _, rfl, tb, ts, _, .ref ta, rfl, rfl, SqL.of h2, (by rw [show s = ((i : Nat) : Int) from ei]; exact atI_nat htv), _, rfl, ta, rs, L0, o, _, rfl, hta, hpr, lr, hLx, ?_⟩
      refine ⟨_, rfl, by show 2 ≤ sizeLine; decide, fun u nu => ⟨by show 2 ≤ sizeLine; decide, fun r2 nr2 => ?_⟩⟩
      refine k r2 u _ (e1.trans ((same_new nu).trans (same_new nr2))) upd_same (same_new nr2 _ _ ?_)
      have en : ndB ws x b = [] := by
        unfold sgB at es
        unfold ndB
        split at es
        · rename_i m
          rw [if_pos m]
        · cases es
      unfold stp
      rw [es, en]
      exact upd_same
end
end K61
set_option Elab.async false
set_option linter.all false
set_option maxRecDepth 100001
set_option maxHeartbeats 3999999
namespace K61
open PySem L2
/-! ### check_code_machine -/
abbrev sCCM : Stmt := topS 49
abbrev NCCM : List Str := ["code", "machine"]
def spCCM (C CR CMa CO : Addr) : L2.Sp := fun vs H Q E => ∃ (q m : Addr) (ws : List W) (n : Nat) (Ls : List (List Int)) (st : Int) (ms : List Int), vs = [.ref q, .ref m] ∧ CdAt C CR H q ws ∧ IsM CMa H m n Ls st ms ∧ (n = ws.length → Q .non H) ∧ (n ≠ ws.length → ∀ H', Same H H' → E (.ref CO) none H')
section
variable {P : Program} {w : World} {K : PySem.W.Frag} {mg : Str → Option Value} {base : Heap}
theorem scCCM : FnScope NCCM ["code", "machine"] (defScope sCCM) := ⟨rfl, rfl, rfl, by decide +kernel, rfl, by decide +kernel, by decide +kernel⟩
theorem ok_CCM {f C CR CMa CO : Addr} {fd : FuncData} (F : Fun K "check_code_machine" "check_code_machine" sCCM f fd) (TC : TxC K C) (T : Txt K CMa) (xO : Xc P w K mg base 1 "OtherSigns" CO spX0) : FnOk P w K mg base (L2.CX P w) 3 f fd ["code", "machine"] (spCCM C CR CMa CO) := by
  refine F.okX scCCM (fun vs H Q E h => ?_) (fun cdv A outer s H vs Q E hr h => ?_)
  · obtain ⟨q, m, ws, n, Ls, st, ms, rfl, _⟩ := h
    rfl
  · obtain ⟨q, m, ws, n, Ls, st, ms, rfl, cd, M, k1, k2⟩ := h
    refine ⟨_, pss_one (ps_if (PW.pt (pw_and (pt_cmpR op_notN (pv 1) pe_non (nomark _)) (pw_and1 (pt_cmpR op_ne (pe_fld (pv 1) rfl) (pe_fld (pv 0) rfl) (nomark _))))) (pss_one (ps_raise rfl (takes_of rfl rfl rfl rfl) (pmk_x0 xO hr))) pss_nil), ?_⟩
    obtain ⟨dx, lt, wt, tr, L, hq, _, _⟩ := cd.ob
    obtain ⟨dx2, tb, rw_, mk, kd, ts, us, hm, _⟩ := id M
    refine ⟨_, rfl, rfl, _, rfl, ?_⟩
    refine iteT ?_
    refine ⟨_, rfl, m, CMa, dx2, _, _, rfl, hm, T.cl, T.nS, mf_signs _ _ _ _ _ _, _, rfl, q, C, dx, _, _, rfl, hq, TC.cl, TC.s, co_size _ _ _ _ _, rfl, _, rfl, ?_⟩
    by_cases c : n = ws.length
    · rw [show (!decide (V.int ((n : Nat) : Int) = V.int ((ws.length : Nat) : Int))) = false by rw [c]; simp]
      exact iteF (k1 c)
    · rw [show (!decide (V.int ((n : Nat) : Int) = V.int ((ws.length : Nat) : Int))) = true by
        simp
        omega]
      exact iteT (raise0 (K := K) fun H' e => k2 c H' e)
end
theorem sm_ins {H0 H : Hp} {p : Addr} {o : HO} (n : H0 p = none) (e : Same H0 H) : Same H0 (upd H p o) := fun b o' z => (upd_ne (ne_of_none z n)).trans (e _ _ z)
/-! ### Standings -/
abbrev sSI : Stmt := inClass (topS 58) 0
abbrev sSSb : Stmt := inClass (topS 58) 1
abbrev sSIm : Stmt := inClass (topS 58) 2
structure TxS (K : PySem.W.Frag) (CS : Addr) : Prop where
  cl : Cls K CS
  c : NoAttr K CS "code"
  m : NoAttr K CS "machine"
  f : NoAttr K CS "first"
def stF (q m t : Addr) : List (Str × V) := putF "first" (.ref t) (putF "machine" (.ref m) (putF "code" (.ref q) []))
section
variable (q m t : Addr)
theorem st_first : (stF q m t).lookup ("first" : Str) = some (.ref t) := by
  unfold stF
  rw [lookup_putF, if_pos rfl]
theorem st_machine : (stF q m t).lookup ("machine" : Str) = some (.ref m) := by
  unfold stF
  rw [lookup_putF, if_neg (by decide +kernel), lookup_putF, if_pos rfl]
theorem st_code : (stF q m t).lookup ("code" : Str) = some (.ref q) := by
  unfold stF
  rw [lookup_putF, if_neg (by decide +kernel), lookup_putF, if_neg (by decide +kernel), lookup_putF, if_pos rfl]
theorem st_no {x : Str} (h1 : x ≠ "first") (h2 : x ≠ "machine") (h3 : x ≠ "code") : (stF q m t).lookup x = none := by
  unfold stF
  rw [lookup_putF, if_neg h1, lookup_putF, if_neg h2, lookup_putF, if_neg h3]
  rfl
end
/-- what standings are told of -/
structure SD where
  ws : List W
  Ls : List (List Int)
  st : Int
  ms : List Int
/-- the standings' object at p -/
def IsS (C CR CMa CS : Addr) (d : SD) (H : Hp) (p : Addr) : Prop := ∃ (dx q m t : Addr), H p = some (.ins CS dx (stF q m t)) ∧ H t = some (.tup [.int d.st, wV []]) ∧ CM C CR CMa H q m d.ws d.Ls d.st d.ms
theorem IsS.same {C CR CMa CS : Addr} {d : SD} {H H' : Hp} {p : Addr} (h : IsS C CR CMa CS d H p) (e : Same H H') : IsS C CR CMa CS d H' p :=
  let ⟨dx, q, m, t, h1, h2, h3⟩ := h; ⟨dx, q, m, t, e _ _ h1, e _ _ h2, h3.same e⟩
def encS (s : Int × W) : List Key := [.inl s.1, .inr (bS s.2)]
theorem encS_inj {s t : Int × W} (h : encS s = encS t) : s = t := by
  unfold encS at h
  injection h with h1 h2
  injection h2 with h2 _
  exact Prod.ext (Sum.inl.inj h1) (bS_inj (Sum.inr.inj h2))
/-- whether the machine tells there -/
def mkS (d : SD) (s : Int × W) : Bool := decide (s.2 = []) && decide (s.1 ∈ d.ms)
def spSI (C CR CMa CS : Addr) : L2.Sp := fun vs H Q _ => ∃ (p dx q m : Addr) (d : SD) (H0 : Hp), vs = [.ref p, .ref q, .ref m] ∧ H p = some (.ins CS dx []) ∧ H0 p = none ∧ Same H0 H ∧ CM C CR CMa H0 q m d.ws d.Ls d.st d.ms ∧ ∀ H', Same H0 H' → IsS C CR CMa CS d H' p → Q .non H'
/-- state_behind of any class of states -/
def spSb {D S : Type} (Rp : D → Hp → Addr → Prop) (enc : S → List Key) (step : D → S → Bool → S) (Val : D → S → Prop) : L2.Sp := fun vs H Q _ => ∃ (p t : Addr) (d : D) (s : S) (b : Bool), vs = [.ref p, .ref t, .str ⟨#[cd b]⟩] ∧ Rp d H p ∧ H t = some (.tup ((enc s).map kV)) ∧ Val d s ∧ ∀ u H', Same H H' → H' u = some (.tup ((enc (step d s b)).map kV)) → Q (.ref u) H'
def spIm {D S : Type} (Rp : D → Hp → Addr → Prop) (enc : S → List Key) (mark : D → S → Bool) (Val : D → S → Prop) : L2.Sp := fun vs H Q _ => ∃ (p t : Addr) (d : D) (s : S), vs = [.ref p, .ref t] ∧ Rp d H p ∧ H t = some (.tup ((enc s).map kV)) ∧ Val d s ∧ Q (.bl (mark d s)) H
abbrev vS (d : SD) (s : Int × W) : Prop := SOk d.ws d.Ls s
abbrev stS (d : SD) (s : Int × W) (b : Bool) : Int × W := stp d.ws d.Ls s b
section
variable {P : Program} {w : World} {K : PySem.W.Frag} {mg : Str → Option Value} {base : Heap}
abbrev NSI : List Str := ["self", "code", "machine"]
theorem scSI : FnScope NSI ["self", "code", "machine"] (defScope sSI) := ⟨rfl, rfl, rfl, by decide +kernel, rfl, by decide +kernel, by decide +kernel⟩
theorem ok_SI {f C CR CMa CS : Addr} {fd : FuncData} (F : Fun K "__init__" "Standings.__init__" sSI f fd) (TS : TxS K CS) (T : Txt K CMa) : FnOk P w K mg base CX0 1 f fd ["self", "code", "machine"] (spSI C CR CMa CS) := by
  refine F.ok scSI (fun vs H Q E h => ?_) (fun cdv A outer s H vs Q E hr h => ?_)
  · obtain ⟨p, dx, q, m, d, H0, rfl, _⟩ := h
    rfl
  · obtain ⟨p, dx, q, m, d, H0, rfl, hp, n0, e0, M, k⟩ := h
    refine ⟨_, pss_cons (ps_fld (pv 0) (pv 1) rfl)
      (pss_cons (ps_fld (pv 0) (pv 2) rfl)
      (pss_one (ps_fld (pv 0) (pe_tup (pa_cons (pe_fld (pv 2) rfl) (pa_cons pe_str pa_nil))) rfl))), ?_⟩
    refine ⟨_, rfl, _, rfl, p, CS, dx, _, rfl, hp, TS.cl, TS.c, by show 0 < 1000; decide, ?_⟩
    have e1 := sm_ins (o := .ins CS dx (putF "code" (.ref q) [])) n0 e0
    have h1 : upd H p (.ins CS dx (putF "code" (.ref q) [])) p = some (.ins CS dx (putF "code" (.ref q) [])) := upd_same
    generalize upd H p (.ins CS dx (putF "code" (.ref q) [])) = H1 at e1 h1 ⊢
    refine ⟨_, rfl, _, rfl, p, CS, dx, _, rfl, h1, TS.cl, TS.m, by show 1 < 1000; decide, ?_⟩
    have e2 := sm_ins (o := .ins CS dx (putF "machine" (.ref m) (putF "code" (.ref q) []))) n0 e1
    have h2 : upd H1 p (.ins CS dx (putF "machine" (.ref m) (putF "code" (.ref q) []))) p = some (.ins CS dx (putF "machine" (.ref m) (putF "code" (.ref q) []))) := upd_same
    generalize upd H1 p (.ins CS dx (putF "machine" (.ref m) (putF "code" (.ref q) []))) = H2 at e2 h2 ⊢
    dsimp only
    obtain ⟨dx2, tb, rw_, mk, kd, ts, us, hm, _⟩ := id M.ma
    refine ⟨_, rfl, m, CMa, dx2, _, _, rfl, e2 _ _ hm, T.cl, T.nA, mf_start _ _ _ _ _ _, by show 2 ≤ sizeLine; decide, fun t nt => ?_⟩
    have e3 := same_new (o := .tup [.int d.st, .str ""]) nt
    have ht : upd H2 t (.tup [.int d.st, .str ""]) t = some (.tup [.int d.st, wV []]) := upd_same
    generalize upd H2 t (.tup [.int d.st, .str ""]) = H3 at e3 ht ⊢
    refine ⟨_, rfl, p, CS, dx, _, rfl, e3 _ _ h2, TS.cl, TS.f, by show 2 < 1000; decide, ?_⟩
    have e4 := sm_ins (o := .ins CS dx (stF q m t)) n0 (e2.trans e3)
    exact k _ e4 ⟨dx, q, m, t, upd_same, (upd_ne (ne_of ht (e3 _ _ h2) fun z => nomatch z)).trans ht, M.same e4⟩
abbrev NSSb : List Str := ["self", "standing", "bit"]
theorem scSSb : FnScope NSSb ["self", "standing", "bit"] (defScope sSSb) := ⟨rfl, rfl, rfl, by decide +kernel, rfl, by decide +kernel, by decide +kernel⟩
theorem ok_SSb {f C CR CMa CS : Addr} {fd : FuncData} (F : Fun K "state_behind" "Standings.state_behind" sSSb f fd) (TS : TxS K CS) (cS : Cal CX0 P w K mg base 3 "standing_behind" (spStB C CR CMa)) : FnOk P w K mg base CX0 4 f fd ["self", "standing", "bit"] (spSb (IsS C CR CMa CS) encS stS vS) := by
  refine F.ok scSSb (fun vs H Q E h => ?_) (fun cdv A outer s H vs Q E hr h => ?_)
  · obtain ⟨p, t, d, s, b, rfl, _⟩ := h
    rfl
  · obtain ⟨p, t, d, s, b, rfl, is, ht, ok, k⟩ := h
    refine ⟨_, pss_one (ps_ret (pe_ix ix_tup (pe_c cS hr pass0 (pa_cons (pe_fld (pv 0) rfl) (pa_cons (pe_fld (pv 0) rfl) (pa_cons (pv 1) (pa_cons (pv 2) pa_nil))))) pe_int (fun _ _ => rfl))), ?_⟩
    obtain ⟨dx, q, m, t0, hp, ht0, M⟩ := is
    exact ⟨_, rfl, p, CS, dx, _, _, rfl, hp, TS.cl, TS.c, st_code _ _ _, _, rfl, p, CS, dx, _, _, rfl, hp, TS.cl, TS.m, st_machine _ _ _, _, rfl, _, rfl, q, m, t, d.ws, d.Ls, d.st, d.ms, s.1, s.2, b, rfl, M, ht, ok, fun r u H' e hr hu => ⟨r, _, _, _, rfl, rfl, SqT.of hr, rfl, k u H' e hu⟩⟩
abbrev NSIm : List Str := ["self", "standing"]
theorem scSIm : FnScope NSIm ["self", "standing"] (defScope sSIm) := ⟨rfl, rfl, rfl, by decide +kernel, rfl, by decide +kernel, by decide +kernel⟩
theorem ok_SIm {f C CR CMa CS : Addr} {fd : FuncData} (F : Fun K "is_marked" "Standings.is_marked" sSIm f fd) (TS : TxS K CS) (T : Txt K CMa) : FnOk P w K mg base CX0 1 f fd ["self", "standing"] (spIm (IsS C CR CMa CS) encS mkS vS) := by
  refine F.ok scSIm (fun vs H Q E h => ?_) (fun cdv A outer s H vs Q E hr h => ?_)
  · obtain ⟨p, t, d, s, rfl, _⟩ := h
    rfl
  · obtain ⟨p, t, d, s, rfl, is, ht, ok, k⟩ := h
    refine ⟨_, pss_one (ps_ret (pe_and (pe_cmpR op_eq (pe_ix ix_tup (pv 1) pe_int (fun _ _ => rfl)) pe_str (nomark _)) (pe_one (pe_ix ix_list (pe_fld (pe_fld (pv 0) rfl) rfl) (pe_ix ix_tup (pv 1) pe_int (fun _ _ => rfl)) (fun _ _ => rfl))))), ?_⟩
    obtain ⟨dx, q, m, t0, hp, ht0, M⟩ := is
    refine ⟨_, rfl, t, _, _, _, rfl, rfl, SqT.of ht, rfl, ?_⟩
    refine ⟨rfl, _, rfl, ?_⟩
    have e1 : decide (kV (Sum.inr (bS s.2)) = V.str "") = decide (s.2 = []) := decide_eq_decide.mpr ⟨fun z => by
      have z : V.str (bS s.2) = V.str (bS []) := z
      injection z with z
      exact bS_inj z, fun z => by rw [z]; rfl⟩
    rw [e1]
    unfold mkS at k
    by_cases c : s.2 = []
    · rw [decide_eq_true c] at k ⊢
      rw [Bool.true_and] at k
      obtain ⟨dx2, tb, rw_, mk, kd, ts, us, hm, _, _, _, _, _, h7⟩ := id M.ma
      obtain ⟨s1, s2, _⟩ := ok
      obtain ⟨i, ei⟩ := Int.eq_ofNat_of_zero_le s1
      refine ⟨_, rfl, p, CS, dx, _, _, rfl, hp, TS.cl, TS.m, st_machine _ _ _, m, CMa, dx2, _, _, rfl, hm, T.cl, T.nK, mf_kinds _ _ _ _ _ _, _, rfl, t, _, _, _, rfl, rfl, SqT.of ht, rfl, kd, _, _, _, rfl, rfl, SqL.of h7, (by rw [ei]; exact atI_nat (kindsV_at (by omega))), ?_⟩
      rw [← ei]
      exact k
    · rw [decide_eq_false c] at k ⊢
      exact k
end
end K61
set_option Elab.async false
set_option linter.all false
set_option maxRecDepth 100001
set_option maxHeartbeats 3999999
namespace K61
open PySem L2
/-- a comprehension whose items are new things -/
theorem lcO {J : It} {n : Nat} {G : Hp → Prop} {Y : Nat → Hp → V → Hp → Prop} (wk : Walk J n G Y) {g : TG} {te : TE} {vs : List Nat} {σ : St} {H1 : Hp} {D : Addr} {Qd : Hp → Prop} (R : Nat → V → Hp → Prop) (st : ∀ i v H H' xs, H D = some (.lst xs) → (∀ b o, b ≠ D → H b = some o → H' b = some o) → R i v H → R i v H') (hb : n ≤ 10000) (nD : H1 D = none) (hG : ∀ H', Same H1 H' → G H')
    (hs : ∀ (i : Nat) (x : V) (H2 H3 : Hp) (N : VK), i < n → Same H1 H2 → (∃ xs, H2 D = some (.lst xs)) → Y i H2 x H3 → (∀ v H4, Same H2 H4 → R i v H4 → N v H4) → g x (wipe σ vs) H3 fun σ2 H4 => wipe σ2 vs = wipe σ vs ∧ te σ2 H4 N)
    (hd : ∀ acc H', Same H1 H' → acc.length = n → (∀ i v, acc[i]? = some v → R i v H') → H' D = some (.lst acc) → Qd H') :
    ∃ W : Nat → Nat → Hp → Prop, (∃ m, W 0 m (upd H1 D (.lst []))) ∧ ∀ i m H, W i m H →
      (J.stop i H ∧ Qd H) ∨ (J.go i H ∧ ∃ Nx : Hp → Prop, (∀ H', Nx H' → ∃ m', m' < m ∧ W (i + 1) m' H') ∧ ∀ x H', J.yld i H x H' → g x (wipe σ vs) H' fun σ2 H2 => wipe σ2 vs = wipe σ vs ∧ tYes σ2 H2 fun b H3 =>
        if b = true then te σ2 H3 fun y H4 => ∃ acc, H4 D = some (.lst acc) ∧ acc.length < sizeLine ∧ Nx (upd H4 D (.lst (acc ++ [y]))) else Nx H3) := by
  refine lc_it wk (fun i H' => Same H1 H' ∧ ∃ acc, H' D = some (.lst acc) ∧ acc.length = i ∧ ∀ j v, acc[j]? = some v → R j v H') ⟨same_new nD, [], upd_same, rfl, fun j v e => by simp at e⟩ (fun i H' _ z => hG H' z.1) ?_ (fun H' ⟨e, acc, h1, h2, h3⟩ => hd acc H' e h2 h3 h1)
  rintro i x H H' hi ⟨e1, acc, hD, la, ra⟩ y
  refine hs i x H H' _ hi e1 ⟨acc, hD⟩ y fun v H4 e4 r => ⟨acc, e4 _ _ hD, by rw [la]; exact small10 (by omega), fun b o z => ?_, acc ++ [v], upd_same, by rw [List.length_append, la]; rfl, fun j u ju => ?_⟩
  · rw [upd_ne (ne_of_none z nD)]
    exact e4 _ _ (e1 _ _ z)
  · have k4 : ∀ b o, b ≠ D → H4 b = some o → upd H4 D (.lst (acc ++ [v])) b = some o := fun b o n z => (upd_ne n).trans z
    by_cases c : j < acc.length
    · rw [List.getElem?_append_left c] at ju
      exact st j u _ _ acc (e4 _ _ hD) k4 (st j u H H4 acc hD (fun b o _ z => e4 b o z) (ra j u ju))
    · have : j = acc.length := by
        have := (List.getElem?_eq_some_iff.mp ju).1
        rw [List.length_append] at this
        have : j < acc.length + 1 := this
        omega
      subst this
      rw [List.getElem?_append_right (Nat.le_refl _), Nat.sub_self] at ju
      have : v = u := Option.some.inj ju
      subst this
      rw [la]
      exact st i v _ _ acc (e4 _ _ hD) k4 r
/-! ### what is met, in the order in which it is met -/
section
variable {S : Type} [DecidableEq S] (first : S) (step : S → Bool → S)
def ad (o : List S) (y : S) : List S := if y ∈ o then o else o ++ [y]
def ex1 (o : List S) (x : S) : List S := ad (ad o (step x false)) (step x true)
def bf : Nat → List S
  | 0 => [first]
  | t + 1 => match (bf t)[t]? with
    | some x => ex1 step (bf t) x
    | none => bf t
end
section
variable {S : Type} [DecidableEq S] {first : S} {step : S → Bool → S}
theorem ad_pre (o : List S) (y : S) : o <+: ad o y := by
  unfold ad
  split
  · exact List.prefix_rfl
  · exact List.prefix_append _ _
theorem ad_mem (o : List S) (y : S) : y ∈ ad o y := by
  unfold ad
  split
  · assumption
  · exact List.mem_append_right _ List.mem_cons_self
theorem ad_nodup {o : List S} (h : o.Nodup) (y : S) : (ad o y).Nodup := by
  unfold ad
  split
  · exact h
  · rename_i n
    rw [List.nodup_append]
    exact ⟨h, List.nodup_cons.mpr ⟨List.not_mem_nil, List.nodup_nil⟩, fun a ha b hb e => n (by rw [List.mem_singleton.mp hb] at e; exact e ▸ ha)⟩
theorem ad_sub {o : List S} {y z : S} (h : z ∈ ad o y) : z ∈ o ∨ z = y := by
  unfold ad at h
  split at h
  · exact .inl h
  · exact (List.mem_append.mp h).imp id List.mem_singleton.mp
theorem ex1_pre (o : List S) (x : S) : o <+: ex1 step o x := (ad_pre _ _).trans (ad_pre _ _)
theorem bf_pre1 (t : Nat) : bf first step t <+: bf first step (t + 1) := by
  show _ <+: (match (bf first step t)[t]? with | some x => ex1 step (bf first step t) x | none => bf first step t)
  split
  · exact ex1_pre _ _
  · exact List.prefix_rfl
theorem bf_pre {t u : Nat} (h : t ≤ u) : bf first step t <+: bf first step u := by
  induction h with
  | refl => exact List.prefix_rfl
  | step _ ih => exact ih.trans (bf_pre1 _)
theorem bf_nodup (t : Nat) : (bf first step t).Nodup := by
  induction t with
  | zero => exact List.nodup_cons.mpr ⟨List.not_mem_nil, List.nodup_nil⟩
  | succ t ih =>
    show (match (bf first step t)[t]? with | some x => ex1 step (bf first step t) x | none => bf first step t).Nodup
    split
    · exact ad_nodup (ad_nodup ih _) _
    · exact ih
theorem bf_some {t : Nat} {x : S} (h : (bf first step t)[t]? = some x) : bf first step (t + 1) = ex1 step (bf first step t) x := by
  show (match (bf first step t)[t]? with | some x => ex1 step (bf first step t) x | none => bf first step t) = _
  rw [h]
theorem bf_none {t : Nat} (h : (bf first step t).length ≤ t) : bf first step (t + 1) = bf first step t := by
  show (match (bf first step t)[t]? with | some x => ex1 step (bf first step t) x | none => bf first step t) = _
  rw [List.getElem?_eq_none h]
theorem bf_stay {t u : Nat} (h : (bf first step t).length ≤ t) (l : t ≤ u) : bf first step u = bf first step t := by
  induction l with
  | refl => rfl
  | step l ih => rw [bf_none (by rw [ih]; exact Nat.le_trans h l), ih]
theorem bf_len_pos (t : Nat) : 1 ≤ (bf first step t).length := by
  have := (bf_pre (first := first) (step := step) (Nat.zero_le t)).length_le
  exact this
theorem bf_inv {Val : S → Prop} (v0 : Val first) (vs : ∀ x b, Val x → Val (step x b)) (t : Nat) : ∀ x ∈ bf first step t, Val x := by
  induction t with
  | zero => intro x hx; rw [List.mem_singleton.mp hx]; exact v0
  | succ t ih =>
    cases h : (bf first step t)[t]? with
    | none =>
      rw [bf_none (List.getElem?_eq_none_iff.mp h)]
      exact ih
    | some y =>
      rw [bf_some h]
      have vy := ih y (List.mem_of_getElem? h)
      intro x hx
      rcases ad_sub hx with hx | rfl
      · rcases ad_sub hx with hx | rfl
        · exact ih x hx
        · exact vs _ _ vy
      · exact vs _ _ vy
/-- what is done has its steps there -/
theorem bf_done : ∀ t j, j < t → ∀ y, (bf first step t)[j]? = some y → ∀ b, step y b ∈ bf first step t := by
  intro t
  induction t with
  | zero => intro j hj; omega
  | succ t ih =>
    intro j hj y hy b
    cases h : (bf first step t)[t]? with
    | none =>
      have l := List.getElem?_eq_none_iff.mp h
      rw [bf_none l] at hy ⊢
      have lj := (List.getElem?_eq_some_iff.mp hy).1
      exact ih j (by omega) y hy b
    | some z =>
      have lt := (List.getElem?_eq_some_iff.mp h).1
      obtain ⟨r, er⟩ := bf_pre1 (first := first) (step := step) t
      have hy' : (bf first step t)[j]? = some y := by
        rw [← er, List.getElem?_append_left (by omega)] at hy
        exact hy
      rcases Nat.lt_or_ge j t with c | c
      · exact er ▸ List.mem_append_left _ (ih j c y hy' b)
      · obtain rfl : j = t := by omega
        rw [h] at hy'
        cases hy'
        rw [bf_some h]
        cases b with
        | true => exact ad_mem _ _
        | false => exact (ad_pre _ _).subset (ad_mem _ _)
/-- closed, once nothing is left -/
theorem bf_closed {N : Nat} (h : (bf first step N).length ≤ N) {x : S} (hx : x ∈ bf first step N) (b : Bool) : step x b ∈ bf first step N := by
  obtain ⟨i, hi⟩ := List.mem_iff_getElem?.mp hx
  have li := (List.getElem?_eq_some_iff.mp hi).1
  exact bf_done N i (by omega) x hi b
end
/-- the table of N states -/
def rws {S : Type} [DecidableEq S] (first : S) (step : S → Bool → S) (N : Nat) : List (List Int) := (bf first step N).map fun x => [((((bf first step N).idxOf (step x false) : Nat)) : Int), ((((bf first step N).idxOf (step x true) : Nat)) : Int)]
theorem idx_pre {S : Type} [DecidableEq S] {o p : List S} {y : S} (h : o <+: p) (m : y ∈ o) : p.idxOf y = o.idxOf y := by
  obtain ⟨r, rfl⟩ := h
  rw [List.idxOf_append, if_pos m]
/-- the row of a standing -/
def rwS {S : Type} [DecidableEq S] (o : List S) (step : S → Bool → S) (x : S) : List Int := [((o.idxOf (step x false) : Nat) : Int), ((o.idxOf (step x true) : Nat) : Int)]
def tbl {S : Type} [DecidableEq S] (first : S) (step : S → Bool → S) (t : Nat) : List (List Int) := ((bf first step t).take t).map (rwS (bf first step t) step)
theorem tbl_all {S : Type} [DecidableEq S] {first : S} {step : S → Bool → S} {t : Nat} (h : (bf first step t).length = t) : tbl first step t = rws first step t := by
  unfold tbl rws
  rw [List.take_of_length_le (by omega)]
  rfl
theorem tbl_succ {S : Type} [DecidableEq S] {first : S} {step : S → Bool → S} {t : Nat} {x : S} (h : (bf first step t)[t]? = some x) : tbl first step (t + 1) = tbl first step t ++ [rwS (bf first step (t + 1)) step x] := by
  have lt := (List.getElem?_eq_some_iff.mp h).1
  have pr := bf_pre1 (first := first) (step := step) t
  have e1 : (bf first step (t + 1)).take (t + 1) = (bf first step t).take t ++ [x] := by
    obtain ⟨r, er⟩ := id pr
    rw [← er, List.take_append_of_le_length (by omega), take_snoc h]
  unfold tbl
  rw [e1, List.map_append]
  congr 1
  refine List.map_congr_left fun y hy => ?_
  obtain ⟨j, hj⟩ := List.mem_iff_getElem?.mp hy
  have lj := (List.getElem?_eq_some_iff.mp hj).1
  rw [List.length_take] at lj
  rw [List.getElem?_take_of_lt (by omega)] at hj
  unfold rwS
  rw [idx_pre pr (bf_done t j (by omega) y hj false), idx_pre pr (bf_done t j (by omega) y hj true)]
/-! ### numbers of what is met -/
section
variable {S : Type} [DecidableEq S] {κ : Type} [DecidableEq κ] (enc : S → κ)
def numsK (o : List S) : List (κ × V) := o.zipIdx.map fun p => (enc p.1, V.int (p.2 : Nat))
variable {enc}
theorem numsK_snoc (o : List S) (y : S) : numsK enc (o ++ [y]) = numsK enc o ++ [(enc y, V.int (o.length : Nat))] := by
  unfold numsK
  rw [List.zipIdx_append, List.map_append]
  simp
theorem numsK_len (o : List S) : (numsK enc o).length = o.length := by
  unfold numsK
  rw [List.length_map, List.length_zipIdx]
theorem numsK_get' (inj : ∀ s t, enc s = enc t → s = t) : ∀ (n : Nat) (o : List S), o.length = n → o.Nodup → ∀ y, valV (numsK enc o) (enc y) = if y ∈ o then some (V.int (o.idxOf y : Nat)) else none
  | 0, o, l, _, y => by
    rw [List.length_eq_zero_iff.mp l]
    rfl
  | n + 1, o, l, nd, y => by
    rcases List.eq_nil_or_concat o with rfl | ⟨o, z, rfl⟩
    · cases l
    rw [List.concat_eq_append] at l nd ⊢
    have nd1 : o.Nodup := (List.nodup_append.mp nd).1
    have nz : z ∉ o := fun m => (List.nodup_append.mp nd).2.2 z m z List.mem_cons_self rfl
    have e := numsK_get' inj n o (by simpa using l) nd1
    rw [numsK_snoc]
    have nn : valV (numsK enc o) (enc z) = none := by rw [e z, if_neg nz]
    rw [← putK_new _ nn, valV_put, e y]
    by_cases c : y = z
    · subst c
      rw [if_pos rfl, if_pos (List.mem_append_right _ List.mem_cons_self), List.idxOf_append, if_neg nz]
      simp
    · rw [if_neg fun h => c (inj _ _ h)]
      by_cases m : y ∈ o
      · rw [if_pos m, if_pos (List.mem_append_left _ m), List.idxOf_append, if_pos m]
      · rw [if_neg m, if_neg]
        intro h
        rcases List.mem_append.mp h with h | h
        · exact m h
        · exact c (List.mem_singleton.mp h)
theorem numsK_get (inj : ∀ s t, enc s = enc t → s = t) (o : List S) (nd : o.Nodup) (y : S) : valV (numsK enc o) (enc y) = if y ∈ o then some (V.int (o.idxOf y : Nat)) else none := numsK_get' inj _ o rfl nd y
theorem numsK_ad (inj : ∀ s t, enc s = enc t → s = t) {o : List S} (nd : o.Nodup) {y : S} (n : y ∉ o) : putK (numsK enc o) (enc y) (.int (o.length : Nat)) = numsK enc (ad o y) := by
  unfold ad
  rw [if_neg n, numsK_snoc, putK_new]
  rw [numsK_get inj o nd, if_neg n]
end
/-- the tuples of standings -/
def StsAt {S : Type} (enc : S → List Key) (H : Hp) : List V → List S → Prop := Paired fun v s => ∃ a, v = .ref a ∧ H a = some (.tup ((enc s).map kV))
theorem StsAt.tt {S : Type} {enc : S → List Key} {H H' : Hp} {vs : List V} {o : List S} (h : StsAt enc H vs o) (e : ∀ a xs, H a = some (.tup xs) → H' a = some (.tup xs)) : StsAt enc H' vs o := Paired.mapP h fun _ _ ⟨a, h1, h2⟩ => ⟨a, h1, e _ _ h2⟩
end K61
set_option Elab.async false
set_option linter.all false
set_option maxRecDepth 100001
set_option maxHeartbeats 3999999
namespace K61
open PySem L2
/-! ### searcher_of -/
section
variable {S : Type} [DecidableEq S] (step : S → Bool → S) (o : List S) (x : S)
def oI : Nat → List S
  | 0 => o
  | 1 => ad o (step x false)
  | _ => ex1 step o x
theorem oI_succ {i : Nat} (h : i < 2) : oI step o x (i + 1) = ad (oI step o x i) (step x (decide (i = 1))) := by
  match i, h with
  | 0, _ => rfl
  | 1, _ => rfl
theorem oI_pre {i : Nat} (h : i ≤ 2) : o <+: oI step o x i ∧ oI step o x i <+: ex1 step o x := by
  match i, h with
  | 0, _ => exact ⟨List.prefix_rfl, ex1_pre _ _⟩
  | 1, _ => exact ⟨ad_pre _ _, ad_pre _ _⟩
  | 2, _ => exact ⟨ex1_pre _ _, List.prefix_rfl⟩
theorem oI_nodup (nd : o.Nodup) {i : Nat} (h : i ≤ 2) : (oI step o x i).Nodup := by
  match i, h with
  | 0, _ => exact nd
  | 1, _ => exact ad_nodup nd _
  | 2, _ => exact ad_nodup (ad_nodup nd _) _
theorem oI_row {i : Nat} (h : i < 2) : (rwS (ex1 step o x) step x)[i]? = some (((oI step o x (i + 1)).idxOf (step x (decide (i = 1))) : Nat) : Int) := by
  have pr := (oI_pre step o x (i := i + 1) (by omega)).2
  have m : step x (decide (i = 1)) ∈ oI step o x (i + 1) := by
    rw [oI_succ step o x h]
    exact ad_mem _ _
  rw [← idx_pre pr m]
  match i, h with
  | 0, _ => rfl
  | 1, _ => rfl
end
theorem ch01 {i c : Nat} (hi : i < 2) (h : ("01" : Str).cps[i]? = some c) : c = cd (decide (i = 1)) := by
  match i, hi with
  | 0, _ => exact (Option.some.inj h).symm
  | 1, _ => exact (Option.some.inj h).symm

abbrev sSe : Stmt := topS 52
abbrev NSe : List Str := ["states", "numbers", "order", "table", "row", "bit", "behind", "state"]
structure CmS (mg : Str → Option Value) : Prop where
  many : ∃ u, mg "MOST_STATES_standings" = some u ∧ RelV (.int 2000) u
  bits : ∃ u, mg "BITS" = some u ∧ RelV (.str "01") u
/-- a class of states -/
structure StC (K : PySem.W.Frag) (CS : Addr) {D S : Type} (Rp : D → Hp → Addr → Prop) (enc : S → List Key) (first : D → S) (step : D → S → Bool → S) (Val : D → S → Prop) : Prop where
  cl : Cls K CS
  nf : NoAttr K CS "first"
  inj : ∀ s t, enc s = enc t → s = t
  same : ∀ d H H' p, Rp d H p → Same H H' → Rp d H' p
  ob : ∀ d H p, Rp d H p → ∃ (dx : Addr) (fs : List (Str × V)) (t : Addr), H p = some (.ins CS dx fs) ∧ fs.lookup ("first" : Str) = some (.ref t) ∧ fs.lookup ("state_behind" : Str) = none ∧ fs.lookup ("is_marked" : Str) = none ∧ H t = some (.tup ((enc (first d)).map kV))
  v0 : ∀ d H p, Rp d H p → Val d (first d)
  vs : ∀ d H p, Rp d H p → ∀ x b, Val d x → Val d (step d x b)
def spSe (CMa CT : Addr) {D S : Type} [DecidableEq S] (Rp : D → Hp → Addr → Prop) (first : D → S) (step : D → S → Bool → S) (mark : D → S → Bool) : L2.Sp := fun vs H Q E => ∃ (p : Addr) (d : D), vs = [.ref p] ∧ Rp d H p ∧
  (∀ N x H', (bf (first d) (step d) N).length = N → N ≤ 2000 → H x = none → Same H H' → IsM CMa H' x 2 (rws (first d) (step d) N) 0 (selM (fun i => mark d ((bf (first d) (step d) N).getD i (first d))) N) → Q (.ref x) H') ∧
  (∀ T a H', 2000 < (bf (first d) (step d) T).length → Rsd H H' a [("most", .int 2000), ("many", .int 2001), ("what", .str "states")] → E (.ref CT) (some a) H')
section
variable {P : Program} {w : World} {K : PySem.W.Frag} {mg : Str → Option Value} {base : Heap}
theorem scSe : FnScope NSe ["states"] (defScope sSe) := ⟨rfl, rfl, rfl, by decide +kernel, rfl, by decide +kernel, by decide +kernel⟩
theorem ok_Se {f CMa CS CT : Addr} {fd : FuncData} {D S : Type} [DecidableEq S] {Rp : D → Hp → Addr → Prop} {enc : S → List Key} {first : D → S} {step : D → S → Bool → S} {mark : D → S → Bool} {Val : D → S → Prop} (F : Fun K "searcher_of" "searcher_of" sSe f fd) (B : Bi mg) (M : CmS mg)
    (ST : StC K CS Rp enc first step Val) (n1 : PySem.W.findIn K (.ref CT) "what" = some none) (n2 : PySem.W.findIn K (.ref CT) "many" = some none) (n3 : PySem.W.findIn K (.ref CT) "most" = some none)
    (mS : Met CX0 P w K mg base 4 CS "state_behind" (spSb Rp enc step Val)) (mM : Met CX0 P w K mg base 4 CS "is_marked" (spIm Rp enc mark Val)) (cSt : Cal CX0 P w K mg base 1 "stretched" spStd) (cMo : Cal CX0 P w K mg base 6 "machine_of" (spMof CMa)) (xT : Xc P w K mg base 2 "TooMany" CT (spX3 K "what" "many" "most")) :
    FnOk P w K mg base (L2.CX P w) 8 f fd ["states"] (spSe CMa CT Rp first step mark) := by
  refine F.okX scSe (fun vs H Q E h => ?_) (fun cdv A outer s H vs Q E hr h => ?_)
  · obtain ⟨p, d, rfl, _⟩ := h
    rfl
  · obtain ⟨p, d, rfl, is, k1, k2⟩ := h
    refine ⟨_, pss_cons (ps_set (i := 1) scSe.nd rfl (Or.inl rfl) (pe_dispT1 (Nat.lt_of_succ_lt (hu_of hr)) (pe_fld (pv 0) rfl) pe_int))
      (pss_cons (ps_set (i := 2) scSe.nd rfl (Or.inl rfl) (pe_lst (pa_cons (pe_fld (pv 0) rfl) pa_nil)))
      (pss_cons (ps_set (i := 3) scSe.nd rfl (Or.inl rfl) (pe_lst pa_nil))
      (pss_cons (ps_while (passes_of rfl) (pt_cmpR op_lt (pe_len B.len (pa_cons (pv 3) pa_nil)) (pe_len B.len (pa_cons (pv 2) pa_nil)) (nomark _)) (pss_cons (ps_set (i := 4) scSe.nd rfl (Or.inl rfl) (pe_lst pa_nil))
        (pss_cons (ps_for (passes_of rfl) rfl (pi_str (C8.pe_gc rfl M.bits)) (pg_name (i := 5) scSe.nd rfl (Or.inl rfl))
          (pss_cons (ps_set (i := 6) scSe.nd rfl (Or.inl rfl) (pe_mt mS hr pass0 (pv 0) (pa_cons (pe_ix ix_list (pv 2) (pe_len B.len (pa_cons (pv 3) pa_nil)) (fun _ _ => rfl)) (pa_cons (pv 5) pa_nil))))
          (pss_cons (ps_if (pt_cmp (pc_dnotin (hu_of hr) (pv 6) (pv 1))) (pss_cons (ps_if (pt_cmpR op_eq (pe_len B.len (pa_cons (pv 2) pa_nil)) (C8.pe_gc rfl M.many) (nomark _)) (pss_one (ps_raise rfl (takes_of rfl rfl rfl rfl) (pmk_x xT hr (pa_cons pe_str (pa_cons (pe_op op_add (C8.pe_gc rfl M.many) pe_int) (pa_cons (C8.pe_gc rfl M.many) pa_nil)))))) pss_nil)
            (pss_cons (ps_dput (hu_of hr) (pv 1) (pv 6) (pe_len B.len (pa_cons (pv 2) pa_nil)) rfl)
            (pss_one (ps_expr (pe_bm PySem.F.plainAttrs_list PySem.F.slot_list_append PySem.F.type_list_append mt_append (pv 2) (pa_cons (pv 6) pa_nil)))))) pss_nil)
          (pss_one (ps_expr (pe_bm PySem.F.plainAttrs_list PySem.F.slot_list_append PySem.F.type_list_append mt_append (pv 4) (pa_cons (pe_dget (hu_of hr) (pv 1) (pv 6) (fun _ _ => rfl)) pa_nil)))))))
        (pss_one (ps_expr (pe_bm PySem.F.plainAttrs_list PySem.F.slot_list_append PySem.F.type_list_append mt_append (pv 3) (pa_cons (pe_c cSt hr pass0 (pa_cons (pv 4) pa_nil)) pa_nil)))))))
      (pss_one (ps_ret (pe_c cMo hr pass0 (pa_cons pe_int (pa_cons (pv 3) (pa_cons pe_int (pa_cons (pe_lc (own := [("state", 7)]) rfl scSe.nd (pi_sqA (pv 2)) (blkOk_by (N := NSe) (sc := defScope sSe) (by decide +kernel)) (fun _ _ _ _ _ => (pg_name (i := 7) scSe.nd rfl (Or.inl rfl))) (fun _ _ _ _ _ => pts_nil) (fun _ _ _ _ _ => (pe_mt mM hr pass0 (pv 0) (pa_cons (pv 7) pa_nil)))) pa_nil)))))))))), ?_⟩
    obtain ⟨dx, fs, t0, hp, l1, l2, l3, ht0⟩ := ST.ob d H p is
    refine fun NU nNU => ?_
    have e0 := same_new (o := .dT []) nNU
    have g0 : upd H NU (.dT []) NU = some (.dT []) := upd_same
    generalize eH0 : upd H NU (.dT []) = H0 at e0 g0
    refine ⟨_, rfl, p, CS, dx, _, _, rfl, e0 _ _ hp, ST.cl, ST.nf, l1, t0, enc (first d), rfl, g0, e0 _ _ ht0, ?_⟩
    have e1 : Same H (upd H0 NU (.dT [(enc (first d), .int 0)])) := fun b o z => (upd_ne (ne_of_none z nNU)).trans (e0 _ _ z)
    have g1 : upd H0 NU (.dT [(enc (first d), .int 0)]) NU = some (.dT (numsK enc [first d])) := upd_same
    clear eH0
    generalize upd H0 NU (.dT [(enc (first d), .int 0)]) = H1 at e1 g1 ⊢
    refine gN ?_
    dsimp only
    refine ⟨_, rfl, p, CS, dx, _, _, rfl, e1 _ _ hp, ST.cl, ST.nf, l1, by show 1 ≤ sizeLine; decide, fun OR nOR => ?_⟩
    have e2 := same_new (o := .lst [.ref t0]) nOR
    have g2 : upd H1 OR (.lst [.ref t0]) OR = some (.lst [.ref t0]) := upd_same
    have dUO : NU ≠ OR := ne_of_none g1 nOR
    have g1 := e2 _ _ g1
    generalize upd H1 OR (.lst [.ref t0]) = H2 at e2 g1 g2 ⊢
    refine gN ?_
    dsimp only
    refine ⟨by show 0 ≤ sizeLine; decide, fun TB nTB => ?_⟩
    have e3 := same_new (o := .lst []) nTB
    have g3 : upd H2 TB (.lst []) TB = some (.lst []) := upd_same
    have dUT : NU ≠ TB := ne_of_none g1 nTB
    have dOT : OR ≠ TB := ne_of_none g2 nTB
    have g1 := e3 _ _ g1
    have g2 := e3 _ _ g2
    have e03 := e1.trans (e2.trans e3)
    have nO : H OR = none := e1.free nOR
    have nT : H TB = none := (e1.trans e2).free nTB
    generalize upd H2 TB (.lst []) = H3 at e03 g1 g2 g3 ⊢
    clear e0 e1 e2 e3 g0 nOR nTB
    refine gN ?_
    dsimp only
    have tt0 : ∀ {H' : Hp}, Same H H' → Rp d H' p ∧ H' p = some (.ins CS dx fs) := fun e => ⟨ST.same d H _ p is e, e _ _ hp⟩
    have vAll : ∀ t, ∀ x ∈ bf (first d) (step d) t, Val d x := fun t => bf_inv (ST.v0 d H p is) (ST.vs d H p is) t
    refine ⟨fun k σ H' => ∃ (t : Nat) (x4 x5 x6 : Option V) (vs ts : List V), k = 2001 - t ∧ σ = [some (.ref p), some (.ref NU), some (.ref OR), some (.ref TB), x4, x5, x6, none] ∧ Same H H' ∧ H' NU = some (.dT (numsK enc (bf (first d) (step d) t))) ∧ H' OR = some (.lst vs) ∧ StsAt enc H' vs (bf (first d) (step d) t) ∧ H' TB = some (.lst ts) ∧ StrAt H' ts (tbl (first d) (step d) t) ∧ t ≤ (bf (first d) (step d) t).length ∧ (bf (first d) (step d) t).length ≤ 2000,
      ⟨_, 0, none, none, none, _, _, rfl, rfl, e03, g1, g2, .cons ⟨t0, rfl, e03 _ _ ht0⟩ .nil, g3, .nil, Nat.zero_le _, by show 1 ≤ 2000; decide⟩, ?_⟩
    rintro k σ G ⟨t, x4, x5, x6, vs, ts, rfl, rfl, eG, gU, gO, sts, gT, str, tl1, tl2⟩
    have lvs := Paired.length sts
    have lts := Paired.length str
    have ltb : (tbl (first d) (step d) t).length = t := by
      unfold tbl
      rw [List.length_map, List.length_take]
      omega
    refine ⟨_, rfl, TB, ts, rfl, .inl (SqL.of gT), _, rfl, OR, vs, rfl, .inl (SqL.of gO), _, _, rfl, rfl, _, rfl, ?_⟩
    rw [lvs, lts, ltb]
    rcases Nat.lt_or_ge t (bf (first d) (step d) t).length with c | c
    · rw [decide_eq_true (show ((t : Nat) : Int) < (((bf (first d) (step d) t).length : Nat) : Int) by omega)]
      refine iteT ⟨fun σ' H' => ∃ k', k' < 2001 - t ∧ ∃ (t : Nat) (x4 x5 x6 : Option V) (vs ts : List V), k' = 2001 - t ∧ σ' = [some (.ref p), some (.ref NU), some (.ref OR), some (.ref TB), x4, x5, x6, none] ∧ Same H H' ∧ H' NU = some (.dT (numsK enc (bf (first d) (step d) t))) ∧ H' OR = some (.lst vs) ∧ StsAt enc H' vs (bf (first d) (step d) t) ∧ H' TB = some (.lst ts) ∧ StrAt H' ts (tbl (first d) (step d) t) ∧ t ≤ (bf (first d) (step d) t).length ∧ (bf (first d) (step d) t).length ≤ 2000, fun σ' H' ⟨k', l, z⟩ => ⟨k', l, z⟩, ?_⟩
      refine ⟨by show 0 ≤ sizeLine; decide, fun RW nRW => ?_⟩
      have e5 := same_new (o := .lst []) nRW
      have gRW : upd G RW (.lst []) RW = some (.lst []) := upd_same
      have dUR : NU ≠ RW := ne_of_none gU nRW
      have dOR : OR ≠ RW := ne_of_none gO nRW
      have dTR : TB ≠ RW := ne_of_none gT nRW
      have nR : H RW = none := eG.free nRW
      have eG5 := eG.trans e5
      have gU := e5 _ _ gU
      have gO := e5 _ _ gO
      have gT := e5 _ _ gT
      have sts := sts.tt fun a xs z => e5 _ _ z
      have str := str.same e5
      generalize upd G RW (.lst []) = G5 at eG5 gU gO gT sts str gRW ⊢
      clear e5 nRW eG
      refine gN ?_
      dsimp only
      obtain ⟨x0, hx0⟩ : ∃ x0, (bf (first d) (step d) t)[t]? = some x0 := ⟨_, List.getElem?_eq_getElem c⟩
      have nd := bf_nodup (first := first d) (step := step d) t
      have vx := vAll t x0 (List.mem_of_getElem? hx0)
      have eb := bf_some hx0
      refine ⟨"01", rfl, for_it (D := { nx := _, rt := Q, bk := _, ct := _ }) walk_str (fun i σ H' => ∃ (x5 x6 : Option V) (vs' : List V), σ = [some (.ref p), some (.ref NU), some (.ref OR), some (.ref TB), some (.ref RW), x5, x6, none] ∧ Same H H' ∧ H' NU = some (.dT (numsK enc (oI (step d) (bf (first d) (step d) t) x0 i))) ∧ H' OR = some (.lst vs') ∧ StsAt enc H' vs' (oI (step d) (bf (first d) (step d) t) x0 i) ∧ H' TB = some (.lst ts) ∧ StrAt H' ts (tbl (first d) (step d) t) ∧ H' RW = some (.lst (((rwS (bf (first d) (step d) (t + 1)) (step d) x0).take i).map V.int)) ∧ (oI (step d) (bf (first d) (step d) t) x0 i).length ≤ 2000)
        ⟨x5, x6, vs, rfl, eG5, gU, gO, sts, gT, str, gRW, tl2⟩ (fun _ _ _ _ _ => True.intro) ?_ ?_⟩
      · rintro i x σ H6 H6' hi ⟨y5, y6, vs', rfl, e6, hU, hO, sts6, hT, str6, hR, lo⟩ ⟨rfl, ch, hch, rfl⟩
        have hi : i < 2 := hi
        have ech := ch01 hi hch
        subst ech
        have pre := oI_pre (step d) (bf (first d) (step d) t) x0 (i := i) (by omega)
        have ndo := oI_nodup (step d) _ x0 nd (i := i) (by omega)
        have es := oI_succ (step d) (bf (first d) (step d) t) x0 hi
        have er := oI_row (step d) (bf (first d) (step d) t) x0 hi
        rw [← eb] at er
        generalize decide (i = 1) = b at es er
        generalize eo : oI (step d) (bf (first d) (step d) t) x0 i = o at hU sts6 pre ndo es lo
        have hxo : o[t]? = some x0 := by
          obtain ⟨r, er⟩ := pre.1
          rw [← er, List.getElem?_append_left c]
          exact hx0
        obtain ⟨v0, hv0, a0, rfl, ha0⟩ := paired_to sts6 hxo
        have lvs6 := Paired.length sts6
        refine gN ?_
        dsimp only
        refine ⟨_, rfl, p, dx, _, rfl, (tt0 e6).2, l2, _, rfl, _, rfl, TB, ts, rfl, .inl (SqL.of hT), OR, vs', _, .ref a0, rfl, rfl, SqL.of hO, (by rw [lts, ltb]; exact atI_nat hv0), _, rfl, p, a0, d, x0, b, rfl, (tt0 e6).1, ha0, vx, fun u H7 e7 hu => ?_⟩
        generalize step d x0 b = y at hu es er
        have e67 := e6.trans e7
        have hU := e7 _ _ hU
        have hO := e7 _ _ hO
        have hT := e7 _ _ hT
        have hR := e7 _ _ hR
        have sts7 := sts6.tt fun a xs z => e7 _ _ z
        have str7 := str6.same e7
        clear ha0 hv0 sts6 str6 e7 e6
        refine gN ?_
        dsimp only
        have hget := numsK_get ST.inj o ndo y
        refine cutSeq (fun σ8 H8 => σ8 = [some (.ref p), some (.ref NU), some (.ref OR), some (.ref TB), some (.ref RW), some (.str ⟨#[cd b]⟩), some (.ref u), none] ∧ ∃ vs8, Same H H8 ∧ H8 NU = some (.dT (numsK enc (ad o y))) ∧ H8 OR = some (.lst vs8) ∧ StsAt enc H8 vs8 (ad o y) ∧ H8 TB = some (.lst ts) ∧ StrAt H8 ts (tbl (first d) (step d) t) ∧ H8 RW = some (.lst (((rwS (bf (first d) (step d) (t + 1)) (step d) x0).take i).map V.int)) ∧ H8 u = some (.tup ((enc y).map kV)) ∧ (ad o y).length ≤ 2000) (fun nx hnx => ?_) ?_
        · refine ⟨_, rfl, _, rfl, NU, _, rfl, DGet.t hU hu, ?_⟩
          rw [hget]
          by_cases m : y ∈ o
          · rw [if_pos m]
            have ea : ad o y = o := by
              unfold ad
              rw [if_pos m]
            refine ⟨_, rfl, iteF (nextOf (hnx _ _ ⟨rfl, vs', e67, by rw [ea]; exact hU, hO, by rw [ea]; exact sts7, hT, str7, hR, hu, by rw [ea]; exact lo⟩))⟩
          · rw [if_neg m]
            have ea : ad o y = o ++ [y] := by
              unfold ad
              rw [if_neg m]
            refine ⟨_, rfl, iteT ?_⟩
            refine ⟨_, rfl, OR, vs', rfl, .inl (SqL.of hO), rfl, _, rfl, ?_⟩
            rw [lvs6]
            by_cases c20 : o.length = 2000
            · rw [decide_eq_true (show V.int ((o.length : Nat) : Int) = V.int 2000 by rw [c20]; rfl)]
              refine iteT ⟨_, _, rfl, rfl, raise3 xT.T n1 n2 n3 (by show PyData.strOk _ = true; decide +kernel) True.intro True.intro fun a H' r => k2 (t + 1) a H' ?_ (r.back e67)⟩
              have l1 := (oI_pre (step d) (bf (first d) (step d) t) x0 (i := i + 1) (by omega)).2.length_le
              rw [es, ea, List.length_append, ← eb, List.length_singleton] at l1
              omega
            · rw [decide_eq_false (show ¬ V.int ((o.length : Nat) : Int) = V.int 2000 from fun z => by injection z with z; omega)]
              refine iteF (nextOf ?_)
              refine ⟨_, rfl, OR, vs', rfl, .inl (SqL.of hO), _, rfl, _, rfl, NU, _, rfl, DPut.t hU hu (by rw [numsK_len]; exact small10 (by omega)), ?_⟩
              have ek : putK (numsK enc o) (enc y) (.int (vs'.length : Nat)) = numsK enc (ad o y) := by rw [lvs6, numsK_ad ST.inj ndo m]
              rw [ek]
              have b8 : ButI NU H7 (upd H7 NU (.dT (numsK enc (ad o y)))) := fun b o n z => (upd_ne n).trans z
              have n8 : ∀ xs, H7 NU ≠ some (.tup xs) := fun xs z => by rw [hU] at z; cases z
              have tt8 : ∀ a xs, H7 a = some (.tup xs) → upd H7 NU (.dT (numsK enc (ad o y))) a = some (.tup xs) := fun a xs z => (upd_ne (ne_of z hU fun y => nomatch y)).trans z
              have hU8 : upd H7 NU (.dT (numsK enc (ad o y))) NU = some (.dT (numsK enc (ad o y))) := upd_same
              have hO8 := b8 _ _ (Ne.symm dUO) hO
              have hT8 := b8 _ _ (Ne.symm dUT) hT
              have hR8 := b8 _ _ (Ne.symm dUR) hR
              have hu8 := tt8 _ _ hu
              have sts8 := sts7.tt tt8
              have str8 := str7.at_ b8 n8
              have e8 : Same H (upd H7 NU (.dT (numsK enc (ad o y)))) := fun b o z => b8 b o (ne_of_none z nNU) (e67 _ _ z)
              clear b8 n8 tt8
              generalize upd H7 NU (.dT (numsK enc (ad o y))) = H8 at hU8 hO8 hT8 hR8 hu8 sts8 str8 e8 ⊢
              refine ⟨_, rfl, .inl ⟨rfl, _, SqL.of hO8⟩, _, rfl, OR, vs', _, rfl, rfl, hO8, small10 (by omega), ?_⟩
              have b9 : ButI OR H8 (upd H8 OR (.lst (vs' ++ [.ref u]))) := fun b o n z => (upd_ne n).trans z
              have n9 : ∀ xs, H8 OR ≠ some (.tup xs) := fun xs z => by rw [hO8] at z; cases z
              have tt9 : ∀ a xs, H8 a = some (.tup xs) → upd H8 OR (.lst (vs' ++ [.ref u])) a = some (.tup xs) := fun a xs z => (upd_ne (ne_of z hO8 fun y => nomatch y)).trans z
              refine hnx _ _ ⟨rfl, vs' ++ [.ref u], fun b o z => b9 b o (ne_of_none z nO) (e8 _ _ z), b9 _ _ dUO hU8, upd_same, ?_, b9 _ _ (Ne.symm dOT) hT8, str8.at_ b9 n9, b9 _ _ (Ne.symm dOR) hR8, tt9 _ _ hu8, by rw [ea, List.length_append, List.length_singleton]; omega⟩
              rw [ea]
              exact Paired.snoc (sts8.tt tt9) ⟨u, rfl, tt9 _ _ hu8⟩
        · rintro σ8 H8 ⟨rfl, vs8, e8, hU8, hO8, sts8, hT8, str8, hR8, hu8, lo8⟩
          have mem : y ∈ ad o y := ad_mem o y
          have ndy : (ad o y).Nodup := ad_nodup ndo y
          have hg : DGet H8 NU (.ref u) (some (.int ((ad o y).idxOf y : Nat))) := by
            have h := DGet.t hU8 hu8
            rw [numsK_get ST.inj _ ndy, if_pos mem] at h
            exact h
          refine ⟨_, rfl, .inl ⟨rfl, _, SqL.of hR8⟩, _, rfl, _, rfl, NU, _, rfl, hg, RW, _, _, rfl, rfl, hR8, ?_, ?_⟩
          · rw [List.length_map, List.length_take]
            exact small10 (by omega)
          have b9 : ∀ xs, ButI RW H8 (upd H8 RW (.lst xs)) := fun xs b o n z => (upd_ne n).trans z
          have n9 : ∀ xs, H8 RW ≠ some (.tup xs) := fun xs z => by rw [hR8] at z; cases z
          rw [es] at er ⊢
          refine ⟨_, _, vs8, rfl, fun b o z => b9 _ b o (ne_of_none z nR) (e8 _ _ z), b9 _ _ _ dUR hU8, b9 _ _ _ dOR hO8, sts8.tt fun a xs z => (upd_ne (ne_of z hR8 fun y => nomatch y)).trans z, b9 _ _ _ dTR hT8, str8.at_ (b9 _) n9, ?_, lo8⟩
          rw [upd_same, List.take_add_one, er, List.map_append]
          rfl
      · rintro σ H6 ⟨y5, y6, vs', rfl, e6, hU, hO, sts6, hT, str6, hR, lo⟩
        rw [show ("01" : Str).cps.size = 2 from rfl] at hU sts6 hR lo
        rw [show oI (step d) (bf (first d) (step d) t) x0 2 = bf (first d) (step d) (t + 1) from eb.symm] at hU sts6 lo
        rw [show (rwS (bf (first d) (step d) (t + 1)) (step d) x0).take 2 = rwS (bf (first d) (step d) (t + 1)) (step d) x0 from rfl] at hR
        dsimp only
        refine ⟨_, rfl, .inl ⟨rfl, ts, SqL.of hT⟩, _, rfl, RW, _, rfl, .inl hR, by show 2 ≤ 5000; decide, fun st H7 rs e7 nst hst pr => ⟨TB, ts, _, rfl, rfl, e7 _ _ hT, small10 (by omega), ?_⟩⟩
        have e67 := e6.trans e7
        have hU := e7 _ _ hU
        have hO := e7 _ _ hO
        have hT := e7 _ _ hT
        have sts7 := sts6.tt fun a xs z => e7 _ _ z
        have str7 := str6.same e7
        have b9 : ButI TB H7 (upd H7 TB (.lst (ts ++ [.ref st]))) := fun b o n z => (upd_ne n).trans z
        have n9 : ∀ xs, H7 TB ≠ some (.tup xs) := fun xs z => by rw [hT] at z; cases z
        have lp := (bf_pre1 (first := first d) (step := step d) t).length_le
        refine ⟨2001 - (t + 1), by omega, t + 1, _, _, _, vs', ts ++ [.ref st], rfl, rfl, fun b o z => b9 b o (ne_of_none z nT) (e67 _ _ z), b9 _ _ dUT hU, b9 _ _ dOT hO, sts7.tt fun a xs z => (upd_ne (ne_of z hT fun y => nomatch y)).trans z, upd_same, ?_, ?_, lo⟩
        · rw [tbl_succ hx0]
          exact Paired.snoc (str7.at_ b9 n9) ⟨st, rs, rfl, (upd_ne (ne_of hst hT fun y => nomatch y)).trans hst, pr.at_ b9 n9⟩
        · have : t + 1 ≤ (bf (first d) (step d) (t + 1)).length := by
            rcases Nat.lt_or_ge t (bf (first d) (step d) (t + 1)).length with z | z <;> omega
          exact this
    · rw [decide_eq_false (show ¬ ((t : Nat) : Int) < (((bf (first d) (step d) t).length : Nat) : Int) by omega)]
      refine iteF ?_
      have et : (bf (first d) (step d) t).length = t := by omega
      have O : OkMa 2 (tbl (first d) (step d) t) 0 (selM (fun i => mark d ((bf (first d) (step d) t).getD i (first d))) (tbl (first d) (step d) t).length) := by
        refine OkMa.sel (ms := []) ⟨by decide, by decide, by rw [ltb, ← et]; exact bf_len_pos t, by omega, fun L hL => ?_, Int.le_refl _, by rw [ltb]; have := bf_len_pos (first := first d) (step := step d) t; omega, (fun m hm => nomatch hm), .nil⟩ _
        obtain ⟨x, hx, rfl⟩ := List.mem_map.mp hL
        have hx := List.mem_of_mem_take hx
        have m0 := List.idxOf_lt_length_iff.mpr (bf_closed c hx false)
        have m1 := List.idxOf_lt_length_iff.mpr (bf_closed c hx true)
        refine ⟨rfl, fun y hy => ?_⟩
        rw [ltb]
        rcases List.mem_cons.mp hy with rfl | hy
        · omega
        · rw [List.mem_singleton.mp hy]
          omega
      refine ⟨_, rfl, _, rfl, OR, vs, rfl, .inl (SqL.of gO), fun J G' wk hG KD nKD => lcM wk (fun i => V.bl (mark d ((bf (first d) (step d) t).getD i (first d)))) (by omega) nKD (fun H' e => hG H' fun o z => e _ _ z) ?_ ?_⟩
      · rintro i x H2 H3 N hi e2 ⟨rfl, hx⟩ fin
        obtain ⟨y, hy, a, rfl, ha⟩ := paired_at sts hx
        have eG2 := eG.trans e2
        refine ⟨rfl, _, rfl, p, dx, _, rfl, (tt0 eG2).2, l3, _, rfl, p, a, d, y, rfl, (tt0 eG2).1, e2 _ _ ha, vAll t y (List.mem_of_getElem? hy), ?_⟩
        have := fin _ (Same.refl _)
        rw [List.getD_eq_getElem?_getD, hy] at this
        exact this
      · intro H5 e5 hKD
        rw [lvs, et] at hKD
        refine ⟨TB, KD, 2, tbl (first d) (step d) t, 0, ts, fun i => mark d ((bf (first d) (step d) t).getD i (first d)), rfl, e5 _ _ gT, str.same e5, ?_, O, fun x H' nx e M => ?_⟩
        · rw [ltb]
          exact hKD
        · rw [tbl_all et, show (rws (first d) (step d) t).length = t by rw [← tbl_all et, ltb]] at M
          exact k1 t x H' et (by omega) ((eG.trans e5).free nx) ((eG.trans e5).trans e) M
end
end K61
set_option Elab.async false
set_option linter.all false
set_option maxRecDepth 100001
set_option maxHeartbeats 3999999
/-! dict(xs) of a list of pairs (tuple, value) -/
namespace L2
open PySem.Spec PySem PyProof.Rows
def mergeT (kvs : List (List Key × V)) : List (List Key × V) := kvs.foldl (fun acc kv => putK acc kv.1 kv.2) []
theorem mergeT_new : ∀ (kvs acc : List (List Key × V)), (kvs.map (·.1)).Nodup → (∀ kv ∈ kvs, ∀ x ∈ acc, x.1 ≠ kv.1) → kvs.foldl (fun acc kv => putK acc kv.1 kv.2) acc = acc ++ kvs
  | [], acc, _, _ => (List.append_nil _).symm
  | kv :: kvs, acc, nd, no => by
    have e : putK acc kv.1 kv.2 = acc ++ [kv] := by
      unfold putK
      rw [if_neg]
      intro h
      rw [List.any_eq_true] at h
      obtain ⟨x, hx, e⟩ := h
      exact no kv List.mem_cons_self x hx (of_decide_eq_true e)
    rw [List.map_cons, List.nodup_cons] at nd
    rw [List.foldl_cons, e, mergeT_new kvs (acc ++ [kv]) nd.2 fun k hk x hx => ?_, List.append_assoc]
    · rfl
    · rcases List.mem_append.mp hx with hx | hx
      · exact no k (List.mem_cons_of_mem _ hk) x hx
      · rw [List.mem_singleton.mp hx]
        intro z
        exact nd.1 (z ▸ List.mem_map_of_mem hk)
theorem KT.merge {H : Hp} : ∀ {kvs : List (List Key × V)} {ps : List (List Key × Addr × Value)} {acc : List (List Key × V)} {xs : List (List Key × Addr × Value)}, KT H kvs ps → KT H acc xs →
    KT H (kvs.foldl (fun acc kv => putK acc kv.1 kv.2) acc) (storedAllH xs ps)
  | _, _, _, _, .nil, r => r
  | _, _, _, _, .cons (a := kv) (b := p) ⟨h1, h2, h3⟩ t, r => by
    have := KT.put r kv.1 h2 h3
    rw [List.foldl_cons]
    unfold storedAllH
    rw [List.foldl_cons, ← h1]
    exact KT.merge t this
section
variable {X : Cx}
theorem pairsT_of {pins : List (Addr × Obj)} {σ : St} {H : Hp} {s : Shared} (I : Inv X pins σ H s) : ∀ {ps : List Addr} {kvs : List (List Key × V)}, Paired (fun p kv => ∃ b, H p = some (.tup [.ref b, kv.2]) ∧ H b = some (.tup (kv.1.map kV))) ps kvs →
    ∃ hs : List (List Key × Addr × Value), KT H kvs hs ∧ hs.length = ps.length ∧ ∀ (j : Nat) (q : List Key × Addr × Value), hs[j]? = some q → ∃ T, ps[j]? = some T ∧ s.heap.IsTuple T #[.ref q.2.1, q.2.2] ∧ (tupleKind (mixKind X.prog X.w)).is s.heap q.1 q.2.1
  | _, _, .nil => ⟨[], .nil, rfl, fun j q e => by simp at e⟩
  | _, _, .cons (a := p) (b := kv) ⟨b, h1, h2⟩ t => by
    obtain ⟨hs, r, hl, hp⟩ := pairsT_of I t
    obtain ⟨its, rv, ht, _⟩ := I.tuple (SqT.of (K := X.K) h1)
    obtain ⟨u, y, ei, ru, ry⟩ := vals2 rv
    subst ei
    cases (show u = Value.ref b from ru)
    refine ⟨(kv.1, b, y) :: hs, .cons ⟨rfl, h2, ry⟩ r, by rw [List.length_cons, List.length_cons, hl], fun j q e => ?_⟩
    cases j with
    | zero =>
      have e' : (kv.1, b, y) = q := Option.some.inj e
      subst e'
      obtain ⟨o, ho, hc, n, hd⟩ := ht
      exact ⟨p, rfl, ⟨o, ho, hc, n, hd⟩, key_of I.hok h2⟩
    | succ j =>
      obtain ⟨T, e1, e2, e3⟩ := hp j q (by simpa using e)
      exact ⟨T, by simpa using e1, e2, e3⟩
theorem call_dictPT (hc : X.calm = true) (hu : X.A.units + 2 < cLine) : CallR X (.type "dict") (fun xs H Q => ∃ (a : Addr) (ps : List Addr) (kvs : List (List Key × V)), xs = [.ref a] ∧ SqL X.K H a (ps.map V.ref) ∧ Paired (fun p kv => ∃ b, H p = some (.tup [.ref b, kv.2]) ∧ H b = some (.tup (kv.1.map kV))) ps kvs ∧
    ∀ p, H p = none → Q (.ref p) (upd H p (.dT (mergeT kvs)))) := by
  intro pins s σ H xs us Q I r q
  obtain ⟨a, ps, kvs, ex, hq, hp, q⟩ := q
  subst ex
  obtain ⟨u, eu, rx⟩ := vals1 r
  subst eu
  cases rx
  obtain ⟨its, rv, pl, hz⟩ := I.list hq
  have ei := refs_at rv
  subst ei
  have hh : X.A.handled = none := I.ok.hd hc
  obtain ⟨hs, kt, hl, hat⟩ := pairsT_of I hp
  rw [List.length_map] at hz
  have hrs : PairItems s.heap (ps.map Value.ref).toArray (fun j => ps.getD j 0) (hs.map fun q => (Value.ref q.2.1, q.2.2)) := by
    refine ⟨by simp [hl], fun j k v e => ?_⟩
    rw [List.getElem?_map] at e
    cases hj : hs[j]? with
    | none => rw [hj] at e; cases e
    | some q' =>
      rw [hj] at e
      cases e
      obtain ⟨T, e1, e2, _⟩ := hat j q' hj
      have eT : (fun j => ps.getD j 0) j = T := by
        show ps.getD j 0 = T
        rw [List.getD_eq_getElem?_getD, e1]
        rfl
      rw [eT]
      refine ⟨?_, .inl e2⟩
      rw [List.getElem?_toArray, List.getElem?_map, e1]
      rfl
  obtain ⟨o, n, ho, hcl, hd, hdat⟩ := pl
  have lhs : (hs.map fun q => (Value.ref q.2.1, q.2.2)).length = hs.length := List.length_map _
  refine PySem.call_dict_pairsH (knd := tupleKind (mixKind X.prog X.w)) (ps := hs) (PairArg.list a _ _ _) hh (tupleKind_room_in1 (A := X.A.in1) (show X.A.units + 1 + 1 < cLine from hu)) ⟨⟨o, n, ho, hcl, hd, hdat⟩, hrs⟩ ⟨lhs.symm, fun i key v h => ?_⟩ (fun h' hk x hx => ?_) (by rw [lhs, hl]; exact hz) fun h' tk hd' k => ?_
  · have h : (hs.map fun q => (Value.ref q.2.1, q.2.2))[i]? = some (key, v) := h
    rw [List.getElem?_map] at h
    cases hj : hs[i]? with
    | none => rw [hj] at h; cases h
    | some q' =>
      rw [hj] at h
      cases h
      exact ⟨q'.1, q'.2.1, rfl, rfl⟩
  · obtain ⟨j, hj, e⟩ := List.mem_iff_getElem.mp hx
    obtain ⟨T, _, _, e3⟩ := hat j x (by rw [List.getElem?_eq_getElem hj, e])
    obtain ⟨o3, items, n3, g1, g2, g3, g4⟩ := (show IsTupleKey (mixKind X.prog X.w) s.heap x.1 x.2.1 from e3)
    exact ⟨o3, items, n3, hk _ _ (Nat.ne_of_lt (Heap.lt_size g1)) (fun z => nomatch z) g1, g2, g3, g4⟩
  · have k : ∀ b o, s.heap.get? b = some o → h'.get? b = some o := fun b o e => k b o (fun z => nomatch z) e
    have hm : (s.heap.objs.size == sysModules) = false := beq_eq_false_iff_ne.mpr (Nat.ne_of_gt I.big)
    have km := KT.merge kt (acc := []) (xs := []) .nil
    have hlen : (mergeT kvs).length ≤ sizeLine := by
      have e1 : (mergeT kvs).length = (storedAllH [] hs).length := Paired.length km
      have e2 := storedAllH_length hs []
      rw [e1]
      refine Nat.le_trans e2 ?_
      rw [List.length_nil, Nat.zero_add, hl]
      exact hz
    obtain ⟨qo, es, ep, g1, g2, g3, g4, _, g5⟩ := hd'
    refine ⟨.ref s.heap.objs.size, upd H s.heap.objs.size (.dT (mergeT kvs)), I.laid (t' := tk) k (Nat.le_refl _) ⟨hlen, hm, storedAllH [] hs, ?_, qo, es, ep, g1, g2, g3, g4, g5⟩, rfl, q _ (I.hok.fresh (Nat.le_refl _))⟩
    exact KT.keeps km fun c ys ec => by
      rw [upd_ne (fun z => by rw [z, I.hok.fresh (Nat.le_refl _)] at ec; cases ec)]
      exact ec
end
end L2
set_option Elab.async false
set_option linter.all false
set_option maxRecDepth 100001
set_option maxHeartbeats 3999999
namespace K61
open PySem L2
theorem lcF {J : It} {n : Nat} {G : Hp → Prop} {Y : Nat → Hp → V → Hp → Prop} (wk : Walk J n G Y) {g : TG} {tt : L2.TT} {te : TE} {vs : List Nat} {σ : St} {H1 : Hp} {D : Addr} {Qd : Hp → Prop} (p : Nat → Bool) (f : Nat → V) (hb : n ≤ 10000) (nD : H1 D = none) (hG : ∀ H', Same H1 H' → G H')
    (hs : ∀ (i : Nat) (x : V) (H2 H3 : Hp) (Q : VK) (N : Hp → Prop), i < n → Same H1 H2 → Y i H2 x H3 → (p i = true → ∀ H4, Same H2 H4 → Q (f i) H4) → (p i = false → ∀ H4, Same H2 H4 → N H4) → g x (wipe σ vs) H3 fun σ2 H4 => wipe σ2 vs = wipe σ vs ∧ tt σ2 H4 fun b H5 => if b = true then te σ2 H5 Q else N H5)
    (hd : ∀ H', Same H1 H' → H' D = some (.lst (((List.range n).filter p).map f)) → Qd H') :
    ∃ W : Nat → Nat → Hp → Prop, (∃ m, W 0 m (upd H1 D (.lst []))) ∧ ∀ i m H, W i m H →
      (J.stop i H ∧ Qd H) ∨ (J.go i H ∧ ∃ Nx : Hp → Prop, (∀ H', Nx H' → ∃ m', m' < m ∧ W (i + 1) m' H') ∧ ∀ x H', J.yld i H x H' → g x (wipe σ vs) H' fun σ2 H2 => wipe σ2 vs = wipe σ vs ∧ tt σ2 H2 fun b H3 =>
        if b = true then te σ2 H3 fun y H4 => ∃ acc, H4 D = some (.lst acc) ∧ acc.length < sizeLine ∧ Nx (upd H4 D (.lst (acc ++ [y]))) else Nx H3) := by
  refine lc_it wk (fun i H' => Same H1 H' ∧ H' D = some (.lst (((List.range i).filter p).map f))) ⟨same_new nD, upd_same⟩ (fun i H' _ z => hG H' z.1) ?_ (fun H' z => hd H' z.1 z.2)
  rintro i x H H' hi ⟨e1, hD⟩ y
  refine hs i x H H' _ _ hi e1 y (fun hp H4 e4 => ⟨_, e4 _ _ hD, ?_, fun b o z => ?_, ?_⟩) fun hp H4 e4 => ⟨e1.trans e4, ?_⟩
  · rw [List.length_map]
    have := List.length_filter_le p (List.range i)
    rw [List.length_range] at this
    exact small10 (by omega)
  · rw [upd_ne (ne_of_none z nD)]
    exact e4 _ _ (e1 _ _ z)
  · rw [upd_same, List.range_succ, List.filter_append, List.map_append, List.filter_cons_of_pos hp]
    rfl
  · rw [e4 _ _ hD, List.range_succ, List.filter_append, List.filter_cons_of_neg (by rw [hp]; decide)]
    simp
/-- words of a full code, at most ten -/
structure FW (ws : List W) : Prop where
  pf : PF ws
  lo : ∀ w ∈ ws, 1 ≤ w.length
  hi : ∀ w ∈ ws, w.length + 1 ≤ ws.length
  kr : kr 10 ws = 2 ^ 10
theorem kr_perm {L : Nat} {a b : List W} (p : a.Perm b) : kr L a = kr L b := (p.map _).sum_nat
theorem FW.perm {a b : List W} (h : FW a) (p : a.Perm b) : FW b :=
  ⟨h.pf.perm p, fun w hw => h.lo w (p.symm.subset hw), fun w hw => by rw [← p.length_eq]; exact h.hi w (p.symm.subset hw), by rw [← kr_perm p]; exact h.kr⟩
theorem FW.start : FW [[false], [true]] := by
  refine ⟨?_, ?_, ?_, rfl⟩
  · refine .cons (fun w hw => ?_) (.cons (fun w hw => nomatch hw) .nil)
    rw [List.mem_singleton.mp hw]
    exact ⟨by decide, by decide⟩
  · intro w hw
    rcases List.mem_cons.mp hw with rfl | hw
    · decide
    · rw [List.mem_singleton.mp hw]
      decide
  · intro w hw
    rcases List.mem_cons.mp hw with rfl | hw
    · decide
    · rw [List.mem_singleton.mp hw]
      decide
theorem kr_app (L : Nat) (a b : List W) : kr L (a ++ b) = kr L a + kr L b := by simp [kr]
theorem FW.cut {w : W} {r : List W} (h : FW (w :: r)) (l : r.length + 1 ≤ 10) : FW (r ++ [w ++ [false], w ++ [true]]) := by
  obtain ⟨p1, p2⟩ := List.pairwise_cons.mp h.pf
  have lw := h.hi w List.mem_cons_self
  rw [List.length_cons] at lw
  have one : ∀ x ∈ r, ∀ b : Bool, ¬ x <+: w ++ [b] ∧ ¬ w ++ [b] <+: x := fun x hx b => by
    obtain ⟨a1, a2⟩ := p1 x hx
    refine ⟨fun z => ?_, fun z => a1 ((List.prefix_append w [b]).trans z)⟩
    rcases List.prefix_concat_iff.mp z with e | z
    · exact a1 (e ▸ List.prefix_append w [b])
    · exact a2 z
  have two : ∀ x ∈ r ++ [w ++ [false], w ++ [true]], x ∈ r ∨ ∃ b : Bool, x = w ++ [b] := fun x hx => by
    rcases List.mem_append.mp hx with z | z
    · exact .inl z
    · rcases List.mem_cons.mp z with rfl | z
      · exact .inr ⟨_, rfl⟩
      · rw [List.mem_singleton.mp z]
        exact .inr ⟨_, rfl⟩
  refine ⟨?_, fun x hx => ?_, fun x hx => ?_, ?_⟩
  · refine List.pairwise_append.mpr ⟨p2, ?_, fun x hx y hy => ?_⟩
    · refine .cons (fun y hy => ?_) (.cons (fun y hy => nomatch hy) .nil)
      rw [List.mem_singleton.mp hy]
      have ne : ∀ b c : Bool, b ≠ c → ¬ w ++ [b] <+: w ++ [c] := fun b c n z => by
        have := z.eq_of_length (by rw [List.length_append, List.length_append]; rfl)
        exact n (List.singleton_inj.mp (List.append_cancel_left this))
      exact ⟨ne _ _ (by decide), ne _ _ (by decide)⟩
    · rcases List.mem_cons.mp hy with rfl | hy
      · exact one x hx false
      · rw [List.mem_singleton.mp hy]
        exact one x hx true
  · rcases two x hx with z | ⟨b, rfl⟩
    · exact h.lo x (List.mem_cons_of_mem _ z)
    · rw [List.length_append]
      exact Nat.le_add_left _ _
  · rw [List.length_append]
    show x.length + 1 ≤ r.length + 2
    rcases two x hx with z | ⟨b, rfl⟩
    · have := h.hi x (List.mem_cons_of_mem _ z)
      rw [List.length_cons] at this
      omega
    · rw [List.length_append]
      show w.length + 1 + 1 ≤ _
      omega
  · have k := h.kr
    rw [kr_cons] at k
    rw [kr_app, kr_cons, kr_cons, List.length_append, List.length_append]
    show K61.kr 10 r + (2 ^ (10 - (w.length + 1)) + (2 ^ (10 - (w.length + 1)) + 0)) = _
    have : 2 ^ (10 - w.length) = 2 * 2 ^ (10 - (w.length + 1)) := by
      rw [← Nat.pow_succ']
      congr 1
      omega
    omega

/-! ### a comprehension that takes from the pen -/
theorem lcP1 {J : It} {n : Nat} {G : Hp → Prop} {Y : Nat → Hp → V → Hp → Prop} (wk : Walk J n G Y) {g : TG} {tt : L2.TT} {te : TE} {vs : List Nat} {σ : St} {H1 : Hp} {D : Addr} {Qd : Hp → Prop} {pn cl : Addr} {b s : Nat} (I : Nat → List V → Prop) (i0 : I 0 []) (hl : ∀ i acc, I i acc → acc.length ≤ i) (hb : n ≤ 10000) (nD : H1 D = none) (pen : Pen H1 pn cl b)
    (hG : ∀ H', But pn H1 H' → G H')
    (hs : ∀ (i : Nat) (x : V) (acc : List V) (H2 H3 : Hp) (Q : VK) (N : Hp → Prop), i < n → I i acc → But pn H1 H2 → Pen H2 pn cl (b + s * i) → Y i H2 x H3 → (∀ v H4, I (i + 1) (acc ++ [v]) → But pn H2 H4 → Pen H4 pn cl (b + s * i + s) → Q v H4) → (∀ H4, I (i + 1) acc → But pn H2 H4 → Pen H4 pn cl (b + s * i + s) → N H4) → g x (wipe σ vs) H3 fun σ2 H4 => wipe σ2 vs = wipe σ vs ∧ tt σ2 H4 fun b H5 => if b = true then te σ2 H5 Q else N H5)
    (hd : ∀ (acc : List V) H', I n acc → But pn H1 H' → Pen H' pn cl (b + s * n) → H' D = some (.lst acc) → Qd H') :
    ∃ W : Nat → Nat → Hp → Prop, (∃ m, W 0 m (upd H1 D (.lst []))) ∧ ∀ i m H, W i m H →
      (J.stop i H ∧ Qd H) ∨ (J.go i H ∧ ∃ Nx : Hp → Prop, (∀ H', Nx H' → ∃ m', m' < m ∧ W (i + 1) m' H') ∧ ∀ x H', J.yld i H x H' → g x (wipe σ vs) H' fun σ2 H2 => wipe σ2 vs = wipe σ vs ∧ tt σ2 H2 fun b H3 =>
        if b = true then te σ2 H3 fun y H4 => ∃ acc, H4 D = some (.lst acc) ∧ acc.length < sizeLine ∧ Nx (upd H4 D (.lst (acc ++ [y]))) else Nx H3) := by
  have cD : cl ≠ D := by
    obtain ⟨_, _, _, _, p2, _⟩ := pen
    exact ne_of_none p2 nD
  have pD : pn ≠ D := by
    obtain ⟨_, _, _, p1, _⟩ := pen
    exact ne_of_none p1 nD
  refine lc_it wk (fun i H' => But pn H1 H' ∧ Pen H' pn cl (b + s * i) ∧ ∃ acc, H' D = some (.lst acc) ∧ I i acc) ⟨fun c o n z => (upd_ne (ne_of_none z nD)).trans z, by rw [Nat.mul_zero]; exact pen.upd pD cD, [], upd_same, i0⟩ (fun i H' _ z => hG H' z.1) ?_ (fun H' ⟨z1, z2, acc, z3, z4⟩ => hd acc H' z4 z1 z2 z3)
  rintro i x H H' hi ⟨b1, p1, acc, hD, ia⟩ y
  have off : ∀ {H4 : Hp}, But pn H H4 → H4 D = some (.lst acc) := fun e => e _ _ (Ne.symm pD) hD
  refine hs i x acc H H' _ _ hi ia b1 p1 y (fun v H4 iv b4 p4 => ⟨acc, off b4, ?_, fun c o n z => ?_, ?_, _, upd_same, iv⟩) fun H4 iv b4 p4 => ⟨fun c o n z => b4 _ _ n (b1 _ _ n z), ?_, acc, off b4, iv⟩
  · have := hl i acc ia
    exact small10 (by omega)
  · rw [upd_ne (ne_of_none z nD)]
    exact b4 _ _ n (b1 _ _ n z)
  · rw [Nat.mul_add, Nat.mul_one, ← Nat.add_assoc]
    exact p4.upd pD cD
  · rw [Nat.mul_add, Nat.mul_one, ← Nat.add_assoc]
    exact p4
/-! ### bit_search -/
abbrev sBSe : Stmt := topS 57
abbrev NBSe : List Str := ["code", "machine"]
abbrev bfS (d : SD) (N : Nat) : List (Int × W) := bf (d.st, ([] : W)) (stS d) N
abbrev rwD (d : SD) (N : Nat) : List (List Int) := rws (d.st, ([] : W)) (stS d) N
abbrev mkD (d : SD) (N : Nat) : List Int := selM (fun i => mkS d ((bfS d N).getD i (d.st, []))) N
theorem CdAt.tree {C CR : Addr} {H : Hp} {q : Addr} {ws : List W} (cd : CdAt C CR H q ws) : ∃ nm y2 y3 kvs, TrOk ws nm y2 y3 kvs := by
  obtain ⟨dx, lt, wt, tr, L, _, _, dx2, a1, a2, a3, D, nm, y2, y3, kvs, _, _, _, _, _, T⟩ := cd.ob
  exact ⟨nm, y2, y3, kvs, T⟩
theorem CdAt.root {C CR : Addr} {H : Hp} {q : Addr} {ws : List W} (cd : CdAt C CR H q ws) : Nd ws [] := by
  have l := cd.two
  refine ⟨0, ws[0], fun z => ?_, by rw [List.nil_append]; exact List.getElem?_eq_getElem (by omega)⟩
  have := pf_nil cd.pf (z ▸ List.getElem_mem (show 0 < ws.length by omega))
  rw [this] at l
  simp at l
/-- behind a node there is a node or a word -/
theorem CdAt.kid {C CR : Addr} {H : Hp} {q : Addr} {ws : List W} (cd : CdAt C CR H q ws) {x : W} (nd : Nd ws x) (b : Bool) : x ++ [b] ∈ ws ∨ Nd ws (x ++ [b]) := by
  obtain ⟨nm, y2, y3, kvs, T⟩ := cd.tree
  obtain ⟨i, hi⟩ := List.mem_iff_getElem?.mp (nd_mem T cd.pf _ x rfl nd)
  obtain ⟨_, k0, k1⟩ := T.dn i x hi
  have key : ∀ xs, KidOk ws nm xs i x b → x ++ [b] ∈ ws ∨ Nd ws (x ++ [b]) := fun xs ⟨c, _, k⟩ => by
    rcases k with ⟨j, _, _, hj⟩ | ⟨o, _, ho⟩
    · obtain ⟨⟨o, v, n, e⟩, _⟩ := T.dn j _ hj
      exact .inr ⟨o, v, n, e⟩
    · exact .inl (List.mem_of_getElem? ho)
  cases b with
  | false => exact k0.elim False.elim (key _)
  | true => exact k1.elim False.elim (key _)
theorem CM.step {C CR CMa : Addr} {H : Hp} {q m : Addr} {ws : List W} {Ls : List (List Int)} {st : Int} {ms : List Int} (M : CM C CR CMa H q m ws Ls st ms) {s : Int × W} (ok : SOk ws Ls s) (b : Bool) : SOk ws Ls (stp ws Ls s b) := by
  obtain ⟨s1, s2, nd⟩ := ok
  unfold stp
  cases es : sgB ws s.2 b with
  | some o =>
    have lo := sgB_lt es
    obtain ⟨i, L0, ei, hL0, hLx, v1, v2⟩ := M.ok.nxt s1 s2 (x := ((o : Nat) : Int)) (by omega) (by omega)
    exact ⟨v1, v2, M.cd.root⟩
  | none =>
    have nw : s.2 ++ [b] ∉ ws := fun m => by
      unfold sgB at es
      rw [if_pos m] at es
      cases es
    refine ⟨s1, s2, ?_⟩
    show Nd ws (ndB ws s.2 b)
    unfold ndB
    rw [if_neg nw]
    exact (M.cd.kid nd b).resolve_left nw
theorem stC {K : PySem.W.Frag} {C CR CMa CS : Addr} (TS : TxS K CS) : StC K CS (IsS C CR CMa CS) encS (fun d => (d.st, ([] : W))) stS vS where
  cl := TS.cl
  nf := TS.f
  inj := fun _ _ => encS_inj
  same := fun _ _ _ _ h e => h.same e
  ob := fun d H p ⟨dx, q, m, t, h1, h2, h3⟩ => ⟨dx, _, t, h1, st_first _ _ _, st_no _ _ _ (by decide +kernel) (by decide +kernel) (by decide +kernel), st_no _ _ _ (by decide +kernel) (by decide +kernel) (by decide +kernel), h2⟩
  v0 := fun d H p ⟨dx, q, m, t, h1, h2, h3⟩ => ⟨h3.ok.s1, h3.ok.s2, h3.cd.root⟩
  vs := fun d H p ⟨dx, q, m, t, h1, h2, h3⟩ x b v => h3.step v b
def spBSe (C CR CMa CO CT : Addr) : L2.Sp := fun vs H Q E => ∃ (q m : Addr) (ws : List W) (n : Nat) (Ls : List (List Int)) (st : Int) (ms : List Int), vs = [.ref q, .ref m] ∧ CdAt C CR H q ws ∧ IsM CMa H m n Ls st ms ∧ OkMa n Ls st ms ∧ (n ≠ ws.length → ∀ H', Same H H' → E (.ref CO) none H') ∧
  (n = ws.length → (∀ N x H', (bfS ⟨ws, Ls, st, ms⟩ N).length = N → N ≤ 2000 → H x = none → Same H H' → IsM CMa H' x 2 (rwD ⟨ws, Ls, st, ms⟩ N) 0 (mkD ⟨ws, Ls, st, ms⟩ N) → Q (.ref x) H') ∧ ∀ T a H', 2000 < (bfS ⟨ws, Ls, st, ms⟩ T).length → Rsd H H' a [("most", .int 2000), ("many", .int 2001), ("what", .str "states")] → E (.ref CT) (some a) H')
section
variable {P : Program} {w : World} {K : PySem.W.Frag} {mg : Str → Option Value} {base : Heap}
theorem scBSe : FnScope NBSe ["code", "machine"] (defScope sBSe) := ⟨rfl, rfl, rfl, by decide +kernel, rfl, by decide +kernel, by decide +kernel⟩
theorem ok_BSe {f C CR CMa CS CO CT : Addr} {fd : FuncData} (F : Fun K "bit_search" "bit_search" sBSe f fd) (cC : Cal (L2.CX P w) P w K mg base 3 "check_code_machine" (spCCM C CR CMa CO)) (mS : Mak CX0 P w K mg base 1 "Standings" CS (spSI C CR CMa CS)) (cS : Cal (L2.CX P w) P w K mg base 8 "searcher_of" (spSe CMa CT (IsS C CR CMa CS) (fun d => (d.st, ([] : W))) stS mkS)) : FnOk P w K mg base (L2.CX P w) 9 f fd ["code", "machine"] (spBSe C CR CMa CO CT) := by
  refine F.okX scBSe (fun vs H Q E h => ?_) (fun cdv A outer s H vs Q E hr h => ?_)
  · obtain ⟨q, m, ws, n, Ls, st, ms, rfl, _⟩ := h
    rfl
  · obtain ⟨q, m, ws, n, Ls, st, ms, rfl, cd, M, ok, k1, k2⟩ := h
    refine ⟨_, pss_cons (ps_expr (pe_c cC hr (passes_call (takes_of rfl rfl rfl rfl) fun _ _ _ _ h => h) (pa_cons (pv 0) (pa_cons (pv 1) pa_nil))))
      (pss_one (ps_ret (pe_c cS hr (passes_call (takes_of rfl rfl rfl rfl) fun _ _ _ _ h => h) (pa_cons (pe_mk mS hr pass0 (pa_cons (pv 0) (pa_cons (pv 1) pa_nil))) pa_nil)))), ?_⟩
    refine ⟨_, rfl, _, rfl, q, m, ws, n, Ls, st, ms, rfl, cd, M, fun e => ?_, k1⟩
    subst e
    obtain ⟨g1, g2⟩ := k2 rfl
    refine ⟨_, rfl, _, rfl, fun p dx np nd ne => ?_⟩
    have e1 : Same H (upd (upd H dx (.own p)) p (.ins CS dx [])) := fun b o z => (upd_ne (ne_of_none z np)).trans ((upd_ne (ne_of_none z nd)).trans z)
    refine ⟨p, dx, q, m, ⟨ws, Ls, st, ms⟩, H, rfl, upd_same, np, e1, ⟨cd, M, ok⟩, fun H' e is => ?_⟩
    exact ⟨rfl, p, ⟨ws, Ls, st, ms⟩, rfl, is, fun N x H2 h1 h2 nx e2 M2 => g1 N x H2 h1 h2 (e.free nx) (e.trans e2) M2, fun T a H2 h1 r => g2 T a H2 h1 (r.back e)⟩
end
end K61
set_option Elab.async false
set_option linter.all false
set_option maxRecDepth 100001
set_option maxHeartbeats 3999999
namespace K61
open PySem L2
theorem perm_erase {α : Type} : ∀ (l : List α) (i : Nat) (h : i < l.length), (l[i] :: l.eraseIdx i).Perm l
  | a :: l, 0, _ => List.Perm.refl _
  | a :: l, i + 1, h => by
    have ih := perm_erase l i (by simpa using h)
    exact (List.Perm.swap a _ _).trans (ih.cons a)
theorem map_erase {α β : Type} (f : α → β) : ∀ (l : List α) (i : Nat), (l.map f).eraseIdx i = (l.eraseIdx i).map f
  | [], _ => rfl
  | _ :: _, 0 => rfl
  | a :: l, i + 1 => by
    show f a :: (l.map f).eraseIdx i = _
    rw [map_erase f l i]
    rfl
theorem seqIx {k n : Nat} (h : k < n) : seqIndex? ((k : Nat) : Int) n = some k := by
  unfold seqIndex?
  simp
  omega
/-! ### the law's words -/
abbrev sWOf : Stmt := topS 62
abbrev NWOf : List Str := ["_law_pen", "_law_many", "_law_words", "_law_found", "_law_k", "_law_word"]
def spWOf : L2.Sp := fun vs H Q _ => ∃ (pn cl : Addr) (m b : Nat), vs = [.ref pn, .int (m : Nat)] ∧ Pen H pn cl b ∧ 2 ≤ m ∧ m ≤ 10 ∧ b ≤ 900000 ∧
  ∀ (ws : List W) D H', FW ws → ws.length = m → But pn H H' → Pen H' pn cl (b + 20) → H D = none → H' D = some (.lst (ws.map wV)) → Q (.ref D) H'
/-- what is new there is new ahead -/
theorem But.none {pn cl : Addr} {b : Nat} {H H' : Hp} {a : Addr} (bt : But pn H H') (pen : Pen H' pn cl b) (n : H' a = none) : H a = none := by
  cases z : H a with
  | none => rfl
  | some o =>
    have n1 : a ≠ pn := fun e => by
      obtain ⟨_, _, _, g1, _⟩ := pen
      rw [e, g1] at n
      cases n
    rw [bt a o n1 z] at n
    cases n
section
variable {P : Program} {w : World} {K : PySem.W.Frag} {mg : Str → Option Value} {base : Heap}
theorem scWOf : FnScope NWOf ["_law_pen", "_law_many"] (defScope sWOf) := ⟨rfl, rfl, rfl, by decide +kernel, rfl, by decide +kernel, by decide +kernel⟩
theorem ok_WOf {f : Addr} {fd : FuncData} (F : Fun K "_law_words_of" "_law_words_of" sWOf f fd) (B : Bi mg) (cD : Cal CX0 P w K mg base 1 "_law_draw" spDraw) : FnOk P w K mg base CX0 2 f fd ["_law_pen", "_law_many"] spWOf := by
  refine F.ok scWOf (fun vs H Q E h => ?_) (fun cdv A outer s H vs Q E hr h => ?_)
  · obtain ⟨pn, cl, m, b, rfl, _⟩ := h
    rfl
  · obtain ⟨pn, cl, m, b, rfl, pen, m2, m10, hb, q⟩ := h
    refine ⟨_, pss_cons (ps_par (i := 2) (j := 3) rfl scWOf.nd rfl rfl (by decide) rfl rfl (pa_cons (pe_lst (pa_cons pe_str (pa_cons pe_str pa_nil))) (pa_cons (pe_lst pa_nil) pa_nil)) rfl)
      (pss_cons (ps_for PassesOwn.never rfl (pi_range1 rfl B.range (pa_cons (pe_op op_sub (pv 1) pe_int) pa_nil)) (pg_name (i := 4) scWOf.nd rfl (Or.inl rfl))
        (pss_cons (ps_set (i := 5) scWOf.nd rfl (Or.inl rfl) (pe_bm PySem.F.plainAttrs_list PySem.F.slot_list_pop PySem.F.type_list_pop mt_popAt (pv 2) (pa_cons (pe_c cD hr pass0 (pa_cons (pv 0) (pa_cons (pe_len B.len (pa_cons (pv 2) pa_nil)) pa_nil))) pa_nil)))
        (pss_one (ps_set (i := 2) scWOf.nd rfl (Or.inl rfl) (pe_op op_cat (pv 2) (pe_lst (pa_cons (pe_op op_add_str (pv 5) pe_str) (pa_cons (pe_op op_add_str (pv 5) pe_str) pa_nil))))))))
      (pss_cons (ps_for PassesOwn.never rfl (pi_range1 rfl B.range (pa_cons (pv 1) pa_nil)) (pg_name (i := 4) scWOf.nd rfl (Or.inl rfl))
        (pss_one (ps_expr (pe_bm PySem.F.plainAttrs_list PySem.F.slot_list_append PySem.F.type_list_append mt_append (pv 3) (pa_cons (pe_bm PySem.F.plainAttrs_list PySem.F.slot_list_pop PySem.F.type_list_pop mt_popAt (pv 2) (pa_cons (pe_c cD hr pass0 (pa_cons (pv 0) (pa_cons (pe_len B.len (pa_cons (pv 2) pa_nil)) pa_nil))) pa_nil)) pa_nil)))))
      (pss_one (ps_ret (pv 3))))), ?_⟩
    refine ⟨by show 2 ≤ sizeLine; decide, fun l0 n0 => ⟨by show 0 ≤ sizeLine; decide, fun F0 nF => ?_⟩⟩
    have e1 := same_new (o := .lst [.str "0", .str "1"]) n0
    have h1 : upd H l0 (.lst [.str "0", .str "1"]) l0 = some (.lst ([[false], [true]].map wV)) := upd_same
    have nF0 : H F0 = none := e1.free nF
    have dlF : l0 ≠ F0 := ne_of_none h1 nF
    have e2 := e1.trans (same_new (o := .lst []) nF)
    have h1 := same_new (o := .lst []) nF _ _ h1
    have hF : upd (upd H l0 (.lst [.str "0", .str "1"])) F0 (.lst []) F0 = some (.lst []) := upd_same
    have pen1 := pen.same e2
    have b1 : But pn H (upd (upd H l0 (.lst [.str "0", .str "1"])) F0 (.lst [])) := fun c o _ z => e2 _ _ z
    generalize upd (upd H l0 (.lst [.str "0", .str "1"])) F0 (.lst []) = H1 at h1 hF pen1 b1 ⊢
    clear e1 e2 nF
    have pF : pn ≠ F0 ∧ cl ≠ F0 := by
      obtain ⟨_, _, _, g1, g2, _⟩ := id pen
      exact ⟨ne_of_none g1 nF0, ne_of_none g2 nF0⟩
    refine ⟨_, _, rfl, ?_⟩
    dsimp only
    have em : (((m : Nat) : Int) - 2).toNat = m - 2 := by omega
    refine ⟨_, rfl, _, _, rfl, rfl, _, rfl, by omega, by omega, for_range (lo := 0) (n := (((m : Nat) : Int) - 2).toNat) (fun i σ H' => ∃ (xs : List W) (l : Addr) (x4 x5 : Option V), σ = [some (.ref pn), some (.int (m : Nat)), some (.ref l), some (.ref F0), x4, x5] ∧ FW xs ∧ xs.length = i + 2 ∧ H' l = some (.lst (xs.map wV)) ∧ H l = none ∧ l ≠ F0 ∧ H' F0 = some (.lst []) ∧ But pn H H' ∧ Pen H' pn cl (b + i))
      ⟨[[false], [true]], l0, none, none, rfl, FW.start, rfl, h1, n0, dlF, hF, b1, pen1⟩ ?_ ?_⟩
    · rintro i σ H2 hi ⟨xs, l, x4, x5, rfl, fw, x2, hl, nl, dl, hF2, bt, pen2⟩
      have lx : (xs.map wV).length = xs.length := List.length_map _
      refine gN ?_
      dsimp only
      refine ⟨_, rfl, .inl ⟨rfl, _, SqL.of hl⟩, _, rfl, _, rfl, l, _, rfl, .inl (SqL.of hl), pn, cl, _, b + i, rfl, pen2, by omega, by rw [lx]; omega, by rw [lx]; omega, fun d H3 d0 d1 e3 pen3 => ?_⟩
      obtain ⟨d, rfl⟩ := Int.eq_ofNat_of_zero_le d0
      rw [lx] at d1
      have d2 : d < xs.length := by omega
      have nlp : l ≠ pn := (pen2.ne hl fun _ z => nomatch z)
      have hl3 := e3 _ _ nlp hl
      have hF3 := e3 _ _ (Ne.symm pF.1) hF2
      have eg : (xs.map wV)[d]? = some (wV xs[d]) := by rw [List.getElem?_map, List.getElem?_eq_getElem d2]; rfl
      refine ⟨l, _, _, d, _, rfl, rfl, hl3, by omega, by omega, by rw [lx]; exact seqIx d2, eg, ?_⟩
      rw [map_erase]
      have np3 : pn ≠ l ∧ cl ≠ l := ⟨Ne.symm nlp, fun z => by
        obtain ⟨_, _, _, _, g2, _⟩ := pen
        rw [z, nl] at g2
        cases g2⟩
      have pen4 := pen3.upd (o := .lst ((xs.eraseIdx d).map wV)) np3.1 np3.2
      have hl4 : upd H3 l (.lst ((xs.eraseIdx d).map wV)) l = some (.lst ((xs.eraseIdx d).map wV)) := upd_same
      have hF4 : upd H3 l (.lst ((xs.eraseIdx d).map wV)) F0 = some (.lst []) := (upd_ne (Ne.symm dl)).trans hF3
      have b4 : But pn H (upd H3 l (.lst ((xs.eraseIdx d).map wV))) := fun c o n z => (upd_ne (ne_of_none z nl)).trans (e3 _ _ n (bt c o n z))
      have pm := perm_erase xs d d2
      have fw2 := (fw.perm pm.symm).cut (by rw [List.length_eraseIdx_of_lt d2]; omega)
      have l6 := List.length_eraseIdx_of_lt d2
      generalize upd H3 l (.lst ((xs.eraseIdx d).map wV)) = H4 at pen4 hl4 hF4 b4 ⊢
      have lw : (xs[d]).length ≤ 100 := by
        have := fw.hi _ (List.getElem_mem d2)
        omega
      generalize xs[d] = wd at fw2 lw ⊢
      generalize xs.eraseIdx d = rest at hl4 fw2 l6 ⊢
      have ap : ∀ b : Bool, V.str (bS wd ++ (⟨#[cd b]⟩ : Str)) = wV (wd ++ [b]) := fun b => congrArg V.str (bS_snoc wd b).symm
      have ln : ∀ z : Str, z.length = 1 → (bS wd).length + z.length ≤ sizeLine := fun z hz => by
        rw [bS_len, hz]
        exact Nat.le_of_lt (small10 (by omega))
      refine gN ?_
      dsimp only
      refine ⟨_, rfl, _, rfl, bS wd, "0", rfl, rfl, ln _ rfl, _, rfl, bS wd, "1", rfl, rfl, ln _ rfl, by show 2 ≤ sizeLine; decide, fun l2 n2 => ?_⟩
      have e5 := same_new (o := .lst [V.str (bS wd ++ ("0" : Str)), V.str (bS wd ++ ("1" : Str))]) n2
      have hw5 : upd H4 l2 (.lst [V.str (bS wd ++ ("0" : Str)), V.str (bS wd ++ ("1" : Str))]) l2 = some (.lst ([wd ++ [false], wd ++ [true]].map wV)) := by
        rw [upd_same]
        exact congrArg (fun z => some (HO.lst z)) (by rw [List.map_cons, List.map_cons, ← ap false, ← ap true]; rfl)
      have hl5 := e5 _ _ hl4
      have hF5 := e5 _ _ hF4
      have pen5 := pen4.same e5
      have b5 : But pn H (upd H4 l2 (.lst [V.str (bS wd ++ ("0" : Str)), V.str (bS wd ++ ("1" : Str))])) := fun c o n z => e5 _ _ (b4 c o n z)
      generalize upd H4 l2 (.lst [V.str (bS wd ++ ("0" : Str)), V.str (bS wd ++ ("1" : Str))]) = H5 at hw5 hl5 hF5 pen5 b5 ⊢
      refine ⟨l, l2, _, _, rfl, rfl, hl5, hw5, ?_, fun l3 n3 => ?_⟩
      · rw [List.length_map]
        exact Nat.le_of_lt (small10 (by show rest.length + 2 ≤ 10000; omega))
      have e6 := same_new (o := .lst (rest.map wV ++ [wd ++ [false], wd ++ [true]].map wV)) n3
      refine ⟨rest ++ [wd ++ [false], wd ++ [true]], l3, _, _, rfl, fw2, ?_, ?_, b5.none pen5 n3, Ne.symm (ne_of_none hF5 n3), e6 _ _ hF5, fun c o n z => e6 _ _ (b5 c o n z), (pen5.same e6).mono (by omega)⟩
      · rw [List.length_append]
        show rest.length + 2 = _
        omega
      · rw [List.map_append]
        exact upd_same
    · rintro σ H2 ⟨xs, l, x4, x5, rfl, fw, x2, hl, nl, dl, hF2, bt, pen2⟩
      rw [em] at x2 pen2
      have nlp : l ≠ pn := (pen2.ne hl fun _ z => nomatch z)
      have np3 : pn ≠ l ∧ cl ≠ l := ⟨Ne.symm nlp, fun z => by
        obtain ⟨_, _, _, _, g2, _⟩ := pen
        rw [z, nl] at g2
        cases g2⟩
      dsimp only
      refine ⟨_, rfl, _, rfl, by omega, by omega, for_range (lo := 0) (n := ((m : Nat) : Int).toNat) (fun i σ H' => ∃ (ys zs : List W) (x4 : Option V), σ = [some (.ref pn), some (.int (m : Nat)), some (.ref l), some (.ref F0), x4, x5] ∧ (ys ++ zs).Perm xs ∧ zs.length = i ∧ H' l = some (.lst (ys.map wV)) ∧ H' F0 = some (.lst (zs.map wV)) ∧ But pn H H' ∧ Pen H' pn cl (b + (m - 2) + i))
        ⟨xs, [], x4, rfl, by rw [List.append_nil], rfl, hl, hF2, bt, pen2⟩ ?_ ?_⟩
      · rintro i σ H3 hi ⟨ys, zs, y4, rfl, pm, lz, hl3, hF3, bt3, pen3⟩
        rw [Int.toNat_natCast] at hi
        have ly : ys.length + i = m := by
          have := pm.length_eq
          rw [List.length_append] at this
          omega
        have lx : (ys.map wV).length = ys.length := List.length_map _
        refine gN ?_
        dsimp only
        refine ⟨_, rfl, .inl ⟨rfl, _, SqL.of hF3⟩, _, rfl, .inl ⟨rfl, _, SqL.of hl3⟩, _, rfl, _, rfl, l, _, rfl, .inl (SqL.of hl3), pn, cl, _, b + (m - 2) + i, rfl, pen3, by omega, by rw [lx]; omega, by rw [lx]; omega, fun d H4 d0 d1 e4 pen4 => ?_⟩
        obtain ⟨d, rfl⟩ := Int.eq_ofNat_of_zero_le d0
        rw [lx] at d1
        have d2 : d < ys.length := by omega
        have hl4 := e4 _ _ nlp hl3
        have hF4 := e4 _ _ (Ne.symm pF.1) hF3
        have eg : (ys.map wV)[d]? = some (wV ys[d]) := by rw [List.getElem?_map, List.getElem?_eq_getElem d2]; rfl
        refine ⟨l, _, _, d, _, rfl, rfl, hl4, by omega, by omega, by rw [lx]; exact seqIx d2, eg, ?_⟩
        rw [map_erase]
        have pen5 := pen4.upd (o := .lst ((ys.eraseIdx d).map wV)) np3.1 np3.2
        have hl5 : upd H4 l (.lst ((ys.eraseIdx d).map wV)) l = some (.lst ((ys.eraseIdx d).map wV)) := upd_same
        have hF5 : upd H4 l (.lst ((ys.eraseIdx d).map wV)) F0 = some (.lst (zs.map wV)) := (upd_ne (Ne.symm dl)).trans hF4
        have b5 : But pn H (upd H4 l (.lst ((ys.eraseIdx d).map wV))) := fun c o n z => (upd_ne (ne_of_none z nl)).trans (e4 _ _ n (bt3 c o n z))
        generalize upd H4 l (.lst ((ys.eraseIdx d).map wV)) = H5 at pen5 hl5 hF5 b5 ⊢
        refine ⟨F0, _, _, rfl, rfl, hF5, by rw [List.length_map]; exact small10 (by omega), ?_⟩
        refine ⟨ys.eraseIdx d, zs ++ [ys[d]], _, rfl, ?_, by rw [List.length_append, lz]; rfl, (upd_ne dl).trans hl5, by rw [upd_same, List.map_append]; rfl, fun c o n z => (upd_ne (ne_of_none z nF0)).trans (b5 c o n z), (pen5.upd pF.1 pF.2).mono (by omega)⟩
        have p1 := perm_erase ys d d2
        have p2 : (ys.eraseIdx d ++ (zs ++ [ys[d]])).Perm ((ys[d] :: ys.eraseIdx d) ++ zs) := by
          rw [← List.append_assoc]
          exact List.perm_append_singleton _ _
        exact (p2.trans (p1.append_right zs)).trans pm
      · rintro σ H3 ⟨ys, zs, y4, rfl, pm, lz, hl3, hF3, bt3, pen3⟩
        rw [Int.toNat_natCast] at lz pen3
        have e0 : ys = [] := by
          have := pm.length_eq
          rw [List.length_append] at this
          exact List.length_eq_zero_iff.mp (by omega)
        subst e0
        rw [List.nil_append] at pm
        dsimp only
        exact ⟨_, rfl, q zs F0 H3 (fw.perm pm.symm) (by omega) bt3 (pen3.mono (by omega)) nF0 hF3⟩
end
end K61
set_option Elab.async false
set_option linter.all false
set_option maxRecDepth 100001
set_option maxHeartbeats 3999999
namespace K61
open PySem L2
/-! ### words of a code -/
structure WdOk (ws : List W) (L : Nat) : Prop where
  pf : PF ws
  l2 : 2 ≤ ws.length
  l6 : ws.length ≤ 60
  lb : ∀ w ∈ ws, 1 ≤ w.length ∧ w.length ≤ L
  lm : ∃ w ∈ ws, w.length = L
  L6 : L ≤ 60
  ks : kl L (ws.map List.length) = 2 ^ L
theorem kl_scale {L M : Nat} (h : L ≤ M) : ∀ ls : List Nat, (∀ l ∈ ls, l ≤ L) → kl M ls = 2 ^ (M - L) * kl L ls
  | [], _ => by simp [kl]
  | x :: ls, hl => by
    have ih := kl_scale h ls fun l m => hl l (List.mem_cons_of_mem _ m)
    have lx := hl x List.mem_cons_self
    have e : 2 ^ (M - x) = 2 ^ (M - L) * 2 ^ (L - x) := by
      rw [← Nat.pow_add]
      congr 1
      omega
    unfold kl at ih ⊢
    rw [List.map_cons, List.map_cons, List.sum_cons, List.sum_cons, ih, e, Nat.mul_add]
theorem max_of : ∀ ws : List W, ws ≠ [] → ∃ w ∈ ws, ∀ v ∈ ws, v.length ≤ w.length
  | [], h => absurd rfl h
  | [x], _ => ⟨x, List.mem_cons_self, fun v hv => by rw [List.mem_singleton.mp hv]; exact Nat.le_refl _⟩
  | x :: y :: r, _ => by
    obtain ⟨w, hw, g⟩ := max_of (y :: r) (fun z => nomatch z)
    rcases Nat.le_total x.length w.length with c | c
    · exact ⟨w, List.mem_cons_of_mem _ hw, fun v hv => (List.mem_cons.mp hv).elim (fun e => e ▸ c) (g v)⟩
    · exact ⟨x, List.mem_cons_self, fun v hv => (List.mem_cons.mp hv).elim (fun e => e ▸ Nat.le_refl _) fun m => Nat.le_trans (g v m) c⟩
theorem FW.wd {ws : List W} (h : FW ws) (l2 : 2 ≤ ws.length) (l10 : ws.length ≤ 10) : ∃ L, L ≤ 10 ∧ WdOk ws L := by
  obtain ⟨w, hw, g⟩ := max_of ws (fun z => by rw [z] at l2; simp at l2)
  have w10 := h.hi w hw
  refine ⟨w.length, by omega, h.pf, l2, by omega, fun v hv => ⟨h.lo v hv, g v hv⟩, ⟨w, hw, rfl⟩, by omega, ?_⟩
  have e := kl_scale (L := w.length) (M := 10) (by omega) (ws.map List.length) (fun l hl => by
    obtain ⟨v, hv, rfl⟩ := List.mem_map.mp hl
    exact g v hv)
  have k : kl 10 (ws.map List.length) = 2 ^ 10 := by
    rw [← h.kr]
    unfold kl K61.kr
    rw [List.map_map]
    rfl
  rw [k] at e
  have e2 : 2 ^ 10 = 2 ^ (10 - w.length) * 2 ^ w.length := by
    rw [← Nat.pow_add]
    congr 1
    omega
  have := Nat.eq_of_mul_eq_mul_left (Nat.pow_pos (show 0 < 2 by decide)) (e.symm.trans e2)
  exact this
/-! ### the law's code -/
abbrev sLC : Stmt := topS 63
abbrev NLC : List Str := ["_law_words", "_law_word"]
def spLC (C CR : Addr) (Tb : List (Addr × Str)) : L2.Sp := fun vs H Q _ => ∃ (a : Addr) (ws : List W) (L : Nat), vs = [.ref a] ∧ H a = some (.lst (ws.map wV)) ∧ WdOk ws L ∧ LamX.Tabs Tb H ∧ ∀ x H', H x = none → LamX.ExtN H H' → LamX.Tabs Tb H' → CdAt C CR H' x ws → Q (.ref x) H'
section
variable {P : Program} {w : World} {K : PySem.W.Frag} {mg : Str → Option Value} {base : Heap}
theorem scLC : FnScope NLC ["_law_words"] (defScope sLC) := ⟨rfl, rfl, rfl, by decide +kernel, rfl, by decide +kernel, by decide +kernel⟩
theorem ok_LC {f C CR CT CL CN CB CE : Addr} {fd : FuncData} {Tb : List (Addr × Str)} (F : Fun K "_law_code" "_law_code" sLC f fd) (B : Bi mg) (mC : Mak (L2.CX P w) P w K mg base 8 "Code" C (spCoI C CR CT CL CN CB CE Tb)) : FnOk P w K mg base CX0 10 f fd ["_law_words"] (spLC C CR Tb) := by
  refine F.ok scLC (fun vs H Q E h => ?_) (fun cdv A outer s H vs Q E hr h => ?_)
  · obtain ⟨a, ws, L, rfl, _⟩ := h
    rfl
  · obtain ⟨a, ws, L, rfl, ha, wd, tabs, q⟩ := h
    refine ⟨_, pss_one (ps_ret (pe_mk mC hr passL (pa_cons (pe_lc (own := [("_law_word", 1)]) rfl scLC.nd (pi_sqA (pv 0)) (blkOk_by (N := NLC) (sc := defScope sLC) (by decide +kernel)) (fun _ _ _ _ _ => (pg_name (i := 1) scLC.nd rfl (Or.inl rfl))) (fun _ _ _ _ _ => pts_nil) (fun _ _ _ _ _ => (pe_lenS B.len (pa_cons (pv 1) pa_nil)))) (pa_cons (pv 0) pa_nil)))), ?_⟩
    have l6 := wd.l6
    have l2 := wd.l2
    have L6 := wd.L6
    refine ⟨_, rfl, a, _, rfl, .inl (SqL.of ha), fun J G wk hG D nD => lcM wk (fun k => .int (((ws.getD k []).length : Nat) : Int)) (by rw [List.length_map]; omega) nD (fun H' e => hG H' fun o z => e _ _ z) ?_ ?_⟩
    · rintro k x H2 H3 N hk e ⟨rfl, hx⟩ fin
      rw [List.length_map] at hk
      rw [List.getElem?_map, List.getElem?_eq_getElem hk] at hx
      cases hx
      have f := fin _ (Same.refl _)
      rw [List.getD_eq_getElem?_getD, List.getElem?_eq_getElem hk] at f
      have lw := (wd.lb _ (List.getElem_mem hk)).2
      refine ⟨rfl, _, rfl, bS ws[k], rfl, ?_, ?_⟩
      · rw [bS_len]
        exact Nat.le_of_lt (small10 (by omega))
      · rw [bS_len]
        exact f
    · intro H3 e3 hD
      have el : (List.range (ws.map wV).length).map (fun k => V.int (((ws.getD k []).length : Nat) : Int)) = (ws.map List.length).map fun n : Nat => V.int (n : Nat) := by
        refine List.ext_getElem (by simp) fun k h1 h2 => ?_
        rw [List.length_map, List.length_range, List.length_map] at h1
        rw [List.getElem_map, List.getElem_range, List.getElem_map, List.getElem_map, List.getD_eq_getElem?_getD, List.getElem?_eq_getElem h1]
        rfl
      rw [el] at hD
      refine ⟨_, rfl, fun p dx np ndx ne => ?_⟩
      have e4 : Same H3 (upd (upd H3 dx (.own p)) p (.ins C dx [])) := same_ins np ndx
      have hp4 : upd (upd H3 dx (.own p)) p (.ins C dx []) p = some (.ins C dx []) := upd_same
      generalize upd (upd H3 dx (.own p)) p (.ins C dx []) = H4 at e4 hp4 ⊢
      have e34 := e3.trans e4
      refine ⟨p, dx, D, .ref a, _, rfl, hp4, e4 _ _ hD, fun v hv => ?_, tabs.ext e34, by rw [List.length_map, List.length_map]; omega, .inr (.inr ⟨by rw [List.length_map, List.length_map]; omega, by rw [List.length_map, List.length_map]; omega, ws.map List.length, L, rfl, fun l hl => ?_, ?_, L6, .inr (.inr ⟨wd.ks, a, ws.map wV, rfl, .inl (e34 _ _ ha), by rw [List.length_map, List.length_map], by rw [List.length_map]; omega, fun v hv => ?_, .inr ⟨ws, rfl, rfl, .inr ⟨wd.pf, fun H8 lt wt tr bt tab8 hp8 hlt hwt it => ⟨rfl, ?_⟩⟩⟩⟩)⟩)⟩
      · obtain ⟨n, _, rfl⟩ := List.mem_map.mp hv
        exact .int _
      · obtain ⟨u, hu, rfl⟩ := List.mem_map.mp hl
        exact wd.lb u hu
      · obtain ⟨u, hu, e⟩ := wd.lm
        rw [← e]
        exact List.mem_map_of_mem hu
      · obtain ⟨u, hu, rfl⟩ := List.mem_map.mp hv
        refine ⟨.str _, fun x ex => ?_⟩
        cases ex
        have := (wd.lb u hu).2
        rw [bS_len]
        omega
      · rw [List.length_map] at hp8
        exact q p H8 (Same.none' e3 np) (fun c o z n => bt c o (ne_of_none (e3 _ _ z) np) (e34 _ _ z) n) tab8 ⟨⟨dx, lt, wt, tr, L, hp8, hwt, it⟩, wd.pf, l2, by omega, fun u hu => by have := (wd.lb u hu).2; omega⟩
end
end K61
set_option Elab.async false
set_option linter.all false
set_option maxRecDepth 100001
set_option maxHeartbeats 3999999
namespace K61
open PySem L2
theorem refs_of {R : Nat → Addr → Prop} : ∀ {acc : List V} (k : Nat), (∀ i v, acc[i]? = some v → ∃ t, v = .ref t ∧ R (k + i) t) → ∃ ps : List Addr, acc = ps.map V.ref ∧ ∀ i t, ps[i]? = some t → R (k + i) t
  | [], _, _ => ⟨[], rfl, fun i t z => by simp at z⟩
  | v :: acc, k, h => by
    obtain ⟨t, rfl, r⟩ := h 0 v rfl
    obtain ⟨ps, e, g⟩ := refs_of (R := R) (acc := acc) (k + 1) fun i v hv => by
      have := h (i + 1) v hv
      rw [show k + 1 + i = k + (i + 1) by omega]
      exact this
    refine ⟨t :: ps, by rw [e]; rfl, fun i u hu => ?_⟩
    cases i with
    | zero =>
      cases hu
      exact r
    | succ i =>
      have := g i u hu
      rw [show k + 1 + i = k + (i + 1) by omega] at this
      exact this
theorem paired_of {α β : Type} {F : α → β → Prop} : ∀ {xs : List α} {ys : List β}, xs.length = ys.length → (∀ (i : Nat) x y, xs[i]? = some x → ys[i]? = some y → F x y) → Paired F xs ys
  | [], [], _, _ => .nil
  | x :: xs, y :: ys, e, h => .cons (h 0 x y rfl rfl) (paired_of (by simpa using e) fun i a b ha hb => h (i + 1) a b ha hb)
theorem mergeK_new : ∀ (kvs acc : List (Key × V)), (kvs.map (·.1)).Nodup → (∀ kv ∈ kvs, ∀ x ∈ acc, x.1 ≠ kv.1) → mergeK acc kvs = acc ++ kvs
  | [], acc, _, _ => (List.append_nil _).symm
  | kv :: kvs, acc, nd, no => by
    have e : putK acc kv.1 kv.2 = acc ++ [kv] := by
      unfold putK
      rw [if_neg]
      intro h
      rw [List.any_eq_true] at h
      obtain ⟨x, hx, e⟩ := h
      exact no kv List.mem_cons_self x hx (of_decide_eq_true e)
    rw [List.map_cons, List.nodup_cons] at nd
    show mergeK (putK acc kv.1 kv.2) kvs = _
    rw [e, mergeK_new kvs (acc ++ [kv]) nd.2 fun k hk x hx => ?_, List.append_assoc]
    · rfl
    · rcases List.mem_append.mp hx with hx | hx
      · exact no k (List.mem_cons_of_mem _ hk) x hx
      · rw [List.mem_singleton.mp hx]
        intro z
        exact nd.1 (z ▸ List.mem_map_of_mem hk)
/-! ### signs by their words -/
abbrev sBW : Stmt := topS 64
abbrev NBW : List Str := ["_law_words", "_law_sign"]
def kW (u : W) : Key := .inr (bS u)
def byW (ws : List W) : List (Key × V) := numsK kW ws
theorem kW_inj (s t : W) (h : kW s = kW t) : s = t := bS_inj (Sum.inr.inj h)
theorem pf_nodup {ws : List W} (pf : PF ws) : ws.Nodup := List.Pairwise.imp (fun {a b} (h : ¬ a <+: b ∧ ¬ b <+: a) (e : a = b) => h.1 (by rw [e]; exact List.prefix_rfl)) pf
theorem numsK_keys {S : Type} [DecidableEq S] {κ : Type} [DecidableEq κ] {enc : S → κ} (o : List S) : (numsK enc o).map (·.1) = o.map enc := by
  unfold numsK
  rw [List.map_map]
  refine List.ext_getElem (by simp) fun i h1 h2 => ?_
  simp
theorem numsK_at {S : Type} [DecidableEq S] {κ : Type} [DecidableEq κ] {enc : S → κ} {o : List S} {i : Nat} {s : S} (h : o[i]? = some s) : (numsK enc o)[i]? = some (enc s, .int (i : Nat)) := by
  unfold numsK
  rw [List.getElem?_map, List.getElem?_zipIdx, h]
  simp
theorem byW_nodup {ws : List W} (pf : PF ws) : ((byW ws).map (·.1)).Nodup := by
  unfold byW
  rw [numsK_keys]
  have nd := pf_nodup pf
  unfold List.Nodup at nd ⊢
  rw [List.pairwise_map]
  exact nd.imp fun {a b} h e => h (kW_inj _ _ e)
def spBW : L2.Sp := fun vs H Q _ => ∃ (a : Addr) (ws : List W), vs = [.ref a] ∧ H a = some (.lst (ws.map wV)) ∧ PF ws ∧ ws.length ≤ 60 ∧ ∀ D H', H D = none → Same H H' → H' D = some (.dK (byW ws)) → Q (.ref D) H'
section
variable {P : Program} {w : World} {K : PySem.W.Frag} {mg : Str → Option Value} {base : Heap}
theorem scBW : FnScope NBW ["_law_words"] (defScope sBW) := ⟨rfl, rfl, rfl, by decide +kernel, rfl, by decide +kernel, by decide +kernel⟩
theorem ok_BW {f : Addr} {fd : FuncData} (F : Fun K "_law_by_word" "_law_by_word" sBW f fd) (B : Bi mg) : FnOk P w K mg base CX0 1 f fd ["_law_words"] spBW := by
  refine F.ok scBW (fun vs H Q E h => ?_) (fun cdv A outer s H vs Q E hr h => ?_)
  · obtain ⟨a, ws, rfl, _⟩ := h
    rfl
  · obtain ⟨a, ws, rfl, ha, pf, l6, q⟩ := h
    refine ⟨_, pss_one (ps_ret (pe_callTy (call_dictP rfl) rfl B.dict (by decide +kernel) (pa_cons (pe_lc (own := [("_law_sign", 1)]) rfl scBW.nd (pi_range1 rfl B.range (pa_cons (pe_len B.len (pa_cons (pv 0) pa_nil)) pa_nil)) (blkOk_by (N := NBW) (sc := defScope sBW) (by decide +kernel)) (fun _ _ _ _ _ => (pg_name (i := 1) scBW.nd rfl (Or.inl rfl))) (fun _ _ _ _ _ => pts_nil) (fun _ _ _ _ _ => (pe_tup (pa_cons (pe_ix (ix_listK K rfl) (pv 0) (pv 1) (fun _ _ => rfl)) (pa_cons (pv 1) pa_nil))))) pa_nil))), ?_⟩
    have lw : (ws.map wV).length = ws.length := List.length_map _
    refine ⟨_, rfl, a, _, rfl, .inl (SqL.of ha), _, rfl, by rw [lw]; omega, by rw [lw]; omega, fun D nD => lcO (walk_range (lo := 0)) (fun i v H' => ∃ t, v = .ref t ∧ H' t = some (.tup [wV (ws.getD i []), .int (i : Nat)])) (fun i v H H' xs hD k ⟨t, e, h⟩ => ⟨t, e, k t _ (ne_of h hD fun z => nomatch z) h⟩) (by rw [lw]; omega) nD (fun _ _ => True.intro) ?_ ?_⟩
    · rintro i x H2 H3 N hi e2 _ ⟨rfl, rfl⟩ fin
      rw [lw] at hi
      have hi : i < ws.length := by omega
      refine ⟨rfl, _, rfl, _, rfl, a, _, _, wV (ws.getD i []), rfl, rfl, SqL.of (e2 _ _ ha), ?_, _, rfl, by show 2 ≤ sizeLine; decide, fun t nt => ?_⟩
      · rw [show (0 : Int) + ((i : Nat) : Int) = ((i : Nat) : Int) by omega]
        refine atI_nat ?_
        rw [List.getElem?_map, List.getElem?_eq_getElem hi, List.getD_eq_getElem?_getD, List.getElem?_eq_getElem hi]
        rfl
      · refine fin _ _ (same_new nt) ⟨t, rfl, ?_⟩
        rw [upd_same]
        refine congrArg (fun z : Int => some (HO.tup [wV (ws.getD i []), V.int z])) ?_
        omega
    · intro acc H3 e3 lacc racc hD
      rw [lw] at lacc
      have lacc : acc.length = ws.length := by omega
      obtain ⟨ps, rfl, g⟩ := refs_of (R := fun i t => H3 t = some (.tup [wV (ws.getD i []), .int (i : Nat)])) 0 (acc := acc) fun i v hv => by
        rw [Nat.zero_add]
        exact racc i v hv
      rw [List.length_map] at lacc
      refine ⟨D, ps, byW ws, rfl, SqL.of hD, paired_of (by unfold byW; rw [numsK_len, lacc]) fun i p kv hp hk => ?_, fun d nd => ?_⟩
      · have li : i < ws.length := by
          have := (List.getElem?_eq_some_iff.mp hp).1
          omega
        have h1 := g i p hp
        rw [Nat.zero_add] at h1
        unfold byW at hk
        rw [numsK_at (List.getElem?_eq_getElem li)] at hk
        cases hk
        rw [List.getD_eq_getElem?_getD, List.getElem?_eq_getElem li] at h1
        exact SqT.of h1
      · rw [mergeK_new (byW ws) [] (byW_nodup pf) (fun _ _ _ z => nomatch z), List.nil_append]
        exact q d _ (e3.free nd) (e3.trans (same_new nd)) upd_same
end
/-! ### reading a bit -/
abbrev sLR : Stmt := topS 65
abbrev NLR : List Str := ["_law_by_word_here", "_law_node", "_law_bit", "_law_word"]
def spLR : L2.Sp := fun vs H Q _ => ∃ (D : Addr) (ws : List W) (x : W) (b : Bool), vs = [.ref D, wV x, .str ⟨#[cd b]⟩] ∧ H D = some (.dK (byW ws)) ∧ PF ws ∧ x.length ≤ 5000 ∧ ∀ t H', Same H H' → H' t = some (.tup [wV (ndB ws x b), sgV (sgB ws x b)]) → Q (.ref t) H'
section
variable {P : Program} {w : World} {K : PySem.W.Frag} {mg : Str → Option Value} {base : Heap}
theorem scLR : FnScope NLR ["_law_by_word_here", "_law_node", "_law_bit"] (defScope sLR) := ⟨rfl, rfl, rfl, by decide +kernel, rfl, by decide +kernel, by decide +kernel⟩
theorem ok_LR {f : Addr} {fd : FuncData} (F : Fun K "_law_read" "_law_read" sLR f fd) : FnOk P w K mg base CX0 1 f fd ["_law_by_word_here", "_law_node", "_law_bit"] spLR := by
  refine F.ok scLR (fun vs H Q E h => ?_) (fun cdv A outer s H vs Q E hr h => ?_)
  · obtain ⟨D, ws, x, b, rfl, _⟩ := h
    rfl
  · obtain ⟨D, ws, x, b, rfl, hD, pf, lx, q⟩ := h
    refine ⟨_, pss_cons (ps_set (i := 3) scLR.nd rfl (Or.inl rfl) (pe_op op_add_str (pv 1) (pv 2)))
      (pss_one (ps_ret (pe_ifExp (pt_cmp (pc_din (hu_of hr) (pv 3) (pv 0))) (pe_tup (pa_cons pe_str (pa_cons (pe_dget (hu_of hr) (pv 0) (pv 3) (fun _ _ => rfl)) pa_nil))) (pe_tup (pa_cons (pv 3) (pa_cons pe_non pa_nil)))))), ?_⟩
    refine ⟨_, rfl, _, rfl, bS x, ⟨#[cd b]⟩, rfl, rfl, ?_, ?_⟩
    · rw [bS_len]
      show x.length + 1 ≤ sizeLine
      exact Nat.le_of_lt (small10 (by omega))
    refine gN ?_
    dsimp only
    have ew : V.str (bS x ++ (⟨#[cd b]⟩ : Str)) = kV (kW (x ++ [b])) := congrArg V.str (bS_snoc x b).symm
    rw [ew]
    have hg := numsK_get kW_inj ws (pf_nodup pf) (x ++ [b])
    refine ⟨_, rfl, _, rfl, D, _, rfl, DGet.k (k := kW (x ++ [b])) hD, ?_⟩
    by_cases m : x ++ [b] ∈ ws
    · have hg : valV (byW ws) (kW (x ++ [b])) = some (.int (idxD ws (x ++ [b]) : Nat)) := by
        unfold byW
        rw [hg, if_pos m]
        rfl
      rw [hg]
      refine ⟨_, rfl, iteT ?_⟩
      refine ⟨_, rfl, _, rfl, D, _, rfl, hg ▸ DGet.k (k := kW (x ++ [b])) hD, by show 2 ≤ sizeLine; decide, fun t nt => q t _ (same_new nt) ?_⟩
      unfold ndB sgB
      rw [if_pos m, if_pos m, upd_same]
      rfl
    · have hg : valV (byW ws) (kW (x ++ [b])) = none := by
        unfold byW
        rw [hg, if_neg m]
      rw [hg]
      refine ⟨_, rfl, iteF ?_⟩
      refine ⟨_, rfl, by show 2 ≤ sizeLine; decide, fun t nt => q t _ (same_new nt) ?_⟩
      unfold ndB sgB
      rw [if_neg m, if_neg m, upd_same]
      rfl
end
end K61
set_option Elab.async false
set_option linter.all false
set_option maxRecDepth 100001
set_option maxHeartbeats 3999999
namespace K61
open PySem L2
/-! ### the law's table -/
abbrev sLT : Stmt := topS 66
abbrev NLT : List Str := ["_law_pen", "_law_signs", "_law_states", "_law_found", "_law_state", "_law_sign"]
def spLT : L2.Sp := fun vs H Q _ => ∃ (pn cl : Addr) (sg k b : Nat), vs = [.ref pn, .int (sg : Nat), .int (k : Nat)] ∧ Pen H pn cl b ∧ b ≤ 900000 ∧ 1 ≤ k ∧ k ≤ 10 ∧ sg ≤ 10 ∧
  ∀ L ts T H', H L = none → But pn H H' → Pen H' pn cl (b + 100) → H' L = some (.lst ts) → TabAt H' ts T → T.length = k → OkT sg T k → Q (.ref L) H'
section
variable {P : Program} {w : World} {K : PySem.W.Frag} {mg : Str → Option Value} {base : Heap}
theorem scLT : FnScope NLT ["_law_pen", "_law_signs", "_law_states"] (defScope sLT) := ⟨rfl, rfl, rfl, by decide +kernel, rfl, by decide +kernel, by decide +kernel⟩
theorem ok_LT {f : Addr} {fd : FuncData} (F : Fun K "_law_table" "_law_table" sLT f fd) (B : Bi mg) (cD : Cal CX0 P w K mg base 1 "_law_draw" spDraw) : FnOk P w K mg base CX0 2 f fd ["_law_pen", "_law_signs", "_law_states"] spLT := by
  refine F.ok scLT (fun vs H Q E h => ?_) (fun cdv A outer s H vs Q E hr h => ?_)
  · obtain ⟨pn, cl, sg, k, b, rfl, _⟩ := h
    rfl
  · obtain ⟨pn, cl, sg, k, b, rfl, pen, hb, k1, k10, g10, q⟩ := h
    refine ⟨_, pss_cons (ps_set (i := 3) scLT.nd rfl (Or.inl rfl) (pe_lst pa_nil))
      (pss_cons (ps_for PassesOwn.never rfl (pi_range1 rfl B.range (pa_cons (pv 2) pa_nil)) (pg_name (i := 4) scLT.nd rfl (Or.inl rfl))
        (pss_one (ps_expr (pe_bm PySem.F.plainAttrs_list PySem.F.slot_list_append PySem.F.type_list_append mt_append (pv 3) (pa_cons (pe_lc (own := [("_law_sign", 5)]) rfl scLT.nd (pi_range1 rfl B.range (pa_cons (pv 1) pa_nil)) (blkOk_by (N := NLT) (sc := defScope sLT) (by decide +kernel)) (fun _ _ _ _ _ => (pg_name (i := 5) scLT.nd rfl (Or.inl rfl))) (fun _ _ _ _ _ => pts_nil) (fun _ _ _ _ _ => (pe_c cD hr pass0 (pa_cons (pv 0) (pa_cons (pv 2) pa_nil))))) pa_nil)))))
      (pss_one (ps_ret (pv 3)))), ?_⟩
    refine ⟨by show 0 ≤ sizeLine; decide, fun L nL => ?_⟩
    have e1 := same_new (o := .lst []) nL
    have pL : pn ≠ L ∧ cl ≠ L := pen.off nL
    refine gN ?_
    dsimp only
    refine ⟨_, rfl, _, rfl, by omega, by omega, for_range (lo := 0) (n := ((k : Nat) : Int).toNat) (fun i σ H' => ∃ (x4 : Option V) (ts : List V) (T : List (List Int)), σ = [some (.ref pn), some (.int (sg : Nat)), some (.int (k : Nat)), some (.ref L), x4, none] ∧ But pn H H' ∧ Pen H' pn cl (b + i * sg) ∧ H' L = some (.lst ts) ∧ TabN L H' ts T ∧ T.length = i ∧ OkT sg T k)
      ⟨none, [], [], rfl, same_but e1, by rw [Nat.zero_mul]; exact pen.same e1, upd_same, .nil, rfl, (fun _ z => nomatch z)⟩ ?_ ?_⟩
    · rintro i σ H2 hi ⟨x4, ts, T, rfl, b2, pen2, hL, tab, lT, okT⟩
      have hi2 : i < k := by omega
      have ltab := Paired.length tab
      have im : i * sg ≤ 100 := Nat.le_trans (Nat.mul_le_mul (show i ≤ 10 by omega) g10) (by decide)
      refine gN ?_
      dsimp only
      refine ⟨_, rfl, .inl ⟨rfl, ts, SqL.of hL⟩, _, rfl, _, rfl, by omega, by omega, fun D nD => lcP1 (s := 1) (walk_range (lo := 0)) (fun j acc => ∃ xs : List Int, acc = xs.map V.int ∧ xs.length = j ∧ ∀ x ∈ xs, 0 ≤ x ∧ x ≤ (k : Int) - 1) ⟨[], rfl, rfl, fun _ z => nomatch z⟩ (fun j acc ⟨xs, e, l, _⟩ => by rw [e, List.length_map, l]; exact Nat.le_refl _) (by omega) nD pen2 (fun _ _ => True.intro) ?_ ?_⟩
      · rintro j x acc H3 H4 Q' N hj ⟨xs, rfl, lx, ox⟩ b3 p3 ⟨rfl, rfl⟩ fin _
        refine ⟨rfl, ?_⟩
        unfold tYes
        refine iteT ⟨_, rfl, _, rfl, pn, cl, _, _, rfl, p3, by omega, by omega, by omega, fun r H5 r0 r1 b5 p5 => fin _ _ ⟨xs ++ [r], by rw [List.map_append]; rfl, by rw [List.length_append, lx]; rfl, fun y hy => ?_⟩ b5 p5⟩
        rcases List.mem_append.mp hy with h | h
        · exact ox y h
        · rw [List.mem_singleton.mp h]
          omega
      · rintro acc H3 ⟨xs, rfl, lx, ox⟩ b3 p3 hD
        have nLp : L ≠ pn := Ne.symm pL.1
        have hL3 := b3 _ _ nLp hL
        have lx : xs.length = sg := by omega
        have dL : D ≠ L := Ne.symm (ne_of_none hL nD)
        have tab3 : TabN L H3 ts T := tab.but b3 pen2.nl
        refine ⟨L, ts, _, rfl, rfl, hL3, small10 (by omega), ?_⟩
        have off : ∀ c o, c ≠ L → H3 c = some o → upd H3 L (.lst (ts ++ [.ref D])) c = some o := fun c o n z => (upd_ne n).trans z
        refine ⟨_, ts ++ [.ref D], T ++ [xs], rfl, fun c o n z => off c o (ne_of_none z nL) (b3 _ _ n (b2 _ _ n z)), (p3.upd pL.1 pL.2).mono ?_, upd_same, ?_, by rw [List.length_append, lT]; rfl, fun R hR => ?_⟩
        · rw [Nat.add_mul, Int.toNat_natCast]
          omega
        · exact Paired.snoc (Paired.mapP tab3 fun _ _ ⟨a, h1, h2, h3⟩ => ⟨a, h1, h2, off _ _ h2 h3⟩) ⟨D, rfl, dL, off _ _ dL hD⟩
        · rcases List.mem_append.mp hR with h | h
          · exact okT R h
          · rw [List.mem_singleton.mp h]
            exact ⟨lx, ox⟩
    · rintro σ H2 ⟨x4, ts, T, rfl, b2, pen2, hL, tab, lT, okT⟩
      have im : k * sg ≤ 100 := Nat.le_trans (Nat.mul_le_mul k10 g10) (by decide)
      dsimp only
      refine ⟨_, rfl, q L ts T H2 nL b2 (pen2.mono (by rw [Int.toNat_natCast]; omega)) hL (Paired.mapP tab fun _ _ ⟨a, h1, _, h3⟩ => ⟨a, h1, h3⟩) (by omega) okT⟩
end
/-! ### the law's marks -/
abbrev sLM : Stmt := topS 67
abbrev NLM : List Str := ["_law_pen", "_law_states", "_law_state"]
def spLM : L2.Sp := fun vs H Q _ => ∃ (pn cl : Addr) (k b : Nat), vs = [.ref pn, .int (k : Nat)] ∧ Pen H pn cl b ∧ b ≤ 900000 ∧ k ≤ 10 ∧
  ∀ D (ms : List Int) H', H D = none → But pn H H' → Pen H' pn cl (b + 10) → H' D = some (.lst (ms.map V.int)) → ms.Pairwise (· < ·) → (∀ m ∈ ms, 0 ≤ m ∧ m ≤ (k : Int) - 1) → Q (.ref D) H'
section
variable {P : Program} {w : World} {K : PySem.W.Frag} {mg : Str → Option Value} {base : Heap}
theorem scLM : FnScope NLM ["_law_pen", "_law_states"] (defScope sLM) := ⟨rfl, rfl, rfl, by decide +kernel, rfl, by decide +kernel, by decide +kernel⟩
theorem ok_LM {f : Addr} {fd : FuncData} (F : Fun K "_law_marks" "_law_marks" sLM f fd) (B : Bi mg) (cD : Cal CX0 P w K mg base 1 "_law_draw" spDraw) : FnOk P w K mg base CX0 2 f fd ["_law_pen", "_law_states"] spLM := by
  refine F.ok scLM (fun vs H Q E h => ?_) (fun cdv A outer s H vs Q E hr h => ?_)
  · obtain ⟨pn, cl, k, b, rfl, _⟩ := h
    rfl
  · obtain ⟨pn, cl, k, b, rfl, pen, hb, k10, q⟩ := h
    refine ⟨_, pss_one (ps_ret (pe_lc (own := [("_law_state", 2)]) rfl scLM.nd (pi_range1 rfl B.range (pa_cons (pv 1) pa_nil)) (blkOk_by (N := NLM) (sc := defScope sLM) (by decide +kernel)) (fun _ _ _ _ _ => (pg_name (i := 2) scLM.nd rfl (Or.inl rfl))) (fun _ _ _ _ _ => (pts_one (pt_cmpR op_eq (pe_c cD hr pass0 (pa_cons (pv 0) (pa_cons pe_int pa_nil))) pe_int (nomark _)))) (fun _ _ _ _ _ => (pv 2)))), ?_⟩
    refine ⟨_, rfl, _, rfl, by omega, by omega, fun D nD => lcP1 (s := 1) (walk_range (lo := 0)) (fun j acc => ∃ ms : List Int, acc = ms.map V.int ∧ ms.length ≤ j ∧ ms.Pairwise (· < ·) ∧ ∀ m ∈ ms, 0 ≤ m ∧ m ≤ (j : Int) - 1) ⟨[], rfl, Nat.le_refl _, .nil, fun _ z => nomatch z⟩ (fun j acc ⟨xs, e, l, _⟩ => by rw [e, List.length_map]; exact l) (by omega) nD pen (fun _ _ => True.intro) ?_ ?_⟩
    · rintro j x acc H3 H4 Q' N hj ⟨ms, rfl, lm, pw, om⟩ b3 p3 ⟨rfl, rfl⟩ fin no
      refine ⟨rfl, _, rfl, pn, cl, 3, _, rfl, p3, by omega, by decide, by decide, fun r H5 r0 r1 b5 p5 => ?_⟩
      refine ⟨rfl, _, rfl, ?_⟩
      rw [dec_int]
      by_cases c : r = 0
      · rw [show (r == 0) = true by simpa using c]
        refine iteT ⟨_, rfl, fin _ _ ⟨ms ++ [((j : Nat) : Int)], by rw [List.map_append]; exact congrArg (fun z => ms.map V.int ++ [V.int z]) (by show (0 : Int) + ((j : Nat) : Int) = _; omega), by rw [List.length_append, List.length_singleton]; omega, ?_, fun m hm => ?_⟩ b5 p5⟩
        · refine List.pairwise_append.mpr ⟨pw, .cons (fun _ z => nomatch z) .nil, fun a ha b hb => ?_⟩
          rw [List.mem_singleton.mp hb]
          have := om a ha
          omega
        · rcases List.mem_append.mp hm with h | h
          · have := om m h
            omega
          · rw [List.mem_singleton.mp h]
            omega
      · rw [show (r == 0) = false by simpa using c]
        exact iteF (no _ ⟨ms, rfl, by omega, pw, fun m hm => by have := om m hm; omega⟩ b5 p5)
    · rintro acc H3 ⟨ms, rfl, lm, pw, om⟩ b3 p3 hD
      exact q D ms H3 nD b3 (p3.mono (by omega)) hD pw fun m hm => by have := om m hm; omega
end
/-! ### a row, told -/
abbrev sLRo : Stmt := topS 69
abbrev NLRo : List Str := ["_law_low", "_law_high"]
theorem away_two (lo hi : Int) : awayF [lo, hi] = if lo ≤ hi then lo else hi := by
  refine awayF_eq ⟨?_, fun b hb => ?_⟩
  · split
    · exact List.mem_cons_self
    · exact List.mem_cons_of_mem _ List.mem_cons_self
  · simp only [List.count_cons, List.count_nil]
    rcases List.mem_cons.mp hb with rfl | hb
    · by_cases c : b ≤ hi
      · simp only [if_pos c]
        exact .inr ⟨trivial, Int.le_refl _⟩
      · simp only [if_neg c]
        have n1 : ¬ b = hi := by omega
        have n2 : ¬ hi = b := by omega
        right
        simp [n1, n2]
        omega
    · rw [List.mem_singleton.mp hb]
      by_cases c : lo ≤ hi
      · simp only [if_pos c]
        by_cases e : lo = hi
        · subst e
          simp
        · have e2 : ¬ hi = lo := fun z => e z.symm
          right
          simp [e, e2]
          omega
      · simp only [if_neg c]
        exact .inr ⟨trivial, Int.le_refl _⟩
theorem rle_two (lo hi : Int) : rle [lo, hi] = if lo = hi then [(0, lo)] else [(0, lo), (1, hi)] := by
  by_cases c : lo = hi
  · subst c
    simp [rle, rleF, put]
  · simp [rle, rleF, put, c]
theorem kept_two (lo hi : Int) : keptM [lo, hi] (awayF [lo, hi]) = if lo = hi then [] else if lo < hi then [(1, 1, hi)] else [(0, 0, lo)] := by
  rw [away_two]
  unfold keptM
  rw [rle_two]
  by_cases c : lo = hi
  · subst c
    simp [trips, beh]
  · rw [if_neg c, if_neg c]
    by_cases d : lo < hi
    · have e : lo ≤ hi := by omega
      have e2 : ¬ hi = lo := by omega
      simp [trips, beh, List.range_succ, e, d, e2]
    · have e : ¬ lo ≤ hi := by omega
      simp [trips, beh, List.range_succ, e, d, c]
def spLRo : L2.Sp := fun vs H Q _ => ∃ (lo hi : Int), vs = [.int lo, .int hi] ∧ ∀ r u H' ms, Same H H' → H' r = some (.tup [.int (awayF [lo, hi]), .ref u]) → H' u = some (.tup ms) → TrAt H' ms (keptM [lo, hi] (awayF [lo, hi])) → Q (.ref r) H'
section
variable {P : Program} {w : World} {K : PySem.W.Frag} {mg : Str → Option Value} {base : Heap}
theorem scLRo : FnScope NLRo ["_law_low", "_law_high"] (defScope sLRo) := ⟨rfl, rfl, rfl, by decide +kernel, rfl, by decide +kernel, by decide +kernel⟩
theorem ok_LRo {f : Addr} {fd : FuncData} (F : Fun K "_law_row" "_law_row" sLRo f fd) : FnOk P w K mg base CX0 1 f fd ["_law_low", "_law_high"] spLRo := by
  refine F.ok scLRo (fun vs H Q E h => ?_) (fun cdv A outer s H vs Q E hr h => ?_)
  · obtain ⟨lo, hi, rfl, _⟩ := h
    rfl
  · obtain ⟨lo, hi, rfl, q⟩ := h
    refine ⟨_, pss_cons (ps_if (pt_cmpR op_eq (pv 0) (pv 1) (nomark _)) (pss_one (ps_ret (pe_tup (pa_cons (pv 0) (pa_cons (pe_tup pa_nil) pa_nil))))) pss_nil)
      (pss_one (ps_ret (pe_ifExp (pt_cmpR op_lt (pv 0) (pv 1) (nomark _)) (pe_tup (pa_cons (pv 0) (pa_cons (pe_tup (pa_cons (pe_tup (pa_cons pe_int (pa_cons pe_int (pa_cons (pv 1) pa_nil)))) pa_nil)) pa_nil))) (pe_tup (pa_cons (pv 1) (pa_cons (pe_tup (pa_cons (pe_tup (pa_cons pe_int (pa_cons pe_int (pa_cons (pv 0) pa_nil)))) pa_nil)) pa_nil)))))), ?_⟩
    rw [kept_two, away_two] at q
    refine ⟨_, rfl, _, rfl, rfl, _, rfl, ?_⟩
    rw [dec_int]
    by_cases c : lo = hi
    · rw [show (lo == hi) = true by simpa using c]
      rw [if_pos c, if_pos (by omega)] at q
      refine iteT ⟨_, rfl, by show 0 ≤ sizeLine; decide, fun u nu => ⟨by show 2 ≤ sizeLine; decide, fun r nr => ?_⟩⟩
      exact q r u _ [] ((same_new nu).trans (same_new nr)) upd_same (same_new nr _ _ upd_same) .nil
    · rw [show (lo == hi) = false by simpa using c]
      rw [if_neg c] at q
      refine iteF (nextOf ?_)
      refine ⟨_, rfl, _, rfl, _, _, rfl, rfl, _, rfl, ?_⟩
      by_cases d : lo < hi
      · rw [decide_eq_true d]
        rw [if_pos d, if_pos (by omega)] at q
        refine iteT ⟨_, rfl, _, rfl, by show 3 ≤ sizeLine; decide, fun t nt => ⟨by show 1 ≤ sizeLine; decide, fun u nu => ⟨by show 2 ≤ sizeLine; decide, fun r nr => ?_⟩⟩⟩
        exact q r u _ [.ref t] (((same_new nt).trans (same_new nu)).trans (same_new nr)) upd_same (same_new nr _ _ upd_same) (.cons ⟨t, rfl, same_new nr _ _ (same_new nu _ _ upd_same)⟩ .nil)
      · rw [decide_eq_false d]
        rw [if_neg d, if_neg (by omega)] at q
        refine iteF ⟨_, rfl, _, rfl, by show 3 ≤ sizeLine; decide, fun t nt => ⟨by show 1 ≤ sizeLine; decide, fun u nu => ⟨by show 2 ≤ sizeLine; decide, fun r nr => ?_⟩⟩⟩
        exact q r u _ [.ref t] (((same_new nt).trans (same_new nu)).trans (same_new nr)) upd_same (same_new nr _ _ upd_same) (.cons ⟨t, rfl, same_new nr _ _ (same_new nu _ _ upd_same)⟩ .nil)
end
end K61
set_option Elab.async false
set_option linter.all false
set_option maxRecDepth 100001
set_option maxHeartbeats 3999999
namespace K61
open PySem L2
/-- a comprehension that picks and makes new things -/
theorem lcQ {J : It} {n : Nat} {G : Hp → Prop} {Y : Nat → Hp → V → Hp → Prop} (wk : Walk J n G Y) {g : TG} {tt : L2.TT} {te : TE} {vs : List Nat} {σ : St} {H1 : Hp} {D : Addr} {Qd : Hp → Prop} (I : Nat → List V → Hp → Prop) (st : ∀ i acc H H' xs, H D = some (.lst xs) → (∀ b o, b ≠ D → H b = some o → H' b = some o) → I i acc H → I i acc H') (i0 : ∀ H, I 0 [] H) (hl : ∀ i acc H, I i acc H → acc.length ≤ i) (hb : n ≤ 10000) (nD : H1 D = none) (hG : ∀ H', Same H1 H' → G H')
    (hs : ∀ (i : Nat) (x : V) (acc : List V) (H2 H3 : Hp) (Q : VK) (N : Hp → Prop), i < n → I i acc H2 → Same H1 H2 → (∃ xs, H2 D = some (.lst xs)) → Y i H2 x H3 → (∀ v H4, I (i + 1) (acc ++ [v]) H4 → Same H2 H4 → Q v H4) → (∀ H4, I (i + 1) acc H4 → Same H2 H4 → N H4) → g x (wipe σ vs) H3 fun σ2 H4 => wipe σ2 vs = wipe σ vs ∧ tt σ2 H4 fun b H5 => if b = true then te σ2 H5 Q else N H5)
    (hd : ∀ (acc : List V) H', I n acc H' → Same H1 H' → H' D = some (.lst acc) → Qd H') :
    ∃ W : Nat → Nat → Hp → Prop, (∃ m, W 0 m (upd H1 D (.lst []))) ∧ ∀ i m H, W i m H →
      (J.stop i H ∧ Qd H) ∨ (J.go i H ∧ ∃ Nx : Hp → Prop, (∀ H', Nx H' → ∃ m', m' < m ∧ W (i + 1) m' H') ∧ ∀ x H', J.yld i H x H' → g x (wipe σ vs) H' fun σ2 H2 => wipe σ2 vs = wipe σ vs ∧ tt σ2 H2 fun b H3 =>
        if b = true then te σ2 H3 fun y H4 => ∃ acc, H4 D = some (.lst acc) ∧ acc.length < sizeLine ∧ Nx (upd H4 D (.lst (acc ++ [y]))) else Nx H3) := by
  refine lc_it wk (fun i H' => Same H1 H' ∧ ∃ acc, H' D = some (.lst acc) ∧ I i acc H') ⟨same_new nD, [], upd_same, i0 _⟩ (fun i H' _ z => hG H' z.1) ?_ (fun H' ⟨z1, acc, z3, z4⟩ => hd acc H' z4 z1 z3)
  rintro i x H H' hi ⟨e1, acc, hD, ia⟩ y
  refine hs i x acc H H' _ _ hi ia e1 ⟨acc, hD⟩ y (fun v H4 iv e4 => ⟨acc, e4 _ _ hD, ?_, fun c o z => ?_, _, upd_same, ?_⟩) fun H4 iv e4 => ⟨e1.trans e4, acc, e4 _ _ hD, iv⟩
  · have := hl i acc H ia
    exact small10 (by omega)
  · rw [upd_ne (ne_of_none z nD)]
    exact e4 _ _ (e1 _ _ z)
  · exact st _ _ H4 _ _ (e4 _ _ hD) (fun b o n z => (upd_ne n).trans z) iv
/-! ### rows, kept -/
abbrev sLRK : Stmt := topS 70
abbrev NLRK : List Str := ["_law_table_here", "_law_goals"]
def spLRK : L2.Sp := fun vs H Q _ => ∃ (a : Addr) (ts : List V) (T : List (List Int)), vs = [.ref a] ∧ H a = some (.lst ts) ∧ TabAt H ts T ∧ (∀ L ∈ T, L.length = 2) ∧ T.length ≤ 5000 ∧ ∀ r us H', Same H H' → H' r = some (.tup us) → KrAt H' us T → Q (.ref r) H'
section
variable {P : Program} {w : World} {K : PySem.W.Frag} {mg : Str → Option Value} {base : Heap}
theorem scLRK : FnScope NLRK ["_law_table_here"] (defScope sLRK) := ⟨rfl, rfl, rfl, by decide +kernel, rfl, by decide +kernel, by decide +kernel⟩
theorem ok_LRK {f : Addr} {fd : FuncData} (F : Fun K "_law_rows_kept" "_law_rows_kept" sLRK f fd) (B : Bi mg) (cR : Cal CX0 P w K mg base 1 "_law_row" spLRo) : FnOk P w K mg base CX0 2 f fd ["_law_table_here"] spLRK := by
  refine F.ok scLRK (fun vs H Q E h => ?_) (fun cdv A outer s H vs Q E hr h => ?_)
  · obtain ⟨a, ts, T, rfl, _⟩ := h
    rfl
  · obtain ⟨a, ts, T, rfl, ha, tab, l2, l5, q⟩ := h
    refine ⟨_, pss_one (ps_ret (pe_tupleOf rfl B.tuple (pe_lc (own := [("_law_goals", 1)]) rfl scLRK.nd (pi_sqA (pv 0)) (blkOk_by (N := NLRK) (sc := defScope sLRK) (by decide +kernel)) (fun _ _ _ _ _ => (pg_name (i := 1) scLRK.nd rfl (Or.inl rfl))) (fun _ _ _ _ _ => pts_nil) (fun _ _ _ _ _ => (pe_c cR hr pass0 (pa_cons (pe_ix (ix_listK K rfl) (pv 1) pe_int (fun _ _ => rfl)) (pa_cons (pe_ix (ix_listK K rfl) (pv 1) pe_int (fun _ _ => rfl)) pa_nil))))))), ?_⟩
    have lt := Paired.length tab
    refine ⟨_, rfl, a, ts, rfl, .inl (SqL.of ha), fun J G wk hG D nD => lcQ wk (fun i acc H' => KrAt H' acc (T.take i)) (fun i acc Ha Hb xs hD kp kr => kr.at_ (p := D) kp (fun xs' z => by rw [hD] at z; cases z)) (fun _ => .nil) (fun i acc H' kr => by rw [Paired.length kr, List.length_take]; omega) (by omega) nD (fun H' e => hG H' fun o z => e _ _ z) ?_ ?_⟩
    · rintro i x acc H2 H3 Q' N hi kr e2 ⟨xs, hD⟩ ⟨rfl, hx⟩ fin no
      obtain ⟨L, hL, g, rfl, hg⟩ := paired_at tab hx
      have ll := l2 L (List.mem_of_getElem? hL)
      match L, ll with
      | [lo, hi'], _ =>
      refine ⟨rfl, ?_⟩
      unfold tYes
      refine iteT ⟨_, rfl, g, _, _, _, rfl, rfl, SqL.of (e2 _ _ hg), atI_nat (j := 0) rfl, _, rfl, g, _, _, _, rfl, rfl, SqL.of (e2 _ _ hg), atI_nat (j := 1) rfl, lo, hi', rfl, fun r u H4 ms e4 hr' hu tr => fin _ _ ?_ e4⟩
      rw [take_snoc hL]
      exact Paired.snoc (kr.same e4) ⟨r, u, ms, rfl, hr', hu, tr⟩
    · rintro acc H3 kr e3 hD
      rw [lt, List.take_length] at kr
      exact .inl ⟨D, acc, rfl, SqL.of hD, fun t nt => q t acc _ (e3.trans (same_new nt)) upd_same (kr.same (same_new nt))⟩
end
/-! ### the law's bits -/
theorem joinL_nil : ∀ ps : List (List Nat), TL.joinL [] ps = ps.flatten
  | [] => rfl
  | [p] => by simp [TL.joinL]
  | p :: q :: r => by
    show p ++ ([] ++ TL.joinL [] (q :: r)) = _
    rw [joinL_nil (q :: r)]
    rfl
theorem tl_inj {a b : Str} (h : TL.tl a = TL.tl b) : a = b := by
  obtain ⟨⟨a⟩⟩ := a
  obtain ⟨⟨b⟩⟩ := b
  have h : a = b := h
  rw [h]
theorem sum_ones : ∀ u : W, (u.map ((fun x : Str => x.length) ∘ fun b => (⟨#[cd b]⟩ : Str))).sum = u.length
  | [] => rfl
  | b :: u => by
    rw [List.map_cons, List.sum_cons, sum_ones u, List.length_cons]
    show 1 + u.length = _
    omega
theorem join_bits (u : W) : Txt.join "" (u.map fun b => (⟨#[cd b]⟩ : Str)) = bS u := by
  rw [TL.join_eq]
  refine tl_inj ?_
  rw [TL.tl_join, show TL.tl ("" : Str) = [] from rfl, joinL_nil, List.map_map]
  have e : TL.tl (bS u) = u.map cd := by
    unfold bS
    exact S_list _
  rw [e]
  induction u with
  | nil => rfl
  | cons b u ih =>
    rw [List.map_cons, List.flatten_cons, List.map_cons, ih (by unfold bS; exact S_list _)]
    rfl
section
variable {P : Program} {w : World} {K : PySem.W.Frag} {mg : Str → Option Value} {base : Heap}
end
/-! ### numbers of bits -/
abbrev sLN : Stmt := topS 71
abbrev NLN : List Str := ["_law_bits", "_law_bit"]
def iB (b : Bool) : Int := if b = true then 1 else 0
def spLN : L2.Sp := fun vs H Q _ => ∃ (u : W), vs = [wV u] ∧ u.length ≤ 5000 ∧ ∀ D H', Same H H' → H' D = some (.lst ((u.map iB).map V.int)) → Q (.ref D) H'
section
variable {P : Program} {w : World} {K : PySem.W.Frag} {mg : Str → Option Value} {base : Heap}
theorem scLN : FnScope NLN ["_law_bits"] (defScope sLN) := ⟨rfl, rfl, rfl, by decide +kernel, rfl, by decide +kernel, by decide +kernel⟩
theorem ok_LN {f : Addr} {fd : FuncData} (F : Fun K "_law_numbers" "_law_numbers" sLN f fd) (B : Bi mg) : FnOk P w K mg base CX0 1 f fd ["_law_bits"] spLN := by
  refine F.ok scLN (fun vs H Q E h => ?_) (fun cdv A outer s H vs Q E hr h => ?_)
  · obtain ⟨u, rfl, _⟩ := h
    rfl
  · obtain ⟨u, rfl, lu, q⟩ := h
    refine ⟨_, pss_one (ps_ret (pe_lc (own := [("_law_bit", 1)]) rfl scLN.nd (pi_str (pv 0)) (blkOk_by (N := NLN) (sc := defScope sLN) (by decide +kernel)) (fun _ _ _ _ _ => (pg_name (i := 1) scLN.nd rfl (Or.inl rfl))) (fun _ _ _ _ _ => pts_nil) (fun _ _ _ _ _ => (pe_callTy call_int_str rfl B.int (by decide +kernel) (pa_cons (pv 1) pa_nil))))), ?_⟩
    have ls : (bS u).cps.size = u.length := bS_len u
    refine ⟨_, rfl, bS u, rfl, fun D nD => lcM walk_str (fun i => V.int (iB (u.getD i false))) (by rw [ls]; omega) nD (fun _ _ => True.intro) ?_ ?_⟩
    · rintro i x H2 H3 N hi e2 ⟨rfl, ch, hch, rfl⟩ fin
      rw [ls] at hi
      have ec : ch = cd (u.getD i false) := by
        have h : (bS u).cps.toList[i]? = some ch := by rw [← hch]; simp
        have : (bS u).cps.toList = u.map cd := S_list _
        rw [this, List.getElem?_map, List.getElem?_eq_getElem hi] at h
        rw [List.getD_eq_getElem?_getD, List.getElem?_eq_getElem hi]
        exact (Option.some.inj h).symm
      subst ec
      refine ⟨rfl, _, rfl, ⟨#[cd (u.getD i false)]⟩, iB (u.getD i false), rfl, ?_, by show 1 ≤ 640; decide, fin _ (Same.refl _)⟩
      cases u.getD i false <;> decide +kernel
    · intro H3 e3 hD
      rw [ls] at hD
      refine q D H3 e3 ?_
      rw [hD, List.map_map]
      refine congrArg (fun z => some (HO.lst z)) (List.ext_getElem (by simp) fun i h1 h2 => ?_)
      rw [List.length_map, List.length_range] at h1
      rw [List.getElem_map, List.getElem_range, List.getElem_map, List.getD_eq_getElem?_getD, List.getElem?_eq_getElem h1]
      rfl
end
end K61
set_option Elab.async false
set_option linter.all false
set_option maxRecDepth 100001
set_option maxHeartbeats 3999999
namespace K61
open PySem L2
/-! ### the law's machine -/
abbrev sLMa : Stmt := topS 68
abbrev NLMa : List Str := ["_law_table_here", "_law_start", "_law_marks_here", "_law_rows", "_law_goals", "_law_sign"]
/-- each sign that leads elsewhere is a move -/
def mvS (L : List Int) (a : Int) (i : Nat) : List Mv := ((List.range i).filter fun s => !decide (L.getD s 0 = a)).map fun s => (((s : Nat) : Int), ((s : Nat) : Int), L.getD s 0)
theorem mvS_succ (L : List Int) (a : Int) (i : Nat) : mvS L a (i + 1) = if L.getD i 0 = a then mvS L a i else mvS L a i ++ [(((i : Nat) : Int), ((i : Nat) : Int), L.getD i 0)] := by
  unfold mvS
  rw [List.range_succ, List.filter_append, List.map_append]
  by_cases c : L.getD i 0 = a
  · rw [if_pos c, List.filter_cons_of_neg (by simpa using c)]
    simp
  · rw [if_neg c, List.filter_cons_of_pos (by simpa using c)]
    simp
theorem mvS_ok (L : List Int) (a k : Int) (ok : ∀ x ∈ L, 0 ≤ x ∧ x ≤ k - 1) : ∀ i, i ≤ L.length → OkM (L.length : Nat) k (mvS L a i) ∧ endM (mvS L a i) ≤ (i : Nat) ∧ (expM a (mvS L a i)).length ≤ i ∧ expM a (mvS L a i) ++ List.replicate (i - (expM a (mvS L a i)).length) a = L.take i
  | 0, _ => by
    refine ⟨okM_nil, Int.le_refl _, Nat.le_refl _, rfl⟩
  | i + 1, h => by
    obtain ⟨h1, h2, h3, h4⟩ := mvS_ok L a k ok i (by omega)
    have gi : L[i]? = some (L.getD i 0) := by
      rw [List.getD_eq_getElem?_getD, List.getElem?_eq_getElem (show i < L.length by omega)]
      rfl
    rw [mvS_succ]
    by_cases c : L.getD i 0 = a
    · rw [if_pos c]
      refine ⟨h1, by omega, by omega, ?_⟩
      rw [show i + 1 - (expM a (mvS L a i)).length = (i - (expM a (mvS L a i)).length) + 1 by omega, List.replicate_succ', ← List.append_assoc, h4, take_snoc gi, c]
    · rw [if_neg c]
      have o := ok _ (List.mem_of_getElem? gi)
      have ex : expM a (mvS L a i ++ [(((i : Nat) : Int), ((i : Nat) : Int), L.getD i 0)]) = L.take (i + 1) := by
        rw [expM_snoc]
        unfold stepE
        show expM a (mvS L a i) ++ List.replicate (((i : Nat) : Int).toNat - (expM a (mvS L a i)).length) a ++ List.replicate (((i : Nat) : Int) + 1 - ((i : Nat) : Int)).toNat (L.getD i 0) = _
        rw [Int.toNat_natCast, h4, take_snoc gi, show (((i : Nat) : Int) + 1 - ((i : Nat) : Int)).toNat = 1 by omega]
        rfl
      refine ⟨okM_snoc.mpr ⟨h1, h2, Int.le_refl _, ?_, o.1, o.2⟩, ?_, ?_, ?_⟩
      · show ((i : Nat) : Int) ≤ _
        omega
      · rw [endM_snoc]
        show ((i : Nat) : Int) + 1 ≤ _
        omega
      · rw [ex, List.length_take]
        omega
      · rw [ex, List.length_take, show i + 1 - min (i + 1) L.length = 0 by omega]
        simp
theorem mvS_all (L : List Int) (a k : Int) (ok : ∀ x ∈ L, 0 ≤ x ∧ x ≤ k - 1) : OkM (L.length : Nat) k (mvS L a L.length) ∧ expT a (mvS L a L.length) L.length = L := by
  obtain ⟨h1, _, _, h4⟩ := mvS_ok L a k ok L.length (Nat.le_refl _)
  refine ⟨h1, ?_⟩
  unfold expT
  rw [h4, List.take_length]
/-- rows whose moves are lists, none of them at R -/
def RowsN (R : Addr) (H : Hp) (n : Nat) (k : Int) : List V → List (List Int) → Prop := Paired fun v L => ∃ (a : Int) (ms : List Mv) (t u : Addr) (ts : List V), v = .ref t ∧ H t = some (.tup [.int a, .ref u]) ∧ u ≠ R ∧ H u = some (.lst ts) ∧ TrAt H ts ms ∧ OkM (n : Nat) k ms ∧ 0 ≤ a ∧ a ≤ k - 1 ∧ expT a ms n = L
theorem RowsN.but {R : Addr} {H H' : Hp} {n : Nat} {k : Int} {vs : List V} {Ls : List (List Int)} {xs : List V} (h : RowsN R H n k vs Ls) (hR : H R = some (.lst xs)) (e : ∀ b o, b ≠ R → H b = some o → H' b = some o) : RowsN R H' n k vs Ls :=
  Paired.mapP h fun _ _ ⟨a, ms, t, u, ts, h1, h2, h3, h4, h5, h6⟩ => ⟨a, ms, t, u, ts, h1, e _ _ (ne_of h2 hR fun z => nomatch z) h2, h3, e _ _ h3 h4, h5.at_ (p := R) e (fun xs' z => by rw [hR] at z; cases z), h6⟩
theorem RowsN.same {R : Addr} {H H' : Hp} {n : Nat} {k : Int} {vs : List V} {Ls : List (List Int)} (h : RowsN R H n k vs Ls) (e : Same H H') : RowsN R H' n k vs Ls :=
  Paired.mapP h fun _ _ ⟨a, ms, t, u, ts, h1, h2, h3, h4, h5, h6⟩ => ⟨a, ms, t, u, ts, h1, e _ _ h2, h3, e _ _ h4, h5.same e, h6⟩
theorem RowsN.at_ {R : Addr} {H : Hp} {n : Nat} {k : Int} {vs : List V} {Ls : List (List Int)} (h : RowsN R H n k vs Ls) : RowsAt H n k vs Ls :=
  Paired.mapP h fun _ _ ⟨a, ms, t, u, ts, h1, h2, h3, h4, h5, h6, h7, h8, h9⟩ => ⟨a, ms, ⟨t, u, ts, h1, h2, .inl h4, h5⟩, h6, h7, h8, h9⟩
def spLMa (CMa : Addr) : L2.Sp := fun vs H Q _ => ∃ (ta mk : Addr) (st : Int) (ts : List V) (T : List (List Int)) (n : Nat) (ms : List Int), vs = [.ref ta, .int st, .ref mk] ∧ H ta = some (.lst ts) ∧ TabAt H ts T ∧ H mk = some (.lst (ms.map V.int)) ∧ OkMa n T st ms ∧ ∀ x H', H x = none → Same H H' → IsM CMa H' x n T st ms → Q (.ref x) H'
section
variable {P : Program} {w : World} {K : PySem.W.Frag} {mg : Str → Option Value} {base : Heap}
theorem scLMa : FnScope NLMa ["_law_table_here", "_law_start", "_law_marks_here"] (defScope sLMa) := ⟨rfl, rfl, rfl, by decide +kernel, rfl, by decide +kernel, by decide +kernel⟩
theorem ok_LMa {f CMa : Addr} {fd : FuncData} (F : Fun K "_law_machine" "_law_machine" sLMa f fd) (B : Bi mg) (mM : Mak CX0 P w K mg base 4 "Machine" CMa (spInit CMa)) : FnOk P w K mg base CX0 6 f fd ["_law_table_here", "_law_start", "_law_marks_here"] (spLMa CMa) := by
  refine F.ok scLMa (fun vs H Q E h => ?_) (fun cdv A outer s H vs Q E hr h => ?_)
  · obtain ⟨ta, mk, st, ts, T, n, ms, rfl, _⟩ := h
    rfl
  · obtain ⟨ta, mk, st, ts, T, n, ms, rfl, hta, tab, hmk, O, q⟩ := h
    refine ⟨_, pss_cons (ps_set (i := 3) scLMa.nd rfl (Or.inl rfl) (pe_lst pa_nil))
      (pss_cons (ps_for PassesOwn.never rfl (pi_sqA (pv 0)) (pg_name (i := 4) scLMa.nd rfl (Or.inr rfl))
        (pss_one (ps_expr (pe_bm PySem.F.plainAttrs_list PySem.F.slot_list_append PySem.F.type_list_append mt_append (pv 3) (pa_cons (pe_tup (pa_cons (pe_ix ix_list (pv 4) pe_int (fun _ _ => rfl)) (pa_cons (pe_lc (own := [("_law_sign", 5)]) rfl scLMa.nd (pi_range1 rfl B.range (pa_cons (pe_len B.len (pa_cons (pv 4) pa_nil)) pa_nil)) (blkOk_by (N := NLMa) (sc := defScope sLMa) (by decide +kernel)) (fun _ _ _ _ _ => (pg_name (i := 5) scLMa.nd rfl (Or.inl rfl))) (fun _ _ _ _ _ => (pts_one (pt_cmpR op_ne (pe_ix (ix_listK K rfl) (pv 4) (pv 5) (fun _ _ => rfl)) (pe_ix (ix_listK K rfl) (pv 4) pe_int (fun _ _ => rfl)) (nomark _)))) (fun _ _ _ _ _ => (pe_tup (pa_cons (pv 5) (pa_cons (pv 5) (pa_cons (pe_ix (ix_listK K rfl) (pv 4) (pv 5) (fun _ _ => rfl)) pa_nil)))))) pa_nil))) pa_nil)))))
      (pss_one (ps_ret (pe_mk mM hr pass0 (pa_cons (pe_len B.len (pa_cons (pe_ix ix_list (pv 0) pe_int (fun _ _ => rfl)) pa_nil)) (pa_cons (pv 3) (pa_cons (pv 1) (pa_cons (pv 2) pa_nil)))))))), ?_⟩
    have lt := Paired.length tab
    have k1 := O.k1
    have k2 := O.k2
    have n1 := O.n1
    have n2 := O.n2
    refine ⟨by show 0 ≤ sizeLine; decide, fun R nR => ?_⟩
    have e1 := same_new (o := .lst []) nR
    refine gN ?_
    dsimp only
    have hR : upd H R (.lst []) R = some (.lst []) := upd_same
    have eqa : upd H R (.lst []) ta = H ta := by rw [e1 _ _ hta, hta]
    refine ⟨_, rfl, ta, ts, rfl, .inl (SqL.of (e1 _ _ hta)), fun J G wk hG => for_it wk (fun i σ H' => ∃ (x4 : Option V) (rs : List V), σ = [some (.ref ta), some (.int st), some (.ref mk), some (.ref R), x4, none] ∧ Same H H' ∧ H' R = some (.lst rs) ∧ RowsN R H' n (T.length : Int) rs (T.take i)) ⟨none, [], rfl, e1, hR, .nil⟩ (fun i σ H' _ ⟨_, _, _, e, _⟩ => hG H' fun o z => e _ _ (by rw [← eqa]; exact z)) ?_ ?_⟩
    · rintro i x σ H2 H3 hi ⟨x4, rs, rfl, e2, hR2, rw2⟩ ⟨rfl, hx⟩
      obtain ⟨L, hL, g, rfl, hg0⟩ := paired_at tab hx
      have hg := e2 _ _ hg0
      obtain ⟨lL, oL⟩ := O.row L (List.mem_of_getElem? hL)
      have lrs := Paired.length rw2
      rw [List.length_take] at lrs
      refine gN ?_
      dsimp only
      have h0 : (L.map V.int)[0]? = some (.int (L.getD 0 0)) := by
        rw [List.getElem?_map, List.getD_eq_getElem?_getD, List.getElem?_eq_getElem (show 0 < L.length by omega)]
        rfl
      have hAt : ∀ j, j < n → (L.map V.int)[j]? = some (.int (L.getD j 0)) := fun j hj => by
        rw [List.getElem?_map, List.getD_eq_getElem?_getD, List.getElem?_eq_getElem (show j < L.length by omega)]
        rfl
      refine ⟨_, rfl, .inl ⟨rfl, rs, SqL.of hR2⟩, _, rfl, g, _, _, _, rfl, rfl, SqL.of hg, atI_nat (j := 0) h0, ?_⟩
      refine ⟨_, rfl, g, _, rfl, .inl (SqL.of hg), _, rfl, by rw [List.length_map]; omega, by rw [List.length_map]; omega, fun D nD => lcQ (walk_range (lo := 0)) (fun j acc H' => TrAt H' acc (mvS L (L.getD 0 0) j)) (fun j acc Ha Hb xs hD kp tr => tr.at_ (p := D) kp (fun xs' z => by rw [hD] at z; cases z)) (fun _ => .nil) (fun j acc H' tr => ?_) (by rw [List.length_map]; omega) nD (fun _ _ => True.intro) ?_ ?_⟩
      · rw [Paired.length tr]
        unfold mvS
        rw [List.length_map]
        refine Nat.le_trans (List.length_filter_le _ _) ?_
        rw [List.length_range]
        exact Nat.le_refl _
      · rintro j x acc H3 H4 Q' N hj tr e3 _ ⟨rfl, rfl⟩ fin no
        rw [List.length_map] at hj
        have hj : j < n := by omega
        have ej : (0 : Int) + ((j : Nat) : Int) = ((j : Nat) : Int) := by omega
        have hg3 := e3 _ _ hg
        refine ⟨rfl, _, rfl, _, rfl, g, _, _, .int (L.getD j 0), rfl, rfl, SqL.of hg3, (by show atI _ ((0 : Int) + ((j : Nat) : Int)) = _; rw [ej]; exact atI_nat (hAt j hj)), _, rfl, g, _, _, _, rfl, rfl, SqL.of hg3, atI_nat (j := 0) h0, rfl, _, rfl, ?_⟩
        have hc : decide (V.int (L.getD j 0) = V.int (L.getD 0 0)) = decide (L.getD j 0 = L.getD 0 0) := decide_eq_decide.mpr ⟨fun z => by injection z, fun z => by rw [z]⟩
        rw [hc]
        have ms := mvS_succ L (L.getD 0 0) j
        by_cases c : L.getD j 0 = L.getD 0 0
        · rw [decide_eq_true c]
          rw [if_pos c] at ms
          exact iteF (no _ (by rw [ms]; exact tr) (Same.refl _))
        · rw [decide_eq_false c]
          rw [if_neg c] at ms
          refine iteT ⟨_, rfl, _, rfl, _, rfl, _, rfl, g, _, _, .int (L.getD j 0), rfl, rfl, SqL.of hg3, (by show atI _ ((0 : Int) + ((j : Nat) : Int)) = _; rw [ej]; exact atI_nat (hAt j hj)), by show 3 ≤ sizeLine; decide, fun t nt => fin _ _ ?_ (same_new nt)⟩
          rw [ms]
          refine Paired.snoc (tr.same (same_new nt)) ⟨t, rfl, ?_⟩
          rw [upd_same]
          show some (HO.tup [V.int ((0 : Int) + ((j : Nat) : Int)), V.int ((0 : Int) + ((j : Nat) : Int)), V.int (L.getD j 0)]) = _
          rw [ej]
      · rintro acc H3 tr e3 hD
        rw [List.length_map, show ((L.length : Nat) : Int).toNat = L.length from Int.toNat_natCast _] at tr
        have hR3 := e3 _ _ hR2
        have DR : D ≠ R := Ne.symm (ne_of_none hR2 nD)
        refine ⟨by show 2 ≤ sizeLine; decide, fun t nt => ?_⟩
        have e4 := same_new (o := .tup [.int (L.getD 0 0), .ref D]) nt
        have ht : upd H3 t (.tup [.int (L.getD 0 0), .ref D]) t = some (.tup [.int (L.getD 0 0), .ref D]) := upd_same
        generalize upd H3 t (.tup [.int (L.getD 0 0), .ref D]) = H4 at e4 ht ⊢
        have hR4 := e4 _ _ hR3
        have e34 := e3.trans e4
        refine ⟨R, rs, _, rfl, rfl, hR4, small10 (by omega), ?_⟩
        obtain ⟨m1, m2⟩ := mvS_all L (L.getD 0 0) (T.length : Int) oL
        have o0 : 0 ≤ L.getD 0 0 ∧ L.getD 0 0 ≤ (T.length : Int) - 1 := by
          have : L[0]? = some (L.getD 0 0) := by
            rw [List.getD_eq_getElem?_getD, List.getElem?_eq_getElem (show 0 < L.length by omega)]
            rfl
          exact oL _ (List.mem_of_getElem? this)
        have b5 : ∀ b o, b ≠ R → H4 b = some o → upd H4 R (.lst (rs ++ [.ref t])) b = some o := fun b o n z => (upd_ne n).trans z
        refine ⟨_, rs ++ [.ref t], rfl, fun b o z => b5 b o (ne_of_none z nR) (e34 _ _ (e2 _ _ z)), upd_same, ?_⟩
        rw [take_snoc hL]
        rw [lL] at m1 m2 tr
        exact Paired.snoc ((rw2.same e34).but hR4 b5) ⟨_, _, t, D, acc, rfl, b5 _ _ (ne_of ht hR4 fun z => nomatch z) ht, DR, b5 _ _ DR (e4 _ _ hD), (tr.same e4).at_ (p := R) b5 (fun xs' z => by rw [hR4] at z; cases z), m1, o0.1, o0.2, m2⟩
    · rintro σ H2 ⟨x4, rs, rfl, e2, hR2, rw2⟩
      dsimp only
      rw [lt, List.take_length] at rw2
      obtain ⟨L0, hL0⟩ : ∃ L0, T[0]? = some L0 := ⟨_, List.getElem?_eq_getElem (show 0 < T.length by omega)⟩
      obtain ⟨v0, hv0, g0, rfl, hg0⟩ := paired_to tab hL0
      have l0 := (O.row L0 (List.mem_of_getElem? hL0)).1
      refine ⟨_, rfl, ta, ts, _, .ref g0, rfl, rfl, SqL.of (e2 _ _ hta), atI_nat (j := 0) hv0, g0, _, rfl, .inl (SqL.of (e2 _ _ hg0)), _, rfl, _, rfl, _, rfl, ?_⟩
      rw [List.length_map, l0]
      exact mk_ok (.inl hR2) rw2.at_ (.inl (e2 _ _ hmk)) O fun x H' nx e M => q x H' (e2.free nx) (e2.trans e) M
end
end K61
set_option Elab.async false
set_option linter.all false
set_option maxRecDepth 100001
set_option maxHeartbeats 3999999
/-! Dicts keyed by tuples of ints, bools, texts, None and such tuples. -/
namespace L2
open PySem.Spec PySem PyProof.Rows
mutual
/-- a value as a key -/
inductive NkIs (H : Hp) : NestedKey → V → Prop
  | non : NkIs H .none .non
  | bl (b : Bool) : NkIs H (.num (if b = true then 1 else 0)) (.bl b)
  | int (i : Int) : NkIs H (.num i) (.int i)
  | str (x : Str) : NkIs H (.text x) (.str x)
  | tup {a : Addr} {xs : List V} {ks : List NestedKey} : H a = some (.tup xs) → NkAll H ks xs → NkIs H (.tup ks) (.ref a)
inductive NkAll (H : Hp) : List NestedKey → List V → Prop
  | nil : NkAll H [] []
  | cons {k : NestedKey} {v : V} {ks : List NestedKey} {vs : List V} : NkIs H k v → NkAll H ks vs → NkAll H (k :: ks) (v :: vs)
end
mutual
theorem NkIs.tt {H H' : Hp} (e : ∀ a xs, H a = some (.tup xs) → H' a = some (.tup xs)) : ∀ (k : NestedKey) (v : V), NkIs H k v → NkIs H' k v
  | .none, _, h => by cases h; exact .non
  | .num i, _, h => by
    cases h with
    | bl b => exact .bl b
    | int i => exact .int _
  | .text x, _, h => by cases h; exact .str _
  | .tup ks, _, h => by
    cases h with
    | tup h1 h2 => exact .tup (e _ _ h1) (NkAll.tt e ks _ h2)
theorem NkAll.tt {H H' : Hp} (e : ∀ a xs, H a = some (.tup xs) → H' a = some (.tup xs)) : ∀ (ks : List NestedKey) (vs : List V), NkAll H ks vs → NkAll H' ks vs
  | [], _, h => by cases h; exact .nil
  | k :: ks, _, h => by
    cases h with
    | cons h1 h2 => exact .cons (NkIs.tt e k _ h1) (NkAll.tt e ks _ h2)
end
mutual
theorem NkIs.to {P : Program} {w : World} {H : Hp} {h : Heap} (ok : HOk P w H h) : ∀ (k : NestedKey) (v : V) (u : Value), NkIs H k v → RelV v u → NestedIs h k u
  | .none, _, _, x, r => by
    cases x
    cases r
    exact .none
  | .num i, _, _, x, r => by
    cases x with
    | bl b =>
      cases r
      exact .bool rfl
    | int i =>
      obtain ⟨t, rfl⟩ := r
      exact .int _ _
  | .text y, _, _, x, r => by
    cases x
    obtain ⟨t, rfl⟩ := r
    exact .text _ _
  | .tup ks, _, _, x, r => by
    cases x with
    | tup h1 h2 =>
      cases r
      obtain ⟨_, its, rv, o, g1, g2, n, g3⟩ := (show ObjOk P w H h _ (.tup _) from ok _ _ h1)
      exact .tup g1 g2 g3 (by simpa using NkAll.to ok ks _ its h2 rv)
theorem NkAll.to {P : Program} {w : World} {H : Hp} {h : Heap} (ok : HOk P w H h) : ∀ (ks : List NestedKey) (vs : List V) (us : List Value), NkAll H ks vs → Vals vs us → NestedAll h ks us
  | [], _, _, x, r => by
    cases x
    cases r
    exact .nil
  | k :: ks, _, _, x, r => by
    cases x with
    | cons x1 x2 =>
      cases r with
      | cons r1 r2 => exact .cons (NkIs.to ok k _ _ x1 r1) (NkAll.to ok ks _ _ x2 r2)
end
theorem NkIs.ref {H : Hp} {ks : List NestedKey} {y : V} (h : NkIs H (.tup ks) y) : ∃ b, y = .ref b := by
  cases h with
  | tup h1 h2 => exact ⟨_, rfl⟩
abbrev KN : List (NestedKey × Addr × V) → List (NestedKey × Addr × Value) → Prop := Paired fun p q => p.1 = q.1 ∧ p.2.1 = q.2.1 ∧ RelV p.2.2 q.2.2
def RawN (P : Program) (w : World) (a : Addr) (xs : List (NestedKey × Addr × Value)) (h : Heap) : Prop := ∃ o es ep, h.get? a = some o ∧ o.ExactDict ∧ o.data = .dict es ep ∧ es.toList = xs.map (entryOfKey (nestedKind P w)) ∧ (xs.map (·.1)).Nodup
/-- the dict at a: its keys, where their tuples stand, its values -/
def DN (P : Program) (w : World) (a : Addr) (kas : List (NestedKey × Addr × V)) : HO := .ext fun h => kas.length ≤ sizeLine ∧ (a == sysModules) = false ∧ ∃ xs, KN kas xs ∧ RawN P w a xs h
theorem dn_new {P : Program} {w : World} {H : Hp} {h : Heap} {a : Addr} {kas : List (NestedKey × Addr × V)} {xs : List (NestedKey × Addr × Value)} (z : kas.length ≤ sizeLine) (hd : (a == sysModules) = false) (r : KN kas xs) (R : RawN P w a xs h) : ObjOk P w H h a (DN P w a kas) := by
  have ⟨o, es, ep, ho, r2⟩ := R
  exact ⟨⟨z, hd, xs, r, R⟩, ⟨o, ho⟩, fun h1 h2 ⟨z, hd, xs, r, o, es, ep, ho, r2⟩ k => ⟨z, hd, xs, r, o, es, ep, k o ho, r2⟩⟩
/-- at a stands a dict with these keys and values -/
def IsN (P : Program) (w : World) (H : Hp) (a : Addr) (kvs : List (NestedKey × V)) : Prop := ∃ kas : List (NestedKey × Addr × V), H a = some (DN P w a kas) ∧ (∀ x ∈ kas, NkIs H x.1 (.ref x.2.1) ∧ x.1.depth ≤ 8) ∧ kas.map (fun x => (x.1, x.2.2)) = kvs
theorem IsN.keep {P : Program} {w : World} {H H' : Hp} {a : Addr} {kvs : List (NestedKey × V)} (h : IsN P w H a kvs) (e : ∀ o, H a = some o → H' a = some o) (t : ∀ b xs, H b = some (.tup xs) → H' b = some (.tup xs)) : IsN P w H' a kvs :=
  let ⟨kas, h1, h2, h3⟩ := h
  ⟨kas, e _ h1, fun x hx => ⟨NkIs.tt t _ _ (h2 x hx).1, (h2 x hx).2⟩, h3⟩
theorem IsN.same {P : Program} {w : World} {H H' : Hp} {a : Addr} {kvs : List (NestedKey × V)} (h : IsN P w H a kvs) (e : ∀ b o, H b = some o → H' b = some o) : IsN P w H' a kvs := h.keep (fun o z => e _ _ z) fun b xs z => e _ _ z
theorem IsN.obj {P : Program} {w : World} {H : Hp} {a : Addr} {kvs : List (NestedKey × V)} (h : IsN P w H a kvs) : ∃ φ, H a = some (.ext φ) := let ⟨_, h1, _⟩ := h; ⟨_, h1⟩
theorem IsN.empty {P : Program} {w : World} {H : Hp} {a : Addr} (h : H a = some (DN P w a [])) : IsN P w H a [] := ⟨[], h, (fun _ z => nomatch z), rfl⟩
theorem kn_val {kas : List (NestedKey × Addr × V)} {xs : List (NestedKey × Addr × Value)} (r : KN kas xs) (k : NestedKey) : RelO (valV (kas.map fun x => (x.1, x.2.2)) k) ((atKey xs k).map (·.2)) := by
  induction r with
  | nil => exact True.intro
  | @cons p q ps qs h t ih =>
    obtain ⟨h1, _, h2⟩ := h
    rw [List.map_cons]
    by_cases e : p.1 = k
    · have e' : q.1 = k := h1.symm.trans e
      have b : atKey (q :: qs) k = Option.some q.2 := by simp [atKey, List.find?_cons, e']
      rw [valV_pos (p := (p.1, p.2.2)) e, b]; exact h2
    · have e' : ¬ q.1 = k := fun z => e (h1.trans z)
      have b : atKey (q :: qs) k = atKey qs k := by simp [atKey, List.find?_cons, e']
      rw [valV_neg (p := (p.1, p.2.2)) e, b]; exact ih
def putN (kas : List (NestedKey × Addr × V)) (k : NestedKey) (b : Addr) (v : V) : List (NestedKey × Addr × V) :=
  if (kas.any fun x => decide (x.1 = k)) = true then kas.map (fun x => if x.1 = k then (x.1, x.2.1, v) else x) else kas ++ [(k, b, v)]
theorem putN_map (kas : List (NestedKey × Addr × V)) (k : NestedKey) (b : Addr) (v : V) : (putN kas k b v).map (fun x => (x.1, x.2.2)) = putK (kas.map fun x => (x.1, x.2.2)) k v := by
  unfold putN putK
  rw [List.any_map]
  have e : ((fun kv : NestedKey × V => decide (kv.1 = k)) ∘ fun x : NestedKey × Addr × V => (x.1, x.2.2)) = fun x => decide (x.1 = k) := rfl
  rw [e]
  split
  · rw [List.map_map, List.map_map]
    refine List.map_congr_left fun x _ => ?_
    show (fun x : NestedKey × Addr × V => (x.1, x.2.2)) (if x.1 = k then (x.1, x.2.1, v) else x) = if x.1 = k then (x.1, v) else (x.1, x.2.2)
    split <;> rfl
  · rw [List.map_append]; rfl
theorem putN_mem {kas : List (NestedKey × Addr × V)} {k : NestedKey} {b : Addr} {v : V} {x : NestedKey × Addr × V} (h : x ∈ putN kas k b v) : (∃ y ∈ kas, y.1 = x.1 ∧ y.2.1 = x.2.1) ∨ (x.1 = k ∧ x.2.1 = b) := by
  unfold putN at h
  split at h
  · obtain ⟨y, hy, e⟩ := List.mem_map.mp h
    refine .inl ⟨y, hy, ?_⟩
    rw [← e]
    split <;> exact ⟨rfl, rfl⟩
  · rcases List.mem_append.mp h with h | h
    · exact .inl ⟨x, h, rfl, rfl⟩
    · rw [List.mem_singleton.mp h]
      exact .inr ⟨rfl, rfl⟩
theorem kn_put {kas : List (NestedKey × Addr × V)} {xs : List (NestedKey × Addr × Value)} (r : KN kas xs) (k : NestedKey) {b : Addr} {y : V} {u : Value} (ry : RelV y u) : KN (putN kas k b y) (storedH xs k b u) := by
  have e : (kas.any fun x => decide (x.1 = k)) = (atKey xs k).isSome := by
    have h := (kn_val r k).isSome_eq
    rw [Option.isSome_map] at h
    rw [← h, ← valV_any, List.any_map]
    rfl
  unfold putN storedH
  rw [e]
  by_cases q : (atKey xs k).isSome = true
  · rw [if_pos q, if_pos q]
    clear e q
    induction r with
    | nil => exact .nil
    | @cons p q ps qs h t ih =>
      rw [List.map_cons, List.map_cons]
      refine .cons ?_ ih
      obtain ⟨h1, h2, h3⟩ := h
      unfold putAt
      by_cases e : p.1 = k
      · rw [if_pos e, if_pos (h1.symm.trans e)]; exact ⟨h1, h2, ry⟩
      · rw [if_neg e, if_neg (fun z => e (h1.trans z))]; exact ⟨h1, h2, h3⟩
  · rw [if_neg q, if_neg q]
    exact Paired.snoc r ⟨rfl, rfl, ry⟩
section
variable {X : Cx} {pins : List (Addr × Obj)} {σ : St} {H : Hp} {s : Shared} {a : Addr} {y v : V} {u r : Value} {A : Around} {E : Value → Shared → Prop} {kvs : List (NestedKey × V)} {ks : List NestedKey}
theorem IsN.at_ (I : Inv X pins σ H s) (g : IsN X.prog X.w H a kvs) : ∃ (kas : List (NestedKey × Addr × V)) (xs : List (NestedKey × Addr × Value)), H a = some (DN X.prog X.w a kas) ∧ (∀ x ∈ kas, NkIs H x.1 (.ref x.2.1) ∧ x.1.depth ≤ 8) ∧ kas.map (fun x => (x.1, x.2.2)) = kvs ∧ kas.length ≤ sizeLine ∧ (a == sysModules) = false ∧ KN kas xs ∧ s.heap.DictOfH (nestedKind X.prog X.w) a xs := by
  obtain ⟨kas, h1, h2, h3⟩ := g
  obtain ⟨⟨z, hd, xs, rel, o, es, ep, ho, g1, g2, g3, g4⟩, _⟩ := (show ObjOk X.prog X.w H s.heap a (DN X.prog X.w a kas) from I.hok a _ h1)
  refine ⟨kas, xs, h1, h2, h3, z, hd, rel, o, es, ep, ho, g1, g2, g3, fun x hx => ?_, g4⟩
  obtain ⟨i, hi⟩ := List.mem_iff_getElem?.mp hx
  obtain ⟨p, hp, e1, e2, _⟩ := DX.pget rel hi
  obtain ⟨q1, q2⟩ := h2 p (List.mem_of_getElem? hp)
  rw [e1, e2] at q1
  rw [e1] at q2
  exact ⟨NkIs.to I.hok _ _ _ q1 rfl, q2⟩
theorem n_room (hu : A.units + 64 < cLine) : (nestedKind X.prog X.w).room A.in1 := by
  show A.in1.units + 8 < cLine
  rw [Around.in1_units]
  omega
theorem n_getItem {Q : Value → Shared → Prop} (hu : A.units + 64 < cLine) (I : Inv X pins σ H s) (g : IsN X.prog X.w H a kvs) (hk : NkIs H (.tup ks) y) (hdp : (NestedKey.tup ks).depth ≤ 8) (hv : valV kvs (.tup ks) = some v) (ry : RelV y u) (h : ∀ w' s', Inv X pins σ H s' → RelV v w' → Q w' s') :
    wpAny (model X.prog X.w) A (getItem (.ref a) u) Q E s := by
  obtain ⟨kas, xs, h1, h2, h3, z, hd, rel, dd⟩ := g.at_ I
  obtain ⟨b, rfl⟩ := hk.ref
  cases (show u = Value.ref b from ry)
  obtain ⟨w', hw, rw'⟩ := RelO.some_of (v := v) (o := (atKey xs (.tup ks)).map (·.2)) (by rw [← hv, ← h3]; exact kn_val rel _)
  obtain ⟨p, hp, hp2⟩ := Option.map_eq_some_iff.mp hw
  refine wpAny_getItem_heap (n_room hu) ⟨NkIs.to I.hok _ _ _ hk rfl, hdp⟩ dd hp ?_
  rw [hp2]
  exact h w' _ (I.tok _) rw'
theorem n_in {Q : Value → Shared → Prop} (hu : A.units + 64 < cLine) (I : Inv X pins σ H s) (g : IsN X.prog X.w H a kvs) (hk : NkIs H (.tup ks) y) (hdp : (NestedKey.tup ks).depth ≤ 8) (ry : RelV y u) (h : ∀ s', Inv X pins σ H s' → Q (.bool (valV kvs (.tup ks)).isSome) s') :
    wpAny (model X.prog X.w) A (compareOp .In u (.ref a)) Q E s := by
  obtain ⟨kas, xs, h1, h2, h3, z, hd, rel, dd⟩ := g.at_ I
  obtain ⟨b, rfl⟩ := hk.ref
  cases (show u = Value.ref b from ry)
  refine wpAny_in_heap (n_room hu) ⟨NkIs.to I.hok _ _ _ hk rfl, hdp⟩ hd dd ?_
  have q := (kn_val rel (.tup ks)).isSome_eq
  rw [Option.isSome_map, h3] at q
  rw [← q]
  exact h _ (I.tok _)
theorem n_notIn {Q : Value → Shared → Prop} (hu : A.units + 64 < cLine) (I : Inv X pins σ H s) (g : IsN X.prog X.w H a kvs) (hk : NkIs H (.tup ks) y) (hdp : (NestedKey.tup ks).depth ≤ 8) (ry : RelV y u) (h : ∀ s', Inv X pins σ H s' → Q (.bool (!(valV kvs (.tup ks)).isSome)) s') :
    wpAny (model X.prog X.w) A (compareOp .NotIn u (.ref a)) Q E s := by
  obtain ⟨kas, xs, h1, h2, h3, z, hd, rel, dd⟩ := g.at_ I
  obtain ⟨b, rfl⟩ := hk.ref
  cases (show u = Value.ref b from ry)
  refine wpAny_notIn_heap (n_room hu) ⟨NkIs.to I.hok _ _ _ hk rfl, hdp⟩ hd dd ?_
  have q := (kn_val rel (.tup ks)).isSome_eq
  rw [Option.isSome_map, h3] at q
  rw [← q]
  exact h _ (I.tok _)
/-- what is left where the dict at a is changed alone -/
def ButN (a : Addr) (H H' : Hp) : Prop := ∀ b, b ≠ a → H' b = H b
theorem IsN.tups {P : Program} {w : World} {H H' : Hp} {a : Addr} {kvs : List (NestedKey × V)} (g : IsN P w H a kvs) (e : ButN a H H') : ∀ b xs, H b = some (.tup xs) → H' b = some (.tup xs) := fun b xs z => by
  obtain ⟨kas, h1, _⟩ := g
  rw [e b (ne_of z h1 (fun q => nomatch q))]
  exact z
theorem n_write {h' : Heap} {t' : Nat} {b : Addr} {v : V} {r : Value} {kas : List (NestedKey × Addr × V)} {xs : List (NestedKey × Addr × Value)} (I : Inv X pins σ H s) (h1 : H a = some (DN X.prog X.w a kas)) (h2 : ∀ x ∈ kas, NkIs H x.1 (.ref x.2.1) ∧ x.1.depth ≤ 8) (h3 : kas.map (fun x => (x.1, x.2.2)) = kvs) (hl : kvs.length < sizeLine) (hd : (a == sysModules) = false) (rel : KN kas xs) (hk : NkIs H (.tup ks) (.ref b)) (hdp : (NestedKey.tup ks).depth ≤ 8) (rv : RelV v r)
    (dd' : h'.DictOfH (nestedKind X.prog X.w) a (storedH xs (.tup ks) b r)) (hs : Heap.SameBut a s.heap h') : ∃ H', ButN a H H' ∧ IsN X.prog X.w H' a (putK kvs (.tup ks) v) ∧ Inv X pins σ H' { s with heap := h', toks := t' } := by
  obtain ⟨q, es, ep, hq, g2, g3, g4, _, g5⟩ := dd'
  have hl2 : (putN kas (.tup ks) b v).length ≤ sizeLine := by
    have e := congrArg List.length (putN_map kas (.tup ks) b v)
    rw [List.length_map] at e
    have := length_putK (kas.map fun x => (x.1, x.2.2)) (.tup ks) v
    rw [h3] at this e
    omega
  have g : IsN X.prog X.w H a kvs := ⟨kas, h1, h2, h3⟩
  have bn : ButN a H (upd H a (DN X.prog X.w a (putN kas (.tup ks) b v))) := fun b n => upd_ne n
  have tt := g.tups bn
  refine ⟨upd H a (DN X.prog X.w a (putN kas (.tup ks) b v)), bn, ⟨_, upd_same, fun x hx => ?_, by rw [putN_map, h3]⟩, d_write I (by rw [h1]; exact True.intro) hs ⟨q, hq⟩ (dn_new hl2 hd (kn_put rel _ rv) ⟨q, es, ep, hq, g2, g3, g4, g5⟩)⟩
  rcases putN_mem hx with ⟨y, hy, e1, e2⟩ | ⟨e1, e2⟩
  · rw [← e1, ← e2]
    exact ⟨NkIs.tt tt _ _ (h2 y hy).1, (h2 y hy).2⟩
  · rw [e1, e2]
    exact ⟨NkIs.tt tt _ _ hk, hdp⟩
theorem n_setItem {Q : Unit → Shared → Prop} (hu : A.units + 64 < cLine) (I : Inv X pins σ H s) (g : IsN X.prog X.w H a kvs) (hk : NkIs H (.tup ks) y) (hdp : (NestedKey.tup ks).depth ≤ 8) (hl : kvs.length < sizeLine) (ry : RelV y u) (rv : RelV v r)
    (h : ∀ H' s', ButN a H H' → IsN X.prog X.w H' a (putK kvs (.tup ks) v) → Inv X pins σ H' s' → Q () s') : wpAny (model X.prog X.w) A (setItem (.ref a) u r) Q E s := by
  obtain ⟨kas, xs, h1, h2, h3, z, hd, rel, dd⟩ := g.at_ I
  obtain ⟨b, rfl⟩ := hk.ref
  cases (show u = Value.ref b from ry)
  refine wpAny_setItem_heap (hsz := by rw [← Paired.length rel]; exact z) (n_room hu) ⟨NkIs.to I.hok _ _ _ hk rfl, hdp⟩ dd fun h' dd' hs => ?_
  obtain ⟨H', b1, b2, I'⟩ := n_write I h1 h2 h3 hl hd rel hk hdp rv dd' hs
  exact h H' _ b1 b2 I'
theorem n_setd {Q : Value → Shared → Prop} (hu : A.units + 64 < cLine) (I : Inv X pins σ H s) (g : IsN X.prog X.w H a kvs) (hk : NkIs H (.tup ks) y) (hdp : (NestedKey.tup ks).depth ≤ 8) (hl : kvs.length < sizeLine) (ry : RelV y u) (rv : RelV v r)
    (h1 : ∀ x, valV kvs (.tup ks) = some x → ∀ (w' : Value) (s' : Shared), Inv X pins σ H s' → RelV x w' → Q w' s') (h2 : valV kvs (.tup ks) = none → ∀ H' (w' : Value) (s' : Shared), ButN a H H' → IsN X.prog X.w H' a (putK kvs (.tup ks) v) → Inv X pins σ H' s' → RelV v w' → Q w' s') :
    wpAny (model X.prog X.w) A (call (.builtin "dict.setdefault") [.ref a, u, r]) Q E s := by
  obtain ⟨kas, xs, g1, g2, g3, z, hd, rel, dd⟩ := g.at_ I
  obtain ⟨b, rfl⟩ := hk.ref
  cases (show u = Value.ref b from ry)
  have q := kn_val rel (.tup ks)
  rw [g3] at q
  refine call_setdefault_heap (hsz := by rw [← Paired.length rel]; exact z) (n_room (A := A) hu) ⟨NkIs.to I.hok _ _ _ hk rfl, hdp⟩ hd dd (fun p hp => ?_) fun hn h' dd' hs => ?_
  · rw [hp] at q
    cases q0 : valV kvs (.tup ks) with
    | none =>
      rw [q0] at q
      exact (show False from q).elim
    | some v0 =>
      rw [q0] at q
      exact h1 v0 q0 _ _ (I.tok _) q
  · rw [hn] at q
    cases q0 : valV kvs (.tup ks) with
    | some v0 =>
      rw [q0] at q
      exact (show False from q).elim
    | none =>
      obtain ⟨H', b1, b2, I'⟩ := n_write I g1 g2 g3 hl hd rel hk hdp rv dd' hs
      exact h2 q0 H' _ _ b1 b2 I' rv
end
end L2
set_option Elab.async false
set_option linter.all false
set_option maxRecDepth 100001
set_option maxHeartbeats 3999999
/-! Rules for dicts keyed by nested tuples. -/
namespace L2
open PySem.Spec PySem PyProof.Rows
theorem isN_typeIs {X : Cx} {pins : List (Addr × Obj)} {σ : St} {H : Hp} {s : Shared} {a : Addr} {kvs : List (NestedKey × V)} (I : Inv X pins σ H s) (g : IsN X.prog X.w H a kvs) : s.TypeIs (.ref a) "dict" := by
  obtain ⟨kas, xs, _, _, _, _, _, _, dd⟩ := g.at_ I
  exact dd.typeIs
theorem isN_noDict {X : Cx} {pins : List (Addr × Obj)} {σ : St} {H : Hp} {s : Shared} {a : Addr} {kvs : List (NestedKey × V)} (I : Inv X pins σ H s) (g : IsN X.prog X.w H a kvs) : ∀ b, Value.ref a = .ref b → ∃ ob, s.heap.get? b = some ob ∧ ob.dict = none := fun b q => by
  cases q
  obtain ⟨kas, xs, _, _, _, _, _, _, ob, _, _, h1, h2, _⟩ := g.at_ I
  exact ⟨ob, h1, h2.2.1⟩
def tNGet (P : Program) (w : World) (td ty : TE) : TE := fun σ H Q => td σ H fun x H1 => ty σ H1 fun y H2 => ∃ a kvs ks v, x = .ref a ∧ IsN P w H2 a kvs ∧ NkIs H2 (.tup ks) y ∧ (NestedKey.tup ks).depth ≤ 8 ∧ valV kvs (.tup ks) = some v ∧ Q v H2
def tNIn (P : Program) (w : World) (ty td : TE) : TE := fun σ H Q => ty σ H fun y H1 => td σ H1 fun x H2 => ∃ a kvs ks, x = .ref a ∧ IsN P w H2 a kvs ∧ NkIs H2 (.tup ks) y ∧ (NestedKey.tup ks).depth ≤ 8 ∧ Q (.bl (valV kvs (.tup ks)).isSome) H2
def tNNotIn (P : Program) (w : World) (ty td : TE) : TE := fun σ H Q => ty σ H fun y H1 => td σ H1 fun x H2 => ∃ a kvs ks, x = .ref a ∧ IsN P w H2 a kvs ∧ NkIs H2 (.tup ks) y ∧ (NestedKey.tup ks).depth ≤ 8 ∧ Q (.bl (!(valV kvs (.tup ks)).isSome)) H2
def sNPut (P : Program) (w : World) (td ty tv : TE) : TS := fun D σ H => tv σ H fun v H1 => td σ H1 fun x H2 => ty σ H2 fun y H3 => ∃ a kvs ks, x = .ref a ∧ IsN P w H3 a kvs ∧ NkIs H3 (.tup ks) y ∧ (NestedKey.tup ks).depth ≤ 8 ∧ kvs.length < sizeLine ∧ ∀ H4, ButN a H3 H4 → IsN P w H4 a (putK kvs (.tup ks) v) → D.nx σ H4
def tNSetd (P : Program) (w : World) (td ty tx : TE) : TE := fun σ H Q => td σ H fun x H1 => ∃ a, x = .ref a ∧ (∃ kvs, IsN P w H1 a kvs) ∧ ty σ H1 fun y H2 => tx σ H2 fun z H3 => ∃ kvs ks, IsN P w H3 a kvs ∧ NkIs H3 (.tup ks) y ∧ (NestedKey.tup ks).depth ≤ 8 ∧ kvs.length < sizeLine ∧
  (∀ v, valV kvs (.tup ks) = some v → Q v H3) ∧ (valV kvs (.tup ks) = none → ∀ H4, ButN a H3 H4 → IsN P w H4 a (putK kvs (.tup ks) z) → Q z H4)
section
variable {X : Cx} {o i e f value : Expr} {pos pos' tpos apos cpos : Pos} {td ty tv tx : TE}
theorem pe_nget (hu : X.A.units + 64 < cLine) (ho : PE X o td) (hi : PE X i ty) (hs : NoSl i) : PE X (.Subscript o i pos) (tNGet X.prog X.w td ty) := by
  refine ⟨fun pins s σ H Q I h => ?_⟩
  refine subD_of PySem.F.slot_dict_getitem.lookup hs (thn (ho.run pins s σ H _ I h) fun u s1 ⟨x, H1, I1, rx, q1⟩ => thn (hi.run pins s1 σ H1 _ I1 q1) fun iv s2 ⟨y, H2, I2, ry, a, kvs, ks, v, ex, g, hk, hdp, hv, q2⟩ => ?_)
  subst ex
  obtain rfl : u = Value.ref a := rx
  exact ⟨isN_typeIs I2 g, n_getItem hu I2 g hk hdp hv ry fun w' s3 I3 rw' => ⟨v, H2, I3, rw', q2⟩⟩
theorem pc_nin (hu : X.A.units + 64 < cLine) (hi : PE X i ty) (ho : PE X o td) : PC X .In i o (tNIn X.prog X.w ty td) := by
  refine ⟨fun pins s σ H Q I h => ?_⟩
  refine thn (hi.run pins s σ H _ I h) fun iv s1 ⟨y, H1, I1, ry, q1⟩ => thn (ho.run pins s1 σ H1 _ I1 q1) fun u s2 ⟨x, H2, I2, rx, a, kvs, ks, ex, g, hk, hdp, q2⟩ => ?_
  subst ex
  obtain rfl : u = Value.ref a := rx
  exact n_in hu I2 g hk hdp ry fun s3 I3 => ⟨.bl (valV kvs (.tup ks)).isSome, H2, I3, rfl, q2⟩
theorem pc_nnotin (hu : X.A.units + 64 < cLine) (hi : PE X i ty) (ho : PE X o td) : PC X .NotIn i o (tNNotIn X.prog X.w ty td) := by
  refine ⟨fun pins s σ H Q I h => ?_⟩
  refine thn (hi.run pins s σ H _ I h) fun iv s1 ⟨y, H1, I1, ry, q1⟩ => thn (ho.run pins s1 σ H1 _ I1 q1) fun u s2 ⟨x, H2, I2, rx, a, kvs, ks, ex, g, hk, hdp, q2⟩ => ?_
  subst ex
  obtain rfl : u = Value.ref a := rx
  exact n_notIn hu I2 g hk hdp ry fun s3 I3 => ⟨.bl (!(valV kvs (.tup ks)).isSome), H2, I3, rfl, q2⟩
theorem ps_nput (hu : X.A.units + 64 < cLine) (ho : PE X o td) (hi : PE X i ty) (hv : PE X value tv) (hs : swapsWith value (some (.Subscript o i pos')) pos.line X.env = pure false) :
    PS X (.Assign [.Subscript o i pos'] value pos) (sNPut X.prog X.w td ty tv) := by
  refine ⟨fun pins s σ H D I h => ?_⟩
  refine wpAny_Assign_Subscript (thn (hv.run pins s σ H _ I h) fun r s1 ⟨v, H1, I1, rv, q1⟩ => thn (ho.run pins s1 σ H1 _ I1 q1) fun u s2 ⟨x, H2, I2, rx, q2⟩ => thn (hi.run pins s2 σ H2 _ I2 q2) fun iv s3 ⟨y, H3, I3, ry, a, kvs, ks, ex, g, hk, hdp, hl, q3⟩ => ?_) hs
  subst ex
  obtain rfl : u = Value.ref a := rx
  exact n_setItem hu I3 g hk hdp hl ry rv fun H4 s4 b1 b2 I4 => ⟨σ, H4, I4, q3 H4 b1 b2⟩
theorem pe_nsetd (hu : X.A.units + 64 < cLine) (ho : PE X o td) (he : PE X e ty) (hf : PE X f tx) (m : M2 X o "setdefault" apos e f cpos) : PE X (.Call (.Attribute o "setdefault" apos) [e, f] [] cpos) (tNSetd X.prog X.w td ty tx) := by
  refine ⟨fun pins s σ H Q I h => ?_⟩
  refine wpAny_Call_method m.base m.few m.line PySem.F.plainAttrs_dict PySem.F.slot_dict_setdefault PySem.F.type_dict_setdefault (thn (ho.run pins s σ H _ I h) fun u s1 ⟨x, H1, I1, rx, a, ex, ⟨kvs0, g0⟩, q1⟩ => ?_)
  subst ex
  obtain rfl : u = Value.ref a := rx
  refine ⟨isN_typeIs I1 g0, isN_noDict I1 g0, ?_⟩
  rw [m.trees]
  refine Calls.callWith_builtin rfl (Calls.evalArgs_plain (Calls.spliced_cons (thn (he.run pins s1 σ H1 _ I1 q1) fun iv s2 ⟨y, H2, I2, ry, q2⟩ =>
    Calls.spliced_cons (thn (hf.run pins s2 σ H2 _ I2 q2) fun fv s3 ⟨z, H3, I3, rz, kvs, ks, g, hk, hdp, hl, q3, q4⟩ => Calls.spliced_nil ?_))))
  exact n_setd hu I3 g hk hdp hl ry rz (fun v hv w' s4 I4 rw' => ⟨v, _, I4, rw', q3 v hv⟩) fun hn H4 w' s4 b1 b2 I4 rw' => ⟨z, H4, I4, rw', q4 hn H4 b1 b2⟩
theorem dn_empty {P : Program} {w : World} {H : Hp} (h : Heap) (hb : sysModules < h.objs.size) : ObjOk P w H (h.push { cls := .type "dict", data := .dict #[] }) h.objs.size (DN P w h.objs.size []) :=
  dn_new (Nat.zero_le _) (beq_eq_false_iff_ne.mpr (Ne.symm (Nat.ne_of_lt hb))) (xs := []) .nil ⟨_, #[], 0, Heap.get?_push_size _ rfl, ⟨rfl, rfl, rfl⟩, rfl, rfl, List.nodup_nil⟩
/-- {}, to be keyed by nested tuples -/
def tDNewN (P : Program) (w : World) : TE := fun _ H Q => ∀ p, H p = none → Q (.ref p) (upd H p (DN P w p []))
theorem pe_dnewN : PE X (.Dict [] [] pos) (tDNewN X.prog X.w) := ⟨fun pins s σ H Q I h =>
  wpAny_Dict_empty ⟨.ref s.heap.objs.size, _, I.laid (a := s.heap.objs.size) (o := DN X.prog X.w s.heap.objs.size []) (t' := s.toks) (fun _ _ q => Heap.get?_push_of_some _ q) (Nat.le_refl _) (dn_empty s.heap I.big), rfl, h _ (I.hok.fresh (Nat.le_refl _))⟩⟩
/-- {k: v} with a nested tuple as its key -/
def tDispN1 (P : Program) (w : World) (tk tv : TE) : TE := fun σ H Q => ∀ p, H p = none → tk σ (upd H p (DN P w p [])) fun x H1 => tv σ H1 fun y H2 => ∃ ks, IsN P w H2 p [] ∧ NkIs H2 (.tup ks) x ∧ (NestedKey.tup ks).depth ≤ 8 ∧ ∀ H3, ButN p H2 H3 → IsN P w H3 p [(.tup ks, y)] → Q (.ref p) H3
theorem pe_dispN1 {k v : Expr} {tk tv : TE} (hu : X.A.units + 64 < cLine) (hk : PE X k tk) (hv : PE X v tv) : PE X (.Dict [some k] [v] pos) (tDispN1 X.prog X.w tk tv) := by
  refine ⟨fun pins s σ H Q I q => ?_⟩
  have hn := I.hok.fresh (Nat.le_refl s.heap.objs.size)
  have I1 := I.laid (a := s.heap.objs.size) (o := DN X.prog X.w s.heap.objs.size []) (h' := s.heap.push { cls := .type "dict", data := .dict #[] }) (t' := s.toks) (fun _ _ q => Heap.get?_push_of_some _ q) (Nat.le_refl _) (dn_empty s.heap I.big)
  rw [arm_eval_Dict, zip_pairTrees [some k] [v] X.env pos rfl rfl, dictDisplay_pairs _ (by simp [pairTrees]) (by simp [pairTrees])]
  refine wpAny_bind (wpAny_standAt (wpAny_bind (wpAny_subDictH (knd := nestedKind X.prog X.w) (show X.A.units + 8 < cLine by omega) (by simp [pairTrees]) ?_)))
  refine pairTrees_cons_walk (thn (hk.run pins _ σ _ _ I1 (q _ hn)) fun u s1 ⟨x, H1, I1, rx, q1⟩ => thn (hv.run pins s1 σ H1 _ I1 q1) fun w2 s2 ⟨y, H2, I2, ry, ks, g, hk, hdp, q2⟩ => pairTrees_nil_walk ?_)
  obtain ⟨b, rfl⟩ := hk.ref
  cases (show u = Value.ref b from rx)
  obtain ⟨kas, xs, g1, g2, g3, z, hd, rel, dd⟩ := g.at_ I2
  have ek : kas = [] := List.map_eq_nil_iff.mp g3
  subst ek
  cases rel
  refine ⟨[(.tup ks, b, w2)], ⟨rfl, rfl, ⟨NkIs.to I2.hok _ _ _ hk rfl, hdp⟩, trivial⟩, dd, fun h' tk dd' hs => wpAny_pure ?_⟩
  obtain ⟨H', b1, b2, I'⟩ := n_write (t' := tk) I2 g1 g2 g3 (by rw [sizeLine_eq]; simp) hd .nil hk hdp ry (show h'.DictOfH (nestedKind X.prog X.w) _ (storedH [] (.tup ks) b w2) from dd') hs
  exact ⟨.ref s.heap.objs.size, H', I', rfl, q2 H' b1 b2⟩
end
/-! ### list(d.values()) -/
section
variable {prog : Program} {w : World} {r d : Addr} {K : Type} [DecidableEq K] {knd : HeapKind prog w K} {xs : List (K × Addr × Value)}
open PySem.W in
theorem kdl_valuesH {es : Array DictEntry} {ep : Nat} (hs : es.size = xs.length) (hx : ∀ i (hi : i < es.size), ∃ y, xs[i]? = some y ∧ es[i].key = .ref y.2.1 ∧ es[i].val = y.2.2) :
    KdlSrc prog w "dict_values" r d xs.length (fun i v => ∃ y, xs[i]? = some y ∧ v = y.2.2) (fun h => h.IsValuesView r d ∧ h.DictRaw d es ep) where
  type := fun _ hm => hm.1.typeIs
  there := fun _ hm => ⟨let ⟨_, ho, _⟩ := hm.1; Heap.lt_size ho, let ⟨_, ho, _⟩ := hm.2; Heap.lt_size ho⟩
  keep := fun _ _ hm hk => ⟨let ⟨o, ho, x⟩ := hm.1; ⟨o, hk r (.inl rfl) o ho, x⟩, hm.2.at fun o e => hk d (.inr rfl) o e⟩
  notList := by decide
  notTuple := by decide
  hint := fun _ _ _ _ hm hq => kdl_hint_values hm.1.typeIs hq
  iter := fun _ _ hh hm => by
    rw [← hs]
    exact ⟨_, _, (fun _ _ hq => wpAny_pyIter_values_raw hm.1 hm.2 hq), Walks.valuesH hh _ d (Nat.ne_of_lt (let ⟨_, ho, _⟩ := hm.2; Heap.lt_size ho)) es ep hx, ⟨⟨_, Heap.get?_push_size _ rfl, rfl, rfl⟩, hm.2.at fun o e => Heap.get?_push_of_some _ e⟩⟩
end
/-- list(d.values()) -/
def tListVN (P : Program) (w : World) (te : TE) : TE := fun σ H Q => te σ H fun x H1 => ∃ (d : Addr) (kvs : List (NestedKey × V)), x = .ref d ∧ IsN P w H1 d kvs ∧ ∀ l, H1 l = none → Q (.ref l) (upd H1 l (.lst (kvs.map (·.2))))
theorem kn_snds : ∀ {xs : List (NestedKey × Addr × V)} {ys : List (NestedKey × Addr × Value)}, KN xs ys → Vals (xs.map (·.2.2)) (ys.map (·.2.2))
  | _, _, .nil => .nil
  | _, _, .cons h t => .cons h.2.2 (kn_snds t)
section
variable {X : Cx} {e : Expr}
theorem pe_listValuesN {te : TE} {p apos cpos pos : Pos} (hc : X.calm = true) (he : PE X e te) (hg : Gl X "list") (hm : X.mg "list" = none) (hv : bootBuiltins "list" = some (.type "list") := by decide +kernel) (hbase : attributeBase e "values" X.env (eval e X.env) = eval e X.env := by rfl) (hline : (apos.endLine == cpos.line) = true := by rfl)
    (hs : starEach [.Call (.Attribute e "values" apos) [] [] cpos] X.env = (false, eval (.Call (.Attribute e "values" apos) [] [] cpos) X.env) :: starEach [] X.env := by rfl) :
    PE X (.Call (.Name "list" p) [.Call (.Attribute e "values" apos) [] [] cpos] [] pos) (tListVN X.prog X.w te) := by
  constructor
  intro pins s σ H Q I hq
  refine wpAny_Call_Name_kw (ld_blt I hg hm hv (PyProof.Rows.callWith_type1 ?_ hs rfl))
  rw [hs]
  show wpAny _ _ (spliced ((false, eval (.Call (.Attribute e "values" apos) [] [] cpos) X.env) :: backTo pos (starEach [] X.env))) _ _ s
  refine Calls.spliced_cons (wpAny_Call_method (T := "dict") (id := "dict.values") hbase rfl hline F.plainAttrs_dict F.slot_dict_values F.type_dict_values (thn (he.run pins s σ H _ I hq) fun u s1 hh => ?_))
  obtain ⟨x, H1, I1, rx, d, kvs, ex, hd, q⟩ := hh
  subst ex
  cases (show u = Value.ref d from rx)
  obtain ⟨kas, xs, g1, g2, g3, z, hs0, rel, dd⟩ := hd.at_ I1
  obtain ⟨es, ep, hraw, hsz, hxs⟩ := dd.raw
  have lk : kas.length = xs.length := Paired.length rel
  have I2 : Inv X pins σ H1 { s1 with heap := s1.heap.push { cls := .type "dict_values", data := .fields #[.ref d] } } := I1.kept (t' := s1.toks) fun b ob z => Heap.get?_push_of_some _ z
  refine ⟨dd.typeIs, isN_noDict I1 hd, ?_⟩
  show wpAny _ _ (callWith cpos (.builtin "dict.values") [.ref d] [] []) _ X.xe s1
  refine method_meetsIn F.slot_dict_values F.entry_dict_values rfl (PySem.evalArgs_none ⟨rfl, dd.typeIs, F.args_dict_values_1 _, _, PySem.meets_dict_values_raw d hs0, ⟨es, ep, hraw⟩, ?_⟩)
  refine Calls.spliced_nil ?_
  refine PySem.W.kdl_call (kdl_valuesH (prog := X.prog) (w := X.w) (xs := xs) (es := es) (ep := ep) hsz fun i hi => let ⟨y, h1, h2, h3, _⟩ := hxs i hi; ⟨y, h1, h2, h3⟩) (I1.ok.hd hc) ⟨⟨_, Heap.get?_push_size _ rfl, rfl, rfl⟩, hraw.at fun o e => Heap.get?_push_of_some _ e⟩ (by omega) fun h' tk acc c hk hS hacc => ?_
  have ev : acc.toList = xs.map (·.2.2) := by
    refine List.ext_getElem? fun j => ?_
    rw [List.getElem?_map]
    cases hj : acc.toList[j]? with
    | none =>
      have l1 := List.getElem?_eq_none_iff.mp hj
      rw [Array.length_toList, hacc.1] at l1
      rw [List.getElem?_eq_none l1]
      rfl
    | some v =>
      obtain ⟨y, hy, e⟩ := hacc.2 j v (by rw [← Array.getElem?_toList]; exact hj)
      rw [hy, e]
      rfl
  have nl : H1 (s1.heap.push { cls := .type "dict_values", data := .fields #[.ref d] }).objs.size = none := I2.hok.fresh (Nat.le_refl _)
  have ek : kvs.map (·.2) = kas.map (·.2.2) := by rw [← g3, List.map_map]; rfl
  refine ⟨.ref _, upd H1 _ (.lst (kvs.map (·.2))), I2.laid (t' := tk) hk (Nat.le_refl _) ⟨by rw [ek, List.length_map]; exact z, acc.toList, c, ?_, ?_⟩, rfl, q _ nl⟩
  · rw [ev, ek]
    exact kn_snds rel
  · rw [Array.toArray_toList]
    exact hS
end
end L2
set_option Elab.async false
set_option linter.all false
set_option maxRecDepth 100001
set_option maxHeartbeats 3999999
namespace K61
open PySem L2
/-! ### laid_out -/
theorem behind_ok3 {K : PySem.W.Frag} {σ : L2.St} {H : Hp} {Q : VK} {t : Addr} {rs : List V} {L : List Int} {i : Nat} (h0 : σ[0]? = some (some (.ref t))) (h1 : σ[1]? = some (some (.int (L.length : Nat)))) (h4 : σ[3]? = some (some (.int (i : Nat)))) (ht : H t = some (.tup rs)) (pr : PrAt H rs (rle L))
    (q : Q (.int (beh (rle L) (L.length : Nat) i)) H) : if decide (((i : Nat) : Int) + 1 < ((rs.length : Nat) : Int)) = true then tOp (rIxT K) (tOp (rIxT K) (tVar 0) (tOp (rI0 fun i j => V.int (i + j)) (tVar 3) (tC (.int 1)))) (tC (.int 0)) σ H Q else tVar 1 σ H Q := by
  have plen : rs.length = (rle L).length := Paired.length pr
  by_cases c : ((i : Nat) : Int) + 1 < ((rs.length : Nat) : Int)
  · rw [decide_eq_true c]
    have lt : i + 1 < rs.length := by omega
    obtain ⟨p, hp, x, ex, hx⟩ := paired_at pr (List.getElem?_eq_getElem lt)
    have hx2 : rs[i + 1]? = some (.ref x) := by rw [List.getElem?_eq_getElem lt, ex]
    have one : atI [V.int p.1, V.int p.2] 0 = some (V.int p.1) := rfl
    have eb : beh (rle L) (L.length : Nat) i = p.1 := by
      unfold beh
      rw [hp]
    rw [eb] at q
    exact iteT ⟨_, h0, _, h4, _, _, rfl, rfl, t, rs, _, .ref x, rfl, rfl, SqT.of ht, atI_nat (j := i + 1) hx2, x, _, _, _, rfl, rfl, SqT.of hx, one, q⟩
  · rw [decide_eq_false c]
    have eb : beh (rle L) (L.length : Nat) i = (L.length : Nat) := by
      unfold beh
      rw [List.getElem?_eq_none (by omega)]
    rw [eb] at q
    exact iteF ⟨_, h1, q⟩
abbrev sLo : Stmt := topS 3
abbrev NLo : List Str := ["row", "signs", "targets", "at", "first", "state", "behind"]
def spLo : L2.Sp := fun vs H Q _ => ∃ (t : Addr) (rs : List V) (L : List Int), vs = [.ref t, .int (L.length : Nat)] ∧ H t = some (.tup rs) ∧ PrAt H rs (rle L) ∧ L ≠ [] ∧ L.length ≤ 5000 ∧ ∀ r H', Same H H' → H r = none → H' r = some (.lst (L.map V.int)) → Q (.ref r) H'
section
variable {P : Program} {w : World} {K : PySem.W.Frag} {mg : Str → Option Value} {base : Heap}
theorem scLo : FnScope NLo ["row", "signs"] (defScope sLo) := ⟨rfl, rfl, rfl, by decide +kernel, rfl, by decide +kernel, by decide +kernel⟩
theorem ok_Lo {f : Addr} {fd : FuncData} (F : Fun K "laid_out" "laid_out" sLo f fd) (B : Bi mg) : FnOk P w K mg base CX0 1 f fd ["row", "signs"] spLo := by
  refine F.ok scLo (fun vs H Q E h => ?_) (fun cdv A outer s H vs Q E hr h => ?_)
  · obtain ⟨t, rs, L, rfl, _⟩ := h
    rfl
  · obtain ⟨t, rs, L, rfl, ht, pr, ne, len, q⟩ := h
    refine ⟨_, pss_cons (ps_set (i := 2) scLo.nd rfl (Or.inl rfl) (pe_lst pa_nil))
      (pss_cons (ps_for PassesOwn.never rfl (pi_enA B.enum (pa_cons (pv 0) pa_nil)) (pg_tup rfl (pgs_cons (pg_name (i := 3) scLo.nd rfl (Or.inl rfl)) (pgs_cons (pg_tup rfl (pgs_cons (pg_name (i := 4) scLo.nd rfl (Or.inl rfl)) (pgs_cons (pg_name (i := 5) scLo.nd rfl (Or.inl rfl)) pgs_nil))) pgs_nil)))
        (pss_cons (ps_set (i := 6) scLo.nd rfl (Or.inl rfl) (pe_ifExp (pt_cmpR op_lt (pe_op op_add (pv 3) pe_int) (pe_len B.len (pa_cons (pv 0) pa_nil)) (nomark _)) (pe_ix ix_tup (pe_ix ix_tup (pv 0) (pe_op op_add (pv 3) pe_int) (fun _ _ => rfl)) pe_int (fun _ _ => rfl)) (pv 1)))
        (pss_one (ps_expr (pe_bm PySem.F.plainAttrs_list PySem.F.slot_list_extend PySem.F.type_list_extend mt_extend (pv 2) (pa_cons (pe_op op_rep (pe_lst (pa_cons (pv 5) pa_nil)) (pe_op op_sub (pv 6) (pv 4))) pa_nil))))))
      (pss_one (ps_ret (pv 2)))), ?_⟩
    have P0 := rle_p L
    have plen : rs.length = (rle L).length := Paired.length pr
    have ne2 : rle L ≠ [] := P0.some_ ne
    have p0 : posn (rle L) (L.length : Nat) 0 = 0 := by
      unfold posn
      cases z : (rle L)[0]? with
      | none => exact absurd (List.getElem?_eq_none_iff.mp z) (by have := List.length_pos_iff.mpr ne2; omega)
      | some p => exact P0.zero p z
    have rl := rle_len L
    refine ⟨by show 0 ≤ sizeLine; decide, fun R nR => ?_⟩
    have e0 := same_new (o := .lst []) nR
    have g0 : upd H R (.lst []) R = some (.lst []) := upd_same
    generalize upd H R (.lst []) = H0 at e0 g0 ⊢
    refine gN ?_
    dsimp only
    refine ⟨_, rfl, t, rs, rfl, .inr (SqT.of (e0 _ _ ht)), fun J G wk hG => for_it wk (fun i σ H' => ∃ (a b c d : Option V), σ = [some (.ref t), some (.int (L.length : Nat)), some (.ref R), a, b, c, d] ∧ Same H H' ∧ H' R = some (.lst ((L.take (posn (rle L) (L.length : Nat) i).toNat).map V.int)))
      ⟨none, none, none, none, rfl, e0, by rw [p0]; exact g0⟩ (fun i σ H' _ ⟨_, _, _, _, _, e, _⟩ => hG H' fun o z => ?_) ?_ ?_⟩
    · have : o = .tup rs := Option.some.inj (z.symm.trans (e0 _ _ ht))
      rw [this]
      exact e _ _ ht
    · rintro i x σ H1 H2 hi ⟨a, b, c, d, rfl, e, hR⟩ ⟨T0, y, v, rfl, nT0, rfl, ey, hv⟩
      have ey : y = .int (i : Nat) := (Option.some.inj ey).symm
      subst ey
      obtain ⟨⟨f, st⟩, hp, x0, rfl, hx0⟩ := paired_at pr hv
      obtain ⟨a1, a2, a3, a4⟩ := P0.at_ i f st hp
      have ef : posn (rle L) (L.length : Nat) i = f := by
        unfold posn
        rw [hp]
      have eb : posn (rle L) (L.length : Nat) (i + 1) = beh (rle L) (L.length : Nat) i := rfl
      have tk := take_beh hp
      rw [ef] at hR
      have x1 := same_new (o := .tup [.int (i : Nat), .ref x0]) nT0
      have e2 := e.trans x1
      have hR2 := x1 _ _ hR
      have hT0 : upd H1 T0 (.tup [.int (i : Nat), .ref x0]) T0 = some (.tup [.int (i : Nat), .ref x0]) := upd_same
      generalize upd H1 T0 (.tup [.int (i : Nat), .ref x0]) = H2 at x1 e2 hR2 hT0 ⊢
      refine ⟨T0, _, rfl, SqT.of hT0, rfl, _, _, rfl, _, _, rfl, ⟨x0, _, rfl, SqT.of (e2 _ _ hx0), rfl, _, _, rfl, _, _, rfl, rfl, rfl, ?_⟩⟩
      refine ⟨_, rfl, _, _, rfl, rfl, _, rfl, t, rs, rfl, .inr (SqT.of (e2 _ _ ht)), _, _, rfl, rfl, _, rfl, ?_⟩
      refine behind_ok3 rfl rfl rfl (e2 _ _ ht) (pr.same e2) ?_
      refine gN ?_
      dsimp only
      refine ⟨_, rfl, .inl ⟨rfl, _, SqL.of hR2⟩, _, rfl, by show 1 ≤ sizeLine; decide, fun A nA => ?_⟩
      have x3 := same_new (o := .lst [.int st]) nA
      have hA : upd H2 A (.lst [.int st]) A = some (.lst [.int st]) := upd_same
      have e3 := e2.trans x3
      have hR3 := x3 _ _ hR2
      generalize upd H2 A (.lst [.int st]) = H3 at e3 hA hR3 ⊢
      refine ⟨_, rfl, _, rfl, _, _, rfl, rfl, A, _, _, rfl, rfl, hA, by omega, by omega, ?_, fun Z nZ => ?_⟩
      · show 1 * _ ≤ sizeLine
        exact Nat.le_of_lt (small10 (by omega))
      have er : (List.replicate (beh (rle L) (L.length : Nat) i - f).toNat [V.int st]).flatten = (List.replicate (beh (rle L) (L.length : Nat) i - f).toNat st).map V.int := by
        rw [List.map_replicate]
        generalize (beh (rle L) (L.length : Nat) i - f).toNat = k
        induction k with
        | zero => rfl
        | succ k ih =>
          rw [List.replicate_succ, List.flatten_cons, ih, List.replicate_succ]
          rfl
      rw [er]
      have x4 := same_new (o := .lst ((List.replicate (beh (rle L) (L.length : Nat) i - f).toNat st).map V.int)) nZ
      have hZ : upd H3 Z (.lst ((List.replicate (beh (rle L) (L.length : Nat) i - f).toNat st).map V.int)) Z = some (.lst ((List.replicate (beh (rle L) (L.length : Nat) i - f).toNat st).map V.int)) := upd_same
      have e4 := e3.trans x4
      have hR4 := x4 _ _ hR3
      generalize upd H3 Z (.lst ((List.replicate (beh (rle L) (L.length : Nat) i - f).toNat st).map V.int)) = H4 at e4 hZ hR4 ⊢
      refine ⟨R, Z, _, _, rfl, rfl, hR4, hZ, ?_, ?_⟩
      · rw [List.length_map, List.length_map, List.length_take, List.length_replicate]
        exact Nat.le_of_lt (small10 (by omega))
      · refine ⟨_, _, _, _, rfl, fun b o z => (upd_ne (ne_of_none z nR)).trans (e4 _ _ z), ?_⟩
        rw [upd_same, eb, tk, List.map_append]
    · rintro σ H1 ⟨a, b, c, d, rfl, e, hR⟩
      have pe : posn (rle L) (L.length : Nat) rs.length = (L.length : Nat) := by
        unfold posn
        rw [List.getElem?_eq_none (by omega)]
      rw [pe, Int.toNat_natCast, List.take_length] at hR
      exact ⟨_, rfl, q R H1 e nR hR⟩
end
end K61
set_option Elab.async false
set_option linter.all false
set_option maxRecDepth 100001
set_option maxHeartbeats 3999999
namespace K61
open PySem L2
/-! ### nodes_over -/
/-- whether all words that begin so are good -/
def ovB (ws : List W) (gd : Nat → Bool) (x : W) : Bool := (List.range ws.length).all fun o => !(x.isPrefixOf (ws.getD o [])) || gd o
theorem ovB_iff {ws : List W} {gd : Nat → Bool} {x : W} : ovB ws gd x = true ↔ ∀ o u, ws[o]? = some u → x <+: u → gd o = true := by
  unfold ovB
  rw [List.all_eq_true]
  constructor
  · intro h o u hu p
    have lo := (List.getElem?_eq_some_iff.mp hu).1
    have := h o (List.mem_range.mpr lo)
    rw [List.getD_eq_getElem?_getD, hu] at this
    have e : x.isPrefixOf ((some u).getD []) = true := List.isPrefixOf_iff_prefix.mpr p
    rw [e] at this
    exact this
  · intro h o ho
    have lo := List.mem_range.mp ho
    rw [Bool.or_eq_true]
    by_cases c : x.isPrefixOf (ws.getD o []) = true
    · refine .inr (h o _ (List.getElem?_eq_getElem lo) ?_)
      rw [List.getD_eq_getElem?_getD, List.getElem?_eq_getElem lo] at c
      exact List.isPrefixOf_iff_prefix.mp c
    · refine .inl ?_
      rw [Bool.not_eq_true] at c
      rw [c]
      rfl
theorem ovB_node {ws : List W} {gd : Nat → Bool} {x : W} (nw : x ∉ ws) : ovB ws gd x = (ovB ws gd (x ++ [false]) && ovB ws gd (x ++ [true])) := by
  rw [Bool.eq_iff_iff, Bool.and_eq_true, ovB_iff, ovB_iff, ovB_iff]
  constructor
  · exact fun h => ⟨fun o u hu p => h o u hu ((List.prefix_append _ _).trans p), fun o u hu p => h o u hu ((List.prefix_append _ _).trans p)⟩
  · rintro ⟨h0, h1⟩ o u hu ⟨r, rfl⟩
    cases r with
    | nil => exact absurd (List.mem_of_getElem? hu) (by rw [List.append_nil]; exact nw)
    | cons b r =>
      have e : x ++ b :: r = (x ++ [b]) ++ r := by rw [List.append_assoc]; rfl
      cases b with
      | false => exact h0 o _ hu (e ▸ List.prefix_append _ _)
      | true => exact h1 o _ hu (e ▸ List.prefix_append _ _)
theorem ovB_word {ws : List W} {gd : Nat → Bool} (pf : PF ws) {o : Nat} {x : W} (h : ws[o]? = some x) : ovB ws gd x = gd o := by
  rw [Bool.eq_iff_iff, ovB_iff]
  constructor
  · exact fun k => k o x h List.prefix_rfl
  · intro g j u hu p
    have := pf_at pf h hu p
    rw [← this]
    exact g
abbrev sNO : Stmt := inClass (topS 27) 4
abbrev NNO : List Str := ["self", "good", "every", "told", "node", "ends", "below", "behind"]
def gdV (n : Nat) (gd : Nat → Bool) : List V := (List.range n).map fun o => V.bl (gd o)
def spNO (CR : Addr) : L2.Sp := fun vs H Q _ => ∃ (p g dx a1 a2 a3 D : Addr) (ws nm : List W) (y2 y3 : List V) (kvs : List (Key × V)) (gd : Nat → Bool), vs = [.ref p, .ref g, .bl true] ∧ H p = some (.ins CR dx (putF "numbers" (.ref D) (trF a1 a2 a3))) ∧ H a1 = some (.lst (nm.map wV)) ∧ H a2 = some (.lst y2) ∧ H a3 = some (.lst y3) ∧ TrOk ws nm y2 y3 kvs ∧ PF ws ∧ H g = some (.lst (gdV ws.length gd)) ∧
  ∀ r H', Same H H' → H r = none → H' r = some (.lst (nm.map fun x => V.bl (ovB ws gd x))) → Q (.ref r) H'
section
variable {P : Program} {w : World} {K : PySem.W.Frag} {mg : Str → Option Value} {base : Heap}
theorem scNO : FnScope NNO ["self", "good", "every"] (defScope sNO) := ⟨rfl, rfl, rfl, by decide +kernel, rfl, by decide +kernel, by decide +kernel⟩
theorem ok_NO {f CR : Addr} {fd : FuncData} (F : Fun K "nodes_over" "Tree.nodes_over" sNO f fd) (B : Bi mg) (Z : Bs mg) (T : TxR K CR) : FnOk P w K mg base CX0 1 f fd ["self", "good", "every"] (spNO CR) := by
  refine F.ok scNO (fun vs H Q E h => ?_) (fun cdv A outer s H vs Q E hr h => ?_)
  · obtain ⟨p, g, dx, a1, a2, a3, D, ws, nm, y2, y3, kvs, gd, rfl, _⟩ := h
    rfl
  · obtain ⟨p, g, dx, a1, a2, a3, D, ws, nm, y2, y3, kvs, gd, rfl, hp, h1, h2, h3, TR, pf, hg, q⟩ := h
    refine ⟨_, pss_cons (ps_set (i := 3) scNO.nd rfl (Or.inr rfl) (pe_op op_rep (pe_lst (pa_cons pe_bl pa_nil)) (pe_len B.len (pa_cons (pe_fld (pv 0) rfl) pa_nil))))
      (pss_cons (ps_for PassesOwn.never rfl (pi_range3 rfl B.range (pa_cons (pe_op op_sub (pe_len B.len (pa_cons (pv 3) pa_nil)) pe_int) (pa_cons (pe_un un_neg pe_int) (pa_cons (pe_un un_neg pe_int) pa_nil)))) (pg_name (i := 4) scNO.nd rfl (Or.inl rfl))
        (pss_cons (ps_set (i := 5) scNO.nd rfl (Or.inl rfl) (pe_tup (pa_cons (pe_ix ix_list (pe_fld (pv 0) rfl) (pv 4) (fun _ _ => rfl)) (pa_cons (pe_ix ix_list (pe_fld (pv 0) rfl) (pv 4) (fun _ _ => rfl)) pa_nil))))
        (pss_cons (ps_setLc (i := 6) (own := [("behind", 7)]) rfl scNO.nd rfl rfl (sw_true rfl rfl rfl (by decide +kernel)) (pi_sqA (pv 5)) (blkOk_by (N := NNO) (sc := defScope sNO) (by decide +kernel)) (fun _ _ _ _ _ => (pg_name (i := 7) scNO.nd rfl (Or.inl rfl))) (fun _ _ _ _ _ => pts_nil) (fun _ _ _ _ _ => (pe_ifExp (pt_cmpR op_ge (pv 7) pe_int (nomark _)) (pe_ix (ix_listK K rfl) (pv 3) (pv 7) (fun _ _ => rfl)) (pe_ix (ix_listK K rfl) (pv 1) (pe_op op_sub (pe_un un_neg pe_int) (pv 7)) (fun _ _ => rfl)))))
        (pss_one (ps_asg (pe_ifExp (pt_val (pv 2)) (pe_all rfl Z.all (pa_cons (pv 6) pa_nil)) (pe_any rfl Z.any (pa_cons (pv 6) pa_nil))) (pg_sub (pv 3) (pv 4) set_list))))))
      (pss_one (ps_ret (pv 3)))), ?_⟩
    have few := TR.few
    have l2 := TR.l2
    have l3 := TR.l3
    refine ⟨by show 1 ≤ sizeLine; decide, fun A0 nA0 => ?_⟩
    have e0 := same_new (o := .lst [.bl false]) nA0
    have g0 : upd H A0 (.lst [.bl false]) A0 = some (.lst [.bl false]) := upd_same
    generalize upd H A0 (.lst [.bl false]) = H0 at e0 g0 ⊢
    refine ⟨_, rfl, p, CR, dx, _, _, rfl, e0 _ _ hp, T.cl, T.n, tn_names _ _ _ _, a1, _, rfl, .inl (SqL.of (e0 _ _ h1)), A0, _, _, rfl, rfl, g0, by omega, by rw [List.length_map]; omega, ?_, fun TD nTD => ?_⟩
    · rw [List.length_map]
      show 1 * _ ≤ sizeLine
      exact Nat.le_of_lt (small10 (by omega))
    have er : ∀ k : Nat, (List.replicate k [V.bl false]).flatten = List.replicate k (V.bl false) := fun k => by
      induction k with
      | zero => rfl
      | succ k ih =>
        rw [List.replicate_succ, List.flatten_cons, ih, List.replicate_succ]
        rfl
    rw [er, List.length_map, Int.toNat_natCast]
    have e1 := e0.trans (same_new (o := .lst (List.replicate nm.length (V.bl false))) nTD)
    have g1 : upd H0 TD (.lst (List.replicate nm.length (V.bl false))) TD = some (.lst (List.replicate nm.length (V.bl false))) := upd_same
    have nT := e0.free nTD
    generalize upd H0 TD (.lst (List.replicate nm.length (V.bl false))) = H1 at e1 g1 ⊢
    clear e0 g0 er
    refine gN ?_
    dsimp only
    refine ⟨_, rfl, TD, _, rfl, .inl (SqL.of g1), _, _, rfl, rfl, _, rfl, _, rfl, ?_⟩
    rw [List.length_replicate]
    refine ⟨_, _, _, _, rfl, RgC.neg (by omega) (by omega) (by omega) (by omega), for_rangeC (lo := ((nm.length : Nat) : Int) - 1) (c := -1) (n := _) (fun i σ H' => ∃ (o4 o5 o6 : Option V) (xs : List V), σ = [some (.ref p), some (.ref g), some (.bl true), some (.ref TD), o4, o5, o6, none] ∧ Same H H' ∧ H' TD = some (.lst xs) ∧ xs.length = nm.length ∧ ∀ j x, nm.length ≤ j + i → nm[j]? = some x → xs[j]? = some (.bl (ovB ws gd x)))
      ⟨none, none, none, _, rfl, e1, g1, List.length_replicate, fun j x lj hj => ?_⟩ ?_ ?_⟩
    · have := (List.getElem?_eq_some_iff.mp hj).1
      omega
    · rintro i σ H2 hi ⟨o4, o5, o6, xs, rfl, e2, g2, lx, ax⟩
      have hi : i < nm.length := by omega
      obtain ⟨k, ek⟩ : ∃ k : Nat, nm.length = i + k + 1 := ⟨nm.length - i - 1, by omega⟩
      have ei : ((nm.length : Nat) : Int) - 1 + ((i : Nat) : Int) * -1 = ((k : Nat) : Int) := by omega
      rw [ei]
      have lk : k < nm.length := by omega
      have hnk := List.getElem?_eq_getElem lk
      generalize nm[k] = x at hnk
      have nw : x ∉ ws := by
        obtain ⟨⟨o, v, n, e⟩, _⟩ := TR.dn k x hnk
        exact Nd.not pf ⟨o, v, n, e⟩
      obtain ⟨_, k0, k1⟩ := TR.dn k x hnk
      obtain ⟨c0, hc0, z0⟩ := k0.elim False.elim id
      obtain ⟨c1, hc1, z1⟩ := k1.elim False.elim id
      refine gN ?_
      dsimp only
      refine ⟨_, rfl, p, CR, dx, _, _, rfl, e2 _ _ hp, T.cl, T.z, tn_zeros _ _ _ _, _, rfl, a2, y2, _, c0, rfl, rfl, SqL.of (e2 _ _ h2), atI_nat hc0, ?_⟩
      refine ⟨_, rfl, p, CR, dx, _, _, rfl, e2 _ _ hp, T.cl, T.o, tn_ones _ _ _ _, _, rfl, a3, y3, _, c1, rfl, rfl, SqL.of (e2 _ _ h3), atI_nat hc1, by show 2 ≤ sizeLine; decide, fun T2 nT2 => ?_⟩
      have e3 := e2.trans (same_new (o := .tup [c0, c1]) nT2)
      have g3 := same_new (o := .tup [c0, c1]) nT2 _ _ g2
      have hT2 : upd H2 T2 (.tup [c0, c1]) T2 = some (.tup [c0, c1]) := upd_same
      generalize upd H2 T2 (.tup [c0, c1]) = H3 at e3 g3 hT2 ⊢
      refine gN ?_
      dsimp only
      refine ⟨_, rfl, T2, _, rfl, .inr (SqT.of hT2), fun J G wk hG KD nKD => lcM wk (fun i => V.bl (ovB ws gd (x ++ [decide (i = 1)]))) (by show 2 ≤ 10000; decide) nKD (fun H' e => hG H' fun o z => e _ _ z) ?_ ?_⟩
      · rintro i0 v0 H4 H5 N hi0 e4 ⟨rfl, hv0⟩ fin
        have hi0 : i0 < 2 := hi0
        have key : ∀ (c : V) (b : Bool), ((∃ j : Nat, c = .int (j : Nat) ∧ k < j ∧ nm[j]? = some (x ++ [b])) ∨ ∃ o : Nat, c = .int (-1 - ((o : Nat) : Int)) ∧ ws[o]? = some (x ++ [b])) → N (.bl (ovB ws gd (x ++ [b]))) H5 → tIf (tTest (tOp (rI0 fun i j => V.bl (decide (j ≤ i))) (tVar 7) (tC (V.int 0))))
          (tOp (rIxL K) (tVar 3) (tVar 7))
          (tOp (rIxL K) (tVar 1)
            (tOp (rI0 fun i j => V.int (i - j)) (tUn (rU fun i => V.int (-i)) (tC (V.int 1))) (tVar 7))) [some (.ref p), some (.ref g), some (.bl true), some (.ref TD), some (.int (k : Nat)), some (.ref T2), o6, some c] H5 N := by
          intro c b hc hN
          rcases hc with ⟨j, rfl, kj, hj⟩ | ⟨o, rfl, ho⟩
          · refine ⟨_, rfl, _, _, rfl, rfl, _, rfl, ?_⟩
            rw [decide_eq_true (show (0 : Int) ≤ ((j : Nat) : Int) by omega)]
            exact iteT ⟨_, rfl, _, rfl, TD, _, _, _, rfl, rfl, SqL.of (e4 _ _ g3), atI_nat (ax j _ (by omega) hj), hN⟩
          · refine ⟨_, rfl, _, _, rfl, rfl, _, rfl, ?_⟩
            rw [decide_eq_false (show ¬ (0 : Int) ≤ -1 - ((o : Nat) : Int) by omega)]
            refine iteF ⟨_, rfl, _, rfl, _, rfl, _, _, rfl, rfl, g, _, _, _, rfl, rfl, SqL.of (e4 _ _ (e3 _ _ hg)), ?_, hN⟩
            rw [show (-1 : Int) - (-1 - ((o : Nat) : Int)) = ((o : Nat) : Int) by omega]
            refine atI_nat ?_
            unfold gdV
            rw [List.getElem?_map, List.getElem?_range (List.getElem?_eq_some_iff.mp ho).1, ovB_word pf ho]
            rfl
        refine ⟨rfl, ?_⟩
        have fin := fin H5 (Same.refl _)
        match i0, hi0 with
        | 0, _ =>
          cases hv0
          exact key c0 false z0 fin
        | 1, _ =>
          cases hv0
          exact key c1 true z1 fin
      · intro H4 e4 hKD
        have e34 := e3.trans e4
        have g4 := e4 _ _ g3
        refine gN ?_
        dsimp only
        refine ⟨_, rfl, ?_⟩
        refine ⟨_, rfl, ?_⟩
        refine iteT ⟨_, rfl, KD, [ovB ws gd (x ++ [false]), ovB ws gd (x ++ [true])], rfl, SqL.of hKD, ?_⟩
        rw [show ([ovB ws gd (x ++ [false]), ovB ws gd (x ++ [true])].all id) = ovB ws gd x by rw [ovB_node nw]; simp]
        refine ⟨_, rfl, _, rfl, TD, xs, _, k, rfl, rfl, g4, ixn (by omega), ?_⟩
        refine ⟨_, _, _, xs.set k (.bl (ovB ws gd x)), rfl, fun b o z => (upd_ne (ne_of_none z nT)).trans (e34 _ _ z), upd_same, by rw [List.length_set]; exact lx, fun j y lj hj => ?_⟩
        by_cases c : j = k
        · subst c
          rw [hnk] at hj
          cases hj
          exact List.getElem?_set_self (by omega)
        · rw [List.getElem?_set_ne (fun z => c z.symm)]
          exact ax j y (by omega) hj
    · rintro σ H2 ⟨o4, o5, o6, xs, rfl, e2, g2, lx, ax⟩
      refine ⟨_, rfl, q TD H2 e2 nT ?_⟩
      rw [g2]
      refine congrArg (fun l => some (HO.lst l)) (List.ext_getElem? fun j => ?_)
      rw [List.getElem?_map]
      cases hj : nm[j]? with
      | none => exact List.getElem?_eq_none (by rw [lx]; exact List.getElem?_eq_none_iff.mp hj)
      | some x => exact ax j x (by omega) hj
end
end K61
set_option Elab.async false
set_option linter.all false
set_option maxRecDepth 100001
set_option maxHeartbeats 3999999
namespace K61
open PySem L2
/-! ### Soonest -/
theorem nd_len : ∀ (n : Nat) (l : List Int), l.Nodup → (∀ x ∈ l, 0 ≤ x ∧ x < (n : Int)) → l.length ≤ n
  | 0, [], _, _ => Nat.le_refl _
  | 0, x :: l, _, h => by
    have := h x List.mem_cons_self
    omega
  | n + 1, l, nd, h => by
    by_cases m : ((n : Nat) : Int) ∈ l
    · have e := List.length_erase_of_mem m
      have ih := nd_len n (l.erase (n : Nat)) (nd.erase _) fun x hx => by
        have h1 := (nd.mem_erase_iff).mp hx
        have h2 := h x h1.2
        have := h1.1
        omega
      have := List.length_pos_of_mem m
      omega
    · have := nd_len n l nd fun x hx => by
        have h2 := h x hx
        have : x ≠ ((n : Nat) : Int) := fun z => m (z ▸ hx)
        omega
      omega
/-- all but dicts stays -/
def Stay (H H' : Hp) : Prop := ∀ b o, H b = some o → (∀ kvs, o ≠ .dK kvs) → H' b = some o
theorem but_stay {kd : Addr} {H H' : Hp} {kvs : List (Key × V)} (h : H kd = some (.dK kvs)) (e : But kd H H') : Stay H H' := fun b o z n => e b o (ne_of z h (n kvs)) z
theorem IsM.stay {C : Addr} {H H' : Hp} {p : Addr} {n : Nat} {Ls : List (List Int)} {st : Int} {ms : List Int} (h : IsM C H p n Ls st ms) (e : Stay H H') : IsM C H' p n Ls st ms :=
  let ⟨dx, tb, rw, mk, kd, ts, us, h1, h2, h3, h4, h5, h6, h7⟩ := h
  ⟨dx, tb, rw, mk, kd, ts, us, e _ _ h1 (fun _ z => nomatch z), e _ _ h2 (fun _ z => nomatch z), Paired.mapP h3 fun _ _ ⟨a, rs, z1, z2, z3⟩ => ⟨a, rs, z1, e _ _ z2 (fun _ z => nomatch z), Paired.mapP z3 fun _ _ ⟨a, y1, y2⟩ => ⟨a, y1, e _ _ y2 (fun _ z => nomatch z)⟩⟩, e _ _ h4 (fun _ z => nomatch z),
    Paired.mapP h5 fun _ _ ⟨r, u, ms, z1, z2, z3, z4⟩ => ⟨r, u, ms, z1, e _ _ z2 (fun _ z => nomatch z), e _ _ z3 (fun _ z => nomatch z), Paired.mapP z4 fun _ _ ⟨a, y1, y2⟩ => ⟨a, y1, e _ _ y2 (fun _ z => nomatch z)⟩⟩, e _ _ h6 (fun _ z => nomatch z), e _ _ h7 (fun _ z => nomatch z)⟩
/-- where the parts of a code stand -/
structure TD where
  (dx tr dx2 a1 a2 a3 D lt wt : Addr)
  L : Nat
  nm : List W
  y2 : List V
  y3 : List V
  kvs : List (Key × V)
structure TAt (C CR : Addr) (H : Hp) (q : Addr) (ws : List W) (T : TD) : Prop where
  hq : H q = some (.ins C T.dx (coF T.L ws.length T.lt T.wt T.tr))
  hw : H T.wt = some (.tup (ws.map wV))
  hp : H T.tr = some (.ins CR T.dx2 (putF "numbers" (.ref T.D) (trF T.a1 T.a2 T.a3)))
  h1 : H T.a1 = some (.lst (T.nm.map wV))
  h2 : H T.a2 = some (.lst T.y2)
  h3 : H T.a3 = some (.lst T.y3)
  hD : H T.D = some (.dK T.kvs)
  TR : TrOk ws T.nm T.y2 T.y3 T.kvs
theorem CdAt.ex {C CR : Addr} {H : Hp} {q : Addr} {ws : List W} (h : CdAt C CR H q ws) : ∃ T, TAt C CR H q ws T := by
  obtain ⟨dx, lt, wt, tr, L, hq, hw, dx2, a1, a2, a3, D, nm, y2, y3, kvs, hp, h1, h2, h3, hD, TR⟩ := h.ob
  exact ⟨⟨dx, tr, dx2, a1, a2, a3, D, lt, wt, L, nm, y2, y3, kvs⟩, hq, hw, hp, h1, h2, h3, hD, TR⟩
theorem TAt.isTr {C CR : Addr} {H : Hp} {q : Addr} {ws : List W} {T : TD} (t : TAt C CR H q ws T) : IsTr CR H T.tr ws := ⟨T.dx2, T.a1, T.a2, T.a3, T.D, T.nm, T.y2, T.y3, T.kvs, t.hp, t.h1, t.h2, t.h3, t.hD, t.TR⟩
theorem CdAt.to {C CR : Addr} {H H' : Hp} {q : Addr} {ws : List W} {T : TD} (h : CdAt C CR H q ws) (t : TAt C CR H' q ws T) : CdAt C CR H' q ws := ⟨⟨T.dx, T.lt, T.wt, T.tr, T.L, t.hq, t.hw, t.isTr⟩, h.pf, h.two, h.few, h.long⟩
theorem TAt.but {C CR kd : Addr} {H H' : Hp} {q : Addr} {ws : List W} {T : TD} (t : TAt C CR H q ws T) (n : T.D ≠ kd) {kvs : List (Key × V)} (hk : H kd = some (.dK kvs)) (e : But kd H H') : TAt C CR H' q ws T :=
  have s := but_stay hk e
  ⟨s _ _ t.hq (fun _ z => nomatch z), s _ _ t.hw (fun _ z => nomatch z), s _ _ t.hp (fun _ z => nomatch z), s _ _ t.h1 (fun _ z => nomatch z), s _ _ t.h2 (fun _ z => nomatch z), s _ _ t.h3 (fun _ z => nomatch z), e _ _ n t.hD, t.TR⟩
theorem TAt.same {C CR : Addr} {H H' : Hp} {q : Addr} {ws : List W} {T : TD} (t : TAt C CR H q ws T) (e : Same H H') : TAt C CR H' q ws T :=
  ⟨e _ _ t.hq, e _ _ t.hw, e _ _ t.hp, e _ _ t.h1, e _ _ t.h2, e _ _ t.h3, e _ _ t.hD, t.TR⟩
structure TxN (K : PySem.W.Frag) (CS : Addr) : Prop where
  cl : Cls K CS
  c : NoAttr K CS "code"
  m : NoAttr K CS "machine"
  f : NoAttr K CS "first"
  k : NoAttr K CS "known"
def snF (q m t kd : Addr) : List (Str × V) := putF "known" (.ref kd) (stF q m t)
section
variable (q m t kd : Addr)
theorem sn_known : (snF q m t kd).lookup ("known" : Str) = some (.ref kd) := by
  unfold snF
  rw [lookup_putF, if_pos rfl]
theorem sn_first : (snF q m t kd).lookup ("first" : Str) = some (.ref t) := by
  unfold snF
  rw [lookup_putF, if_neg (by decide +kernel), st_first]
theorem sn_machine : (snF q m t kd).lookup ("machine" : Str) = some (.ref m) := by
  unfold snF
  rw [lookup_putF, if_neg (by decide +kernel), st_machine]
theorem sn_code : (snF q m t kd).lookup ("code" : Str) = some (.ref q) := by
  unfold snF
  rw [lookup_putF, if_neg (by decide +kernel), st_code]
theorem sn_no {x : Str} (h0 : x ≠ "known") (h1 : x ≠ "first") (h2 : x ≠ "machine") (h3 : x ≠ "code") : (snF q m t kd).lookup x = none := by
  unfold snF
  rw [lookup_putF, if_neg h0, st_no _ _ _ h1 h2 h3]
end
/-- whether the machine tells behind a sign -/
def gdS (d : SD) (s : Int) (o : Nat) : Bool := decide (nxt d.Ls s (o : Nat) ∈ d.ms)
def surB (d : SD) (s : Int) (x : W) : Bool := !decide (x = []) && ovB d.ws (gdS d s) x
def surL (d : SD) (nm : List W) (s : Int) : List V := nm.map fun x => V.bl (ovB d.ws (gdS d s) x)
structure KnOk (d : SD) (nm : List W) (H : Hp) (kvs : List (Key × V)) : Prop where
  ks : ∃ os : List Int, kvs.map (·.1) = os.map Sum.inl ∧ os.Nodup ∧ ∀ o ∈ os, 0 ≤ o ∧ o < (d.Ls.length : Int)
  vs : ∀ s v, valV kvs (.inl s) = some v → ∃ l, v = .ref l ∧ H l = some (.lst (surL d nm s))
theorem KnOk.stay {d : SD} {nm : List W} {H H' : Hp} {kvs : List (Key × V)} (h : KnOk d nm H kvs) (e : Stay H H') : KnOk d nm H' kvs := ⟨h.ks, fun s v hv => let ⟨l, e1, e2⟩ := h.vs s v hv; ⟨l, e1, e _ _ e2 (fun _ z => nomatch z)⟩⟩
theorem KnOk.len {d : SD} {nm : List W} {H : Hp} {kvs : List (Key × V)} (h : KnOk d nm H kvs) : kvs.length ≤ d.Ls.length := by
  obtain ⟨os, e, nd, r⟩ := h.ks
  have l := congrArg List.length e
  rw [List.length_map, List.length_map] at l
  rw [l]
  exact nd_len _ os nd r
theorem KnOk.add {d : SD} {nm : List W} {H : Hp} {kvs : List (Key × V)} (h : KnOk d nm H kvs) {s : Int} {l : Addr} (n : valV kvs (.inl s) = none) (s1 : 0 ≤ s) (s2 : s < (d.Ls.length : Int)) (hl : H l = some (.lst (surL d nm s))) : KnOk d nm H (putK kvs (.inl s) (.ref l)) := by
  obtain ⟨os, e, nd, r⟩ := h.ks
  refine ⟨⟨os ++ [s], ?_, ?_, fun o ho => ?_⟩, fun s' v hv => ?_⟩
  · rw [putK_new _ n, List.map_append, e, List.map_append]
    rfl
  · rw [List.nodup_append]
    refine ⟨nd, List.nodup_cons.mpr ⟨List.not_mem_nil, List.nodup_nil⟩, fun a ha b hb z => ?_⟩
    rw [List.mem_singleton.mp hb] at z
    subst z
    have m : (Sum.inl a : Key) ∈ kvs.map (·.1) := by rw [e]; exact List.mem_map_of_mem ha
    obtain ⟨kv, hkv, ek⟩ := List.mem_map.mp m
    have := valV_any (Sum.inl a : Key) kvs
    rw [n] at this
    have t : (kvs.any fun kv => decide (kv.1 = (Sum.inl a : Key))) = true := List.any_eq_true.mpr ⟨kv, hkv, decide_eq_true ek⟩
    rw [t] at this
    cases this
  · rcases List.mem_append.mp ho with ho | ho
    · exact r o ho
    · rw [List.mem_singleton.mp ho]
      exact ⟨s1, s2⟩
  · rw [valV_put] at hv
    by_cases c : (Sum.inl s' : Key) = .inl s
    · rw [if_pos c] at hv
      cases c
      cases hv
      exact ⟨l, rfl, hl⟩
    · rw [if_neg c] at hv
      exact h.vs s' v hv
/-- the object of Soonest: what it is made of, its dict of what is known, where its parts stand -/
structure SnD where
  d : SD
  kd : Addr
  T : TD
  q : Addr
  m : Addr
  t : Addr
  dx : Addr
def IsSn (C CR CMa CS : Addr) (d : SnD) (H : Hp) (p : Addr) : Prop := H p = some (.ins CS d.dx (snF d.q d.m d.t d.2)) ∧ H d.t = some (.tup [.int d.1.st, wV [], .bl false]) ∧ CM C CR CMa H d.q d.m d.1.ws d.1.Ls d.1.st d.1.ms ∧ TAt C CR H d.q d.1.ws d.T ∧ d.T.D ≠ d.2 ∧ ∃ kvs, H d.2 = some (.dK kvs) ∧ KnOk d.1 d.T.nm H kvs
theorem IsSn.same {C CR CMa CS : Addr} {d : SnD} {H H' : Hp} {p : Addr} (h : IsSn C CR CMa CS d H p) (e : Same H H') : IsSn C CR CMa CS d H' p :=
  let ⟨h1, h2, h3, h4, h5, kvs, h6, h7⟩ := h; ⟨e _ _ h1, e _ _ h2, h3.same e, h4.same e, h5, kvs, e _ _ h6, h7.stay fun b o z _ => e _ _ z⟩
theorem CM.but {C CR CMa kd : Addr} {H H' : Hp} {q m : Addr} {ws : List W} {Ls : List (List Int)} {st : Int} {ms : List Int} {T : TD} {kvs : List (Key × V)} (h : CM C CR CMa H q m ws Ls st ms) (t : TAt C CR H q ws T) (n : T.D ≠ kd) (hk : H kd = some (.dK kvs)) (e : But kd H H') : CM C CR CMa H' q m ws Ls st ms :=
  ⟨h.cd.to (t.but n hk e), h.ma.stay (but_stay hk e), h.ok⟩
def spNI (C CR CMa CS : Addr) : L2.Sp := fun vs H Q _ => ∃ (p dx q m : Addr) (d : SD) (H0 : Hp), vs = [.ref p, .ref q, .ref m] ∧ H p = some (.ins CS dx []) ∧ H0 p = none ∧ Same H0 H ∧ CM C CR CMa H0 q m d.ws d.Ls d.st d.ms ∧ ∀ (z : SnD) H', z.d = d → H0 z.kd = none → Same H0 H' → IsSn C CR CMa CS z H' p → Q .non H'
section
variable {P : Program} {w : World} {K : PySem.W.Frag} {mg : Str → Option Value} {base : Heap}
abbrev sNI : Stmt := inClass (topS 55) 0
abbrev NNI : List Str := ["self", "code", "machine"]
theorem scNI : FnScope NNI ["self", "code", "machine"] (defScope sNI) := ⟨rfl, rfl, rfl, by decide +kernel, rfl, by decide +kernel, by decide +kernel⟩
theorem ok_NI {f C CR CMa CS : Addr} {fd : FuncData} (F : Fun K "__init__" "Soonest.__init__" sNI f fd) (TS : TxN K CS) (T : Txt K CMa) : FnOk P w K mg base CX0 1 f fd ["self", "code", "machine"] (spNI C CR CMa CS) := by
  refine F.ok scNI (fun vs H Q E h => ?_) (fun cdv A outer s H vs Q E hr h => ?_)
  · obtain ⟨p, dx, q, m, d, H0, rfl, _⟩ := h
    rfl
  · obtain ⟨p, dx, q, m, d, H0, rfl, hp, n0, e0, M, k⟩ := h
    refine ⟨_, pss_cons (ps_fld (pv 0) (pv 1) rfl)
      (pss_cons (ps_fld (pv 0) (pv 2) rfl)
      (pss_cons (ps_fld (pv 0) (pe_tup (pa_cons (pe_fld (pv 2) rfl) (pa_cons pe_str (pa_cons pe_bl pa_nil)))) rfl)
      (pss_one (ps_fld (pv 0) pe_dnewK rfl)))), ?_⟩
    refine ⟨_, rfl, _, rfl, p, CS, dx, _, rfl, hp, TS.cl, TS.c, by show 0 < 1000; decide, ?_⟩
    have e1 := sm_ins (o := .ins CS dx (putF "code" (.ref q) [])) n0 e0
    have h1 : upd H p (.ins CS dx (putF "code" (.ref q) [])) p = some (.ins CS dx (putF "code" (.ref q) [])) := upd_same
    generalize upd H p (.ins CS dx (putF "code" (.ref q) [])) = H1 at e1 h1 ⊢
    refine ⟨_, rfl, _, rfl, p, CS, dx, _, rfl, h1, TS.cl, TS.m, by show 1 < 1000; decide, ?_⟩
    have e2 := sm_ins (o := .ins CS dx (putF "machine" (.ref m) (putF "code" (.ref q) []))) n0 e1
    have h2 : upd H1 p (.ins CS dx (putF "machine" (.ref m) (putF "code" (.ref q) []))) p = some (.ins CS dx (putF "machine" (.ref m) (putF "code" (.ref q) []))) := upd_same
    generalize upd H1 p (.ins CS dx (putF "machine" (.ref m) (putF "code" (.ref q) []))) = H2 at e2 h2 ⊢
    dsimp only
    obtain ⟨dx2, tb, rw_, mk, kd0, ts, us, hm, _⟩ := id M.ma
    refine ⟨_, rfl, m, CMa, dx2, _, _, rfl, e2 _ _ hm, T.cl, T.nA, mf_start _ _ _ _ _ _, by show 3 ≤ sizeLine; decide, fun t nt => ?_⟩
    have e3 := same_new (o := .tup [.int d.st, .str "", .bl false]) nt
    have ht : upd H2 t (.tup [.int d.st, .str "", .bl false]) t = some (.tup [.int d.st, wV [], .bl false]) := upd_same
    generalize upd H2 t (.tup [.int d.st, .str "", .bl false]) = H3 at e3 ht ⊢
    refine ⟨_, rfl, p, CS, dx, _, rfl, e3 _ _ h2, TS.cl, TS.f, by show 2 < 1000; decide, ?_⟩
    have e4 := sm_ins (o := .ins CS dx (stF q m t)) n0 (e2.trans e3)
    have h4 : upd H3 p (.ins CS dx (stF q m t)) p = some (.ins CS dx (stF q m t)) := upd_same
    have ht4 : upd H3 p (.ins CS dx (stF q m t)) t = some (.tup [.int d.st, wV [], .bl false]) := (upd_ne (ne_of ht (e3 _ _ h2) fun z => nomatch z)).trans ht
    refine fun kd nkd => ?_
    have nkd : upd H3 p (.ins CS dx (stF q m t)) kd = none := nkd
    show _
    have e5 := e4.trans (same_new (o := .dK []) nkd)
    have h5 := same_new (o := .dK []) nkd _ _ h4
    have ht5 := same_new (o := .dK []) nkd _ _ ht4
    have hk5 : upd (upd H3 p (.ins CS dx (stF q m t))) kd (.dK []) kd = some (.dK []) := upd_same
    refine ⟨_, rfl, p, CS, dx, _, rfl, h5, TS.cl, TS.k, by show 3 < 1000; decide, ?_⟩
    have nkd0 : H0 kd = none := e4.free nkd
    have e6 := sm_ins (o := .ins CS dx (snF q m t kd)) n0 e5
    obtain ⟨T0, hT0⟩ := M.cd.ex
    refine k ⟨d, kd, T0, q, m, t, dx⟩ _ rfl nkd0 e6 ⟨upd_same, (upd_ne (ne_of ht5 h5 fun z => nomatch z)).trans ht5, M.same e6, hT0.same e6, ne_of_none hT0.hD nkd0, [], (upd_ne (ne_of hk5 h5 fun z => nomatch z)).trans hk5, ⟨⟨[], rfl, List.nodup_nil, fun _ z => nomatch z⟩, fun s v hv => by cases hv⟩⟩
end
end K61
set_option Elab.async false
set_option linter.all false
set_option maxRecDepth 100001
set_option maxHeartbeats 3999999
namespace K61
open PySem L2
theorem seqAsg {a : TS} {b : TS} {D : Ends} {σ : St} {H : Hp} (h : a { D with nx := fun σ' H' => b D σ' H' } σ H) : tSeq a b D σ H := h
theorem tr_noN (D a1 a2 a3 : Addr) : (putF "numbers" (.ref D) (trF a1 a2 a3)).lookup ("nodes_over" : Str) = none := by
  unfold trF
  rw [lookup_putF, if_neg (by decide +kernel), lookup_putF, if_neg (by decide +kernel), lookup_putF, if_neg (by decide +kernel), lookup_putF, if_neg (by decide +kernel)]
  rfl
/-! ### is_sure -/
abbrev sSur : Stmt := inClass (topS 55) 1
abbrev NSur : List Str := ["self", "state", "node", "tells", "target"]
def spSur (C CR CMa CS : Addr) : L2.Sp := fun vs H Q _ => ∃ (p : Addr) (s : Int) (x : W) (d : SnD), vs = [.ref p, .int s, wV x] ∧ IsSn C CR CMa CS d H p ∧ 0 ≤ s ∧ s ≤ (d.1.Ls.length : Int) - 1 ∧ (x = [] ∨ Nd d.1.ws x) ∧ ∀ H', But d.2 H H' → IsSn C CR CMa CS d H' p → Q (.bl (surB d.1 s x)) H'
section
variable {P : Program} {w : World} {K : PySem.W.Frag} {mg : Str → Option Value} {base : Heap}
theorem scSur : FnScope NSur ["self", "state", "node"] (defScope sSur) := ⟨rfl, rfl, rfl, by decide +kernel, rfl, by decide +kernel, by decide +kernel⟩
theorem ok_Sur {f C CR CMa CS : Addr} {fd : FuncData} (F : Fun K "is_sure" "Soonest.is_sure" sSur f fd) (TC : TxC K C) (TR : TxR K CR) (TS : TxN K CS) (T : Txt K CMa) (cL : Cal CX0 P w K mg base 1 "laid_out" spLo) (mN : Met CX0 P w K mg base 1 CR "nodes_over" (spNO CR)) : FnOk P w K mg base CX0 2 f fd ["self", "state", "node"] (spSur C CR CMa CS) := by
  refine F.ok scSur (fun vs H Q E h => ?_) (fun cdv A outer s H vs Q E hr h => ?_)
  · obtain ⟨p, s, x, d, rfl, _⟩ := h
    rfl
  · obtain ⟨p, s, x, d, rfl, is, s1, s2, nd, k⟩ := h
    refine ⟨_, pss_cons (ps_if (pt_cmpR op_eq (pv 2) pe_str (nomark _)) (pss_one (ps_ret pe_bl)) pss_nil)
      (pss_cons (ps_if (pt_cmp (pc_dnotin (hu_of hr) (pv 1) (pe_fld (pv 0) rfl))) (pss_cons (ps_setLc (i := 3) (own := [("target", 4)]) rfl scSur.nd rfl rfl (sw_true rfl rfl rfl (by decide +kernel)) (pi_sqA (pe_c cL hr pass0 (pa_cons (pe_ix ix_list (pe_fld (pe_fld (pv 0) rfl) rfl) (pv 1) (fun _ _ => rfl)) (pa_cons (pe_fld (pe_fld (pv 0) rfl) rfl) pa_nil)))) (blkOk_by (N := NSur) (sc := defScope sSur) (by decide +kernel)) (fun _ _ _ _ _ => (pg_name (i := 4) scSur.nd rfl (Or.inl rfl))) (fun _ _ _ _ _ => pts_nil) (fun _ _ _ _ _ => (pe_ix (ix_listK K rfl) (pe_fldK K rfl (pe_fldK K rfl (pv 0) rfl) rfl) (pv 4) (fun _ _ => rfl))))
        (pss_one (ps_dput (hu_of hr) (pe_fld (pv 0) rfl) (pv 1) (pe_mt mN hr pass0 (pe_fld (pe_fld (pv 0) rfl) rfl) (pa_cons (pv 3) (pa_cons pe_bl pa_nil))) rfl))) pss_nil)
      (pss_one (ps_ret (pe_ix ix_list (pe_dget (hu_of hr) (pe_fld (pv 0) rfl) (pv 1) (fun _ _ => rfl)) (pe_dget (hu_of hr) (pe_fld (pe_fld (pe_fld (pv 0) rfl) rfl) rfl) (pv 2) (fun _ _ => rfl)) (fun _ _ => rfl))))), ?_⟩
    have e1 : decide (wV x = V.str "") = decide (x = []) := decide_eq_decide.mpr ⟨fun z => by
      have z : V.str (bS x) = V.str (bS []) := z
      injection z with z
      exact bS_inj z, fun z => by rw [z]; rfl⟩
    refine ⟨_, rfl, rfl, _, rfl, ?_⟩
    rw [e1]
    by_cases c : x = []
    · rw [decide_eq_true c]
      refine iteT ?_
      have := k H But.refl is
      unfold surB at this
      rw [decide_eq_true c] at this
      exact this
    rw [decide_eq_false c]
    refine iteF (nextOf ?_)
    have nd := nd.resolve_left c
    obtain ⟨hp, ht, M, tr, nD, kvs, hk, kn⟩ := is
    have lk := kn.len
    have lk2 := M.ok.k2
    dsimp only
    refine cutSeq (fun σ8 H8 => ∃ (o3 : Option V) (kvs8 : List (Key × V)) (l : Addr), σ8 = [some (.ref p), some (.int s), some (wV x), o3, none] ∧ But d.2 H H8 ∧ H8 d.2 = some (.dK kvs8) ∧ KnOk d.1 d.T.nm H8 kvs8 ∧ valV kvs8 (.inl s) = some (.ref l) ∧ H8 l = some (.lst (surL d.1 d.T.nm s))) (fun nx hnx => ?_) ?_
    · refine ⟨_, rfl, _, rfl, p, CS, d.dx, _, _, rfl, hp, TS.cl, TS.k, sn_known _ _ _ _, d.2, _, rfl, DGet.k (k := .inl s) hk, ?_⟩
      cases hv : valV kvs (.inl s) with
      | some v =>
        obtain ⟨l, rfl, hl⟩ := kn.vs s v hv
        exact ⟨_, rfl, iteF (nextOf (hnx _ _ ⟨none, kvs, l, rfl, But.refl, hk, kn, hv, hl⟩))⟩
      | none =>
        refine ⟨_, rfl, iteT ?_⟩
        obtain ⟨dx2, tb, rw_, mk, kd0, ts, us, hm, htb, hst, _, _, _, hkd⟩ := id M.ma
        obtain ⟨i, ei⟩ := Int.eq_ofNat_of_zero_le s1
        have li : i < d.1.Ls.length := by omega
        have hL := List.getElem?_eq_getElem li
        generalize d.1.Ls[i] = L0 at hL
        obtain ⟨vt, hvt, ta, rs, rfl, hta, pr⟩ := paired_to hst hL
        obtain ⟨lL, rL⟩ := M.ok.row L0 (List.mem_of_getElem? hL)
        have n2 := M.ok.n2
        have n1 := M.ok.n1
        refine ⟨_, rfl, p, CS, d.dx, _, _, rfl, hp, TS.cl, TS.m, sn_machine _ _ _ _, d.m, CMa, dx2, _, _, rfl, hm, T.cl, T.nT, mf_table _ _ _ _ _ _, _, rfl, tb, ts, _, .ref ta, rfl, rfl, SqL.of htb, (by rw [ei]; exact atI_nat hvt), ?_⟩
        refine ⟨_, rfl, p, CS, d.dx, _, _, rfl, hp, TS.cl, TS.c, sn_code _ _ _ _, d.q, C, d.T.dx, _, _, rfl, tr.hq, TC.cl, TC.s, co_size _ _ _ _ _, ?_⟩
        refine ⟨ta, rs, L0, by rw [lL]; rfl, hta, pr, (fun z => by rw [z] at lL; simp at lL; omega), by omega, fun LL H1 ex1 nLL hLL => ?_⟩
        refine ⟨LL, _, rfl, .inl (SqL.of hLL), fun J G wk hG KD nKD => lcM wk (fun o => V.bl (gdS d.1 s o)) (by rw [List.length_map]; omega) nKD (fun H' e => hG H' fun o z => e _ _ z) ?_ ?_⟩
        · rintro o v0 H2 H3 N ho e2 ⟨rfl, hv0⟩ fin
          have e12 := ex1.trans e2
          rw [List.length_map] at ho
          obtain ⟨g, hg, rfl⟩ := ints_at hv0
          have gn : nxt d.1.Ls s (o : Nat) = g := by
            unfold nxt
            rw [ei, Int.toNat_natCast, Int.toNat_natCast]
            simp only [List.getD_eq_getElem?_getD, hL, hg, Option.getD_some]
          obtain ⟨g1, g2⟩ := rL g (List.mem_of_getElem? hg)
          obtain ⟨gi, eg⟩ := Int.eq_ofNat_of_zero_le g1
          have fin := fin _ (Same.refl _)
          unfold gdS at fin
          rw [gn] at fin
          refine ⟨rfl, _, rfl, p, CS, d.dx, _, _, rfl, e12 _ _ hp, TS.cl, TS.m, sn_machine _ _ _ _, d.m, CMa, dx2, _, _, rfl, e12 _ _ hm, T.cl, T.nK, mf_kinds _ _ _ _ _ _, _, rfl, kd0, _, _, _, rfl, rfl, SqL.of (e12 _ _ hkd), (by rw [eg]; exact atI_nat (kindsV_at (by omega))), ?_⟩
          rw [← eg]
          exact fin
        · intro H2 e2 hKD
          have e12 := ex1.trans e2
          rw [List.length_map, lL] at hKD
          refine gN ?_
          dsimp only
          have tr2 := tr.same e12
          refine ⟨_, rfl, p, CS, d.dx, _, _, rfl, e12 _ _ hp, TS.cl, TS.c, sn_code _ _ _ _, d.q, C, d.T.dx, _, _, rfl, tr2.hq, TC.cl, TC.t, co_tree _ _ _ _ _, d.T.tr, d.T.dx2, _, rfl, tr2.hp, tr_noN _ _ _ _, ?_⟩
          refine ⟨_, rfl, d.T.tr, KD, d.T.dx2, d.T.a1, d.T.a2, d.T.a3, d.T.D, d.1.ws, d.T.nm, d.T.y2, d.T.y3, d.T.kvs, gdS d.1 s, rfl, tr2.hp, tr2.h1, tr2.h2, tr2.h3, tr2.TR, M.cd.pf, hKD, fun RL H3 e3 nRL hRL => ?_⟩
          have e13 := e12.trans e3
          refine ⟨_, rfl, p, CS, d.dx, _, _, rfl, e13 _ _ hp, TS.cl, TS.k, sn_known _ _ _ _, _, rfl, d.2, _, rfl, DPut.k (k := .inl s) (e13 _ _ hk) (small10 (by omega)), ?_⟩
          have kn3 : KnOk d.1 d.T.nm H3 kvs := kn.stay fun b o z _ => e13 _ _ z
          have kn4 := kn3.add hv s1 (by omega) hRL
          have st : Stay H3 (upd H3 d.2 (.dK (putK kvs (.inl s) (.ref RL)))) := fun b o z n => (upd_ne (ne_of z (e13 _ _ hk) (n _))).trans z
          exact hnx _ _ ⟨_, _, RL, rfl, fun b o n z => (upd_ne n).trans (e13 _ _ z), upd_same, kn4.stay st, by rw [valV_put, if_pos rfl], st _ _ hRL (fun _ z => nomatch z)⟩
    · rintro σ8 H8 ⟨o3, kvs8, l, rfl, b8, hk8, kn8, hv8, hl8⟩
      have st8 := but_stay hk b8
      have tr8 := tr.but nD hk b8
      obtain ⟨j, hj, hnj⟩ := tr8.TR.num x (nd_mem tr8.TR M.cd.pf _ x rfl nd)
      refine ⟨_, rfl, p, CS, d.dx, _, _, rfl, st8 _ _ hp (fun _ z => nomatch z), TS.cl, TS.k, sn_known _ _ _ _, _, rfl, d.2, _, rfl, hv8 ▸ DGet.k (k := .inl s) hk8, ?_⟩
      refine ⟨_, rfl, p, CS, d.dx, _, _, rfl, st8 _ _ hp (fun _ z => nomatch z), TS.cl, TS.c, sn_code _ _ _ _, d.q, C, d.T.dx, _, _, rfl, tr8.hq, TC.cl, TC.t, co_tree _ _ _ _ _, d.T.tr, CR, d.T.dx2, _, _, rfl, tr8.hp, TR.cl, TR.b, tn_numbers _ _ _ _, _, rfl, d.T.D, _, rfl, hj ▸ DGet.k (k := .inr (bS x)) tr8.hD, ?_⟩
      refine ⟨l, _, _, _, rfl, rfl, SqL.of hl8, atI_nat (by unfold surL; rw [List.getElem?_map, hnj]; rfl), ?_⟩
      have := k H8 b8 ⟨st8 _ _ hp (fun _ z => nomatch z), st8 _ _ ht (fun _ z => nomatch z), M.but tr nD hk b8, tr8, nD, kvs8, hk8, kn8⟩
      unfold surB at this
      rw [decide_eq_false c] at this
      exact this
end
end K61
set_option Elab.async false
set_option linter.all false
set_option maxRecDepth 100001
set_option maxHeartbeats 3999999
namespace K61
open PySem L2
abbrev Tri := Int × W × Bool
def enN (z : Tri) : List V := [.int z.1, wV z.2.1, .bl z.2.2]
/-- the triple behind a bit -/
def stN (d : SD) (z : Tri) (b : Bool) : Tri := ((stp d.ws d.Ls (z.1, z.2.1) b).1, (stp d.ws d.Ls (z.1, z.2.1) b).2, (if (sgB d.ws z.2.1 b).isSome = true then decide ((stp d.ws d.Ls (z.1, z.2.1) b).1 ∈ d.ms) else surB d z.1 (stp d.ws d.Ls (z.1, z.2.1) b).2) && !surB d z.1 z.2.1)
abbrev vN (d : SD) (z : Tri) : Prop := SOk d.ws d.Ls (z.1, z.2.1)
abbrev sNB : Stmt := inClass (topS 55) 2
abbrev NNB : List Str := ["self", "told", "bit", "state", "node", "_", "behind", "below", "ended", "sure"]
def spNB (C CR CMa CS : Addr) : L2.Sp := fun vs H Q _ => ∃ (p t : Addr) (d : SnD) (z : Tri) (b : Bool), vs = [.ref p, .ref t, .str ⟨#[cd b]⟩] ∧ IsSn C CR CMa CS d H p ∧ H t = some (.tup (enN z)) ∧ vN d.1 z ∧ ∀ u H', But d.2 H H' → IsSn C CR CMa CS d H' p → H' u = some (.tup (enN (stN d.1 z b))) → Q (.ref u) H'
section
variable {P : Program} {w : World} {K : PySem.W.Frag} {mg : Str → Option Value} {base : Heap}
theorem scNB : FnScope NNB ["self", "told", "bit"] (defScope sNB) := ⟨rfl, rfl, rfl, by decide +kernel, rfl, by decide +kernel, by decide +kernel⟩
theorem ok_NB {f C CR CMa CS : Addr} {fd : FuncData} (F : Fun K "state_behind" "Soonest.state_behind" sNB f fd) (TS : TxN K CS) (T : Txt K CMa) (cS : Cal CX0 P w K mg base 3 "standing_behind" (spStB C CR CMa)) (mU : Met CX0 P w K mg base 2 CS "is_sure" (spSur C CR CMa CS)) : FnOk P w K mg base CX0 4 f fd ["self", "told", "bit"] (spNB C CR CMa CS) := by
  refine F.ok scNB (fun vs H Q E h => ?_) (fun cdv A outer s H vs Q E hr h => ?_)
  · obtain ⟨p, t, d, z, b, rfl, _⟩ := h
    rfl
  · obtain ⟨p, t, d, ⟨s, x, y⟩, b, rfl, is, ht, ok, k⟩ := h
    refine ⟨_, pss_cons (ps_asg (pv 1) (pg_tup rfl (pgs_cons (pg_name (i := 3) scNB.nd rfl (Or.inl rfl)) (pgs_cons (pg_name (i := 4) scNB.nd rfl (Or.inl rfl)) (pgs_cons (pg_name (i := 5) scNB.nd rfl (Or.inl rfl)) pgs_nil)))))
      (pss_cons (ps_asg (pe_c cS hr pass0 (pa_cons (pe_fld (pv 0) rfl) (pa_cons (pe_fld (pv 0) rfl) (pa_cons (pe_tup (pa_cons (pv 3) (pa_cons (pv 4) pa_nil))) (pa_cons (pv 2) pa_nil))))) (pg_tup rfl (pgs_cons (pg_tup rfl (pgs_cons (pg_name (i := 6) scNB.nd rfl (Or.inl rfl)) (pgs_cons (pg_name (i := 7) scNB.nd rfl (Or.inl rfl)) pgs_nil))) (pgs_cons (pg_name (i := 8) scNB.nd rfl (Or.inl rfl)) pgs_nil))))
      (pss_cons (ps_set (i := 9) scNB.nd rfl (Or.inl rfl) (pe_ifExp (pt_val (pv 8)) (pe_ix ix_list (pe_fld (pe_fld (pv 0) rfl) rfl) (pv 6) (fun _ _ => rfl)) (pe_mt mU hr pass0 (pv 0) (pa_cons (pv 3) (pa_cons (pv 7) pa_nil)))))
      (pss_one (ps_ret (pe_tup (pa_cons (pv 6) (pa_cons (pv 7) (pa_cons (pe_and (pv 9) (pe_one (pe_not (pe_mt mU hr pass0 (pv 0) (pa_cons (pv 3) (pa_cons (pv 4) pa_nil)))))) pa_nil)))))))), ?_⟩
    obtain ⟨ok1, ok2, nd⟩ := id ok
    refine ⟨_, rfl, t, _, rfl, SqT.of ht, rfl, _, _, rfl, _, _, rfl, _, _, rfl, rfl, ?_⟩
    dsimp only
    obtain ⟨hp, ht0, M, tr, nD, kvs, hk, kn⟩ := id is
    have ok3 := M.step ok b
    refine ⟨_, rfl, p, CS, d.dx, _, _, rfl, hp, TS.cl, TS.c, sn_code _ _ _ _, _, rfl, p, CS, d.dx, _, _, rfl, hp, TS.cl, TS.m, sn_machine _ _ _ _, _, rfl, _, rfl, by show 2 ≤ sizeLine; decide, fun t1 nt1 => ?_⟩
    have e1 := same_new (o := .tup [.int s, wV x]) nt1
    have ht1 : upd H t1 (.tup [.int s, wV x]) t1 = some (.tup [.int s, wV x]) := upd_same
    show _
    refine ⟨_, rfl, d.q, d.m, t1, d.1.ws, d.1.Ls, d.1.st, d.1.ms, s, x, b, rfl, M.same e1, ht1, ok, fun r u H1 e2 hr1 hu1 => ?_⟩
    have e12 := e1.trans e2
    have is1 := is.same e12
    have hp1 := e12 _ _ hp
    clear e1 e2 ht1
    refine ⟨r, _, rfl, SqT.of hr1, rfl, _, _, rfl, ⟨u, _, rfl, SqT.of hu1, rfl, _, _, rfl, _, _, rfl, rfl, _, _, rfl, rfl, ?_⟩⟩
    dsimp only
    refine cutSeq (fun σ8 H8 => ∃ S : Bool, S = (if (sgB d.1.ws x b).isSome = true then decide ((stp d.1.ws d.1.Ls (s, x) b).1 ∈ d.1.ms) else surB d.1 s (stp d.1.ws d.1.Ls (s, x) b).2) ∧ σ8 = [some (.ref p), some (.ref t), some (.str ⟨#[cd b]⟩), some (.int s), some (wV x), some (.bl y), some (.int (stp d.1.ws d.1.Ls (s, x) b).1), some (wV (stp d.1.ws d.1.Ls (s, x) b).2), some (.bl (sgB d.1.ws x b).isSome), some (.bl S)] ∧ But d.2 H H8 ∧ IsSn C CR CMa CS d H8 p) (fun nx hnx => ?_) ?_
    · obtain ⟨dx2, tb, rw_, mk, kd0, ts, us, hm, _, _, _, _, _, hkd⟩ := id M.ma
      refine ⟨_, rfl, _, rfl, ?_⟩
      cases c : (sgB d.1.ws x b).isSome with
      | true =>
        rw [c] at hnx
        obtain ⟨g1, g2, _⟩ := ok3
        obtain ⟨gi, eg⟩ := Int.eq_ofNat_of_zero_le g1
        refine iteT ⟨_, rfl, p, CS, d.dx, _, _, rfl, hp1, TS.cl, TS.m, sn_machine _ _ _ _, d.m, CMa, dx2, _, _, rfl, e12 _ _ hm, T.cl, T.nK, mf_kinds _ _ _ _ _ _, _, rfl, kd0, _, _, _, rfl, rfl, SqL.of (e12 _ _ hkd), (by rw [eg]; exact atI_nat (kindsV_at (by omega))), ?_⟩
        rw [← eg]
        exact hnx _ _ ⟨_, by rw [if_pos rfl], rfl, same_but e12, is1⟩
      | false =>
        rw [c] at hnx
        refine iteF ⟨_, rfl, p, d.dx, _, rfl, hp1, sn_no _ _ _ _ (by decide +kernel) (by decide +kernel) (by decide +kernel) (by decide +kernel), _, rfl, _, rfl, p, s, (stp d.1.ws d.1.Ls (s, x) b).2, d, rfl, is1, ok1, ok2, .inr ok3.2.2, fun H2 b2 is2 => ?_⟩
        exact hnx _ _ ⟨_, by rw [if_neg (by decide)], rfl, (same_but e12).trans b2, is2⟩
    · rintro σ8 H8 ⟨S, eS, rfl, b8, is8⟩
      have fin : ∀ (H9 : Hp) (v : Bool), But d.2 H H9 → IsSn C CR CMa CS d H9 p → v = (S && !surB d.1 s x) → ∀ r, H9 r = none → Q (.ref r) (upd H9 r (.tup [.int (stp d.1.ws d.1.Ls (s, x) b).1, wV (stp d.1.ws d.1.Ls (s, x) b).2, .bl v])) := fun H9 v b9 is9 ev r nr => by
        refine k r _ (b9.trans (same_but (same_new nr))) (is9.same (same_new nr)) ?_
        rw [upd_same, ev, eS]
        rfl
      refine ⟨_, rfl, _, rfl, ?_⟩
      cases S with
      | false => exact ⟨_, rfl, _, rfl, iteF ⟨by show 3 ≤ sizeLine; decide, fin _ _ b8 is8 rfl⟩⟩
      | true =>
        obtain ⟨hp8, _⟩ := id is8
        refine ⟨_, rfl, _, rfl, iteT ⟨_, rfl, p, d.dx, _, rfl, hp8, sn_no _ _ _ _ (by decide +kernel) (by decide +kernel) (by decide +kernel) (by decide +kernel), _, rfl, _, rfl, p, s, x, d, rfl, is8, ok1, ok2, .inr nd, fun H9 b9 is9 => ?_⟩⟩
        exact ⟨_, rfl, by show 3 ≤ sizeLine; decide, fin _ _ (b8.trans b9) is9 rfl⟩
end
abbrev sNm : Stmt := inClass (topS 55) 3
abbrev NNm : List Str := ["self", "told"]
def spNm (C CR CMa CS : Addr) : L2.Sp := fun vs H Q _ => ∃ (p t : Addr) (z : Tri), vs = [.ref p, .ref t] ∧ H t = some (.tup (enN z)) ∧ Q (.bl z.2.2) H
section
variable {P : Program} {w : World} {K : PySem.W.Frag} {mg : Str → Option Value} {base : Heap}
theorem scNm : FnScope NNm ["self", "told"] (defScope sNm) := ⟨rfl, rfl, rfl, by decide +kernel, rfl, by decide +kernel, by decide +kernel⟩
theorem ok_Nm {f C CR CMa CS : Addr} {fd : FuncData} (F : Fun K "is_marked" "Soonest.is_marked" sNm f fd) : FnOk P w K mg base CX0 1 f fd ["self", "told"] (spNm C CR CMa CS) := by
  refine F.ok scNm (fun vs H Q E h => ?_) (fun cdv A outer s H vs Q E hr h => ?_)
  · obtain ⟨p, t, z, rfl, _⟩ := h
    rfl
  · obtain ⟨p, t, z, rfl, ht, q⟩ := h
    refine ⟨_, pss_one (ps_ret (pe_ix ix_tup (pv 1) pe_int (fun _ _ => rfl))), ?_⟩
    exact ⟨_, rfl, t, _, _, _, rfl, rfl, SqT.of ht, rfl, q⟩
end
end K61
set_option Elab.async false
set_option linter.all false
set_option maxRecDepth 100001
set_option maxHeartbeats 3999999
namespace K61
open PySem L2
/-! ### searcher_of, of Soonest -/
def encN (z : Tri) : NestedKey := .tup [.num z.1, .text (bS z.2.1), .num (if z.2.2 = true then 1 else 0)]
theorem encN_inj (s t : Tri) (h : encN s = encN t) : s = t := by
  unfold encN at h
  injection h with h
  injection h with h1 h
  injection h with h2 h
  injection h with h3 _
  injection h1 with h1
  injection h2 with h2
  injection h3 with h3
  obtain ⟨a, b, c⟩ := s
  obtain ⟨a', b', c'⟩ := t
  have e1 : a = a' := h1
  have e2 : b = b' := bS_inj h2
  have e3 : c = c' := by
    cases c <;> cases c' <;> first | rfl | simp at h3
  rw [e1, e2, e3]
theorem encN_is {H : Hp} {u : Addr} {z : Tri} (h : H u = some (.tup (enN z))) : NkIs H (encN z) (.ref u) := .tup h (.cons (.int _) (.cons (.str _) (.cons (.bl _) .nil)))
theorem encN_depth (z : Tri) : (encN z).depth ≤ 8 := by
  simp [encN, NestedKey.depth, NestedKey.depthAll]
def StsN (H : Hp) : List V → List Tri → Prop := Paired fun v z => ∃ a, v = .ref a ∧ H a = some (.tup (enN z))
theorem StsN.tt {H H' : Hp} {vs : List V} {o : List Tri} (h : StsN H vs o) (e : ∀ a xs, H a = some (.tup xs) → H' a = some (.tup xs)) : StsN H' vs o := Paired.mapP h fun _ _ ⟨a, h1, h2⟩ => ⟨a, h1, e _ _ h2⟩
theorem StrAt.tt {H H' : Hp} {ts : List V} {Ls : List (List Int)} (h : StrAt H ts Ls) (e : ∀ a xs, H a = some (.tup xs) → H' a = some (.tup xs)) : StrAt H' ts Ls := Paired.mapP h fun _ _ ⟨a, rs, z1, z2, z3⟩ => ⟨a, rs, z1, e _ _ z2, Paired.mapP z3 fun _ _ ⟨a, y1, y2⟩ => ⟨a, y1, e _ _ y2⟩⟩
abbrev fiN (d : SnD) : Tri := (d.1.st, ([] : W), false)
abbrev bfN (d : SD) (t : Nat) : List Tri := bf (d.st, ([] : W), false) (stN d) t
/-- where the searcher stands: numbers of on, the list of o, the table of t states -/
structure SeH (P : Program) (w : World) (d : SnD) (NU OR TB : Addr) (H H' : Hp) (t : Nat) (on o : List Tri) (vs ts : List V) (kvs : List (Key × V)) : Prop where
  b : But d.2 H H'
  hk : H' d.2 = some (.dK kvs)
  kn : KnOk d.1 d.T.nm H' kvs
  u : IsN P w H' NU (numsK encN on)
  hO : H' OR = some (.lst vs)
  s : StsN H' vs o
  hT : H' TB = some (.lst ts)
  st : StrAt H' ts (tbl (fiN d) (stN d.1) t)
section
variable {P : Program} {w : World} {C CR CMa CS : Addr} {d : SnD} {p NU OR TB : Addr} {H H' H2 : Hp} {t : Nat} {on o : List Tri} {vs ts : List V} {kvs : List (Key × V)}
theorem SeH.is (h : SeH P w d NU OR TB H H' t on o vs ts kvs) (i : IsSn C CR CMa CS d H p) : IsSn C CR CMa CS d H' p := by
  obtain ⟨hp, ht, M, tr, nD, kv0, hk, kn⟩ := i
  have st := but_stay hk h.b
  exact ⟨st _ _ hp (fun _ z => nomatch z), st _ _ ht (fun _ z => nomatch z), M.but tr nD hk h.b, tr.but nD hk h.b, nD, kvs, h.hk, h.kn⟩
theorem SeH.same (h : SeH P w d NU OR TB H H' t on o vs ts kvs) (e : Same H' H2) : SeH P w d NU OR TB H H2 t on o vs ts kvs :=
  ⟨h.b.trans (same_but e), e _ _ h.hk, h.kn.stay fun b o z _ => e _ _ z, h.u.same e, e _ _ h.hO, h.s.tt fun a xs z => e _ _ z, e _ _ h.hT, h.st.same e⟩
theorem SeH.call (h : SeH P w d NU OR TB H H' t on o vs ts kvs) (e : But d.2 H' H2) (i : IsSn C CR CMa CS d H2 p) (nU : NU ≠ d.2) (nO : OR ≠ d.2) (nT : TB ≠ d.2) : ∃ kvs2, SeH P w d NU OR TB H H2 t on o vs ts kvs2 := by
  obtain ⟨_, _, _, _, _, kv2, hk2, kn2⟩ := i
  have tt : ∀ a xs, H' a = some (.tup xs) → H2 a = some (.tup xs) := fun a xs z => e _ _ (ne_of z h.hk fun y => nomatch y) z
  exact ⟨kv2, h.b.trans e, hk2, kn2, h.u.keep (fun o z => e _ _ nU z) tt, e _ _ nO h.hO, h.s.tt tt, e _ _ nT h.hT, h.st.tt tt⟩
theorem sur_ne {nm : List W} (h0 : nm[0]? = some []) {s : Int} {xs : List V} (hx : ∀ b, xs[0]? ≠ some (.bl b)) : HO.lst (surL d.1 nm s) ≠ HO.lst xs := fun z => by
  injection z with z
  have : (surL d.1 nm s)[0]? = some (.bl (ovB d.1.ws (gdS d.1 s) [])) := by
    unfold surL
    rw [List.getElem?_map, h0]
    rfl
  rw [z] at this
  exact hx _ this
theorem KnOk.lst (kn : KnOk d.1 d.T.nm H' kvs) (h0 : d.T.nm[0]? = some []) {R : Addr} {xs : List V} {u : HO} (hR : H' R = some (.lst xs)) (hx : ∀ b, xs[0]? ≠ some (.bl b)) : KnOk d.1 d.T.nm (upd H' R u) kvs :=
  ⟨kn.ks, fun s v hv => let ⟨l, e1, e2⟩ := kn.vs s v hv; ⟨l, e1, (upd_ne (ne_of e2 hR (sur_ne h0 hx))).trans e2⟩⟩
theorem SeH.row (h : SeH P w d NU OR TB H H' t on o vs ts kvs) (h0 : d.T.nm[0]? = some []) {R : Addr} {xs ys : List V} (hR : H' R = some (.lst xs)) (hx : ∀ b, xs[0]? ≠ some (.bl b)) (nR : H R = none) (nO : OR ≠ R) (nT : TB ≠ R) : SeH P w d NU OR TB H (upd H' R (.lst ys)) t on o vs ts kvs := by
  have tt : ∀ a xs, H' a = some (.tup xs) → upd H' R (.lst ys) a = some (.tup xs) := fun a xs z => (upd_ne (ne_of z hR fun y => nomatch y)).trans z
  obtain ⟨φ, hφ⟩ := h.u.obj
  exact ⟨fun b o n z => (upd_ne (ne_of_none z nR)).trans (h.b _ _ n z), (upd_ne (ne_of h.hk hR fun y => nomatch y)).trans h.hk, h.kn.lst h0 hR hx, h.u.keep (fun o z => (upd_ne (ne_of hφ hR fun y => nomatch y)).trans z) tt, (upd_ne nO).trans h.hO, h.s.tt tt, (upd_ne nT).trans h.hT, h.st.tt tt⟩
theorem SeH.num (h : SeH P w d NU OR TB H H' t on o vs ts kvs) {on2 : List Tri} (bn : ButN NU H' H2) (g : IsN P w H2 NU (numsK encN on2)) (nN : H NU = none) : SeH P w d NU OR TB H H2 t on2 o vs ts kvs := by
  obtain ⟨φ, hφ⟩ := h.u.obj
  have tt := h.u.tups bn
  have ot : ∀ a u, H' a = some u → (∀ φ, u ≠ .ext φ) → H2 a = some u := fun a u z n => by
    rw [bn a (ne_of z hφ (n φ))]
    exact z
  exact ⟨fun b o n z => by
    rw [bn b (ne_of_none z nN)]
    exact h.b _ _ n z, ot _ _ h.hk (fun _ z => nomatch z), ⟨h.kn.ks, fun s v hv => let ⟨l, e1, e2⟩ := h.kn.vs s v hv; ⟨l, e1, ot _ _ e2 (fun _ z => nomatch z)⟩⟩, g, ot _ _ h.hO (fun _ z => nomatch z), h.s.tt tt, ot _ _ h.hT (fun _ z => nomatch z), h.st.tt tt⟩
theorem sts_head {H : Hp} {vs : List V} {o : List Tri} (h : StsN H vs o) : ∀ b, vs[0]? ≠ some (.bl b) := fun b z => by
  cases h with
  | nil => cases z
  | cons a _ =>
    obtain ⟨a, e, _⟩ := a
    subst e
    cases z
theorem str_head {H : Hp} {vs : List V} {o : List (List Int)} (h : StrAt H vs o) : ∀ b, vs[0]? ≠ some (.bl b) := fun b z => by
  cases h with
  | nil => cases z
  | cons a _ =>
    obtain ⟨a, _, e, _⟩ := a
    subst e
    cases z
theorem SeH.putO (h : SeH P w d NU OR TB H H' t on o vs ts kvs) (h0 : d.T.nm[0]? = some []) (nO : H OR = none) (nT : TB ≠ OR) {a : Addr} {y : Tri} (ha : H' a = some (.tup (enN y))) : SeH P w d NU OR TB H (upd H' OR (.lst (vs ++ [.ref a]))) t on (o ++ [y]) (vs ++ [.ref a]) ts kvs := by
  have tt : ∀ b xs, H' b = some (.tup xs) → upd H' OR (.lst (vs ++ [.ref a])) b = some (.tup xs) := fun b xs z => (upd_ne (ne_of z h.hO fun y => nomatch y)).trans z
  obtain ⟨φ, hφ⟩ := h.u.obj
  exact ⟨fun b o n z => (upd_ne (ne_of_none z nO)).trans (h.b _ _ n z), (upd_ne (ne_of h.hk h.hO fun y => nomatch y)).trans h.hk, h.kn.lst h0 h.hO (sts_head h.s), h.u.keep (fun o z => (upd_ne (ne_of hφ h.hO fun y => nomatch y)).trans z) tt, upd_same, Paired.snoc (h.s.tt tt) ⟨a, rfl, tt _ _ ha⟩, (upd_ne nT).trans h.hT, h.st.tt tt⟩
theorem SeH.putT (h : SeH P w d NU OR TB H H' t on o vs ts kvs) (h0 : d.T.nm[0]? = some []) (nT : H TB = none) (nO : OR ≠ TB) {a : Addr} {rs : List V} {L : List Int} (e : tbl (fiN d) (stN d.1) (t + 1) = tbl (fiN d) (stN d.1) t ++ [L]) (ha : H' a = some (.tup rs)) (pr : PrAt H' rs (rle L)) : SeH P w d NU OR TB H (upd H' TB (.lst (ts ++ [.ref a]))) (t + 1) on o vs (ts ++ [.ref a]) kvs := by
  have tt : ∀ b xs, H' b = some (.tup xs) → upd H' TB (.lst (ts ++ [.ref a])) b = some (.tup xs) := fun b xs z => (upd_ne (ne_of z h.hT fun y => nomatch y)).trans z
  obtain ⟨φ, hφ⟩ := h.u.obj
  refine ⟨fun b o n z => (upd_ne (ne_of_none z nT)).trans (h.b _ _ n z), (upd_ne (ne_of h.hk h.hT fun y => nomatch y)).trans h.hk, h.kn.lst h0 h.hT (str_head h.st), h.u.keep (fun o z => (upd_ne (ne_of hφ h.hT fun y => nomatch y)).trans z) tt, (upd_ne nO).trans h.hO, h.s.tt tt, upd_same, ?_⟩
  rw [e]
  exact Paired.snoc (h.st.tt tt) ⟨a, rs, rfl, tt _ _ ha, Paired.mapP pr fun _ _ ⟨a, y1, y2⟩ => ⟨a, y1, tt _ _ y2⟩⟩
end
def spSeN (C CR CMa CT CS : Addr) : L2.Sp := fun vs H Q E => ∃ (p : Addr) (d : SnD), vs = [.ref p] ∧ IsSn C CR CMa CS d H p ∧
  (∀ N x H', (bfN d.1 N).length = N → N ≤ 2000 → H x = none → But d.2 H H' → IsM CMa H' x 2 (rws (fiN d) (stN d.1) N) 0 (selM (fun i => ((bfN d.1 N).getD i (fiN d)).2.2) N) → Q (.ref x) H') ∧
  (∀ T a H', 2000 < (bfN d.1 T).length → H a = none → But d.2 H H' → H' a = some (.xd [("most", .int 2000), ("many", .int 2001), ("what", .str "states")]) → E (.ref CT) (some a) H')
section
variable {P : Program} {w : World} {K : PySem.W.Frag} {mg : Str → Option Value} {base : Heap}
theorem ok_SeN {f C CR CMa CS CT : Addr} {fd : FuncData} (F : Fun K "searcher_of" "searcher_of" sSe f fd) (B : Bi mg) (M : CmS mg)
    (TS : TxN K CS) (n1 : PySem.W.findIn K (.ref CT) "what" = some none) (n2 : PySem.W.findIn K (.ref CT) "many" = some none) (n3 : PySem.W.findIn K (.ref CT) "most" = some none)
    (mS : Met CX0 P w K mg base 4 CS "state_behind" (spNB C CR CMa CS)) (mM : Met CX0 P w K mg base 1 CS "is_marked" (spNm C CR CMa CS)) (cSt : Cal CX0 P w K mg base 1 "stretched" spStd) (cMo : Cal CX0 P w K mg base 6 "machine_of" (spMof CMa)) (xT : Xc P w K mg base 2 "TooMany" CT (spX3 K "what" "many" "most")) :
    FnOk P w K mg base (L2.CX P w) 8 f fd ["states"] (spSeN C CR CMa CT CS) := by
  refine F.okX scSe (fun vs H Q E h => ?_) (fun cdv A outer s H vs Q E hr h => ?_)
  · obtain ⟨p, d, rfl, _⟩ := h
    rfl
  · obtain ⟨p, d, rfl, is, k1, k2⟩ := h
    refine ⟨_, pss_cons (ps_set (i := 1) scSe.nd rfl (Or.inl rfl) (pe_dispN1 (hu64 hr) (pe_fld (pv 0) rfl) pe_int))
      (pss_cons (ps_set (i := 2) scSe.nd rfl (Or.inl rfl) (pe_lst (pa_cons (pe_fld (pv 0) rfl) pa_nil)))
      (pss_cons (ps_set (i := 3) scSe.nd rfl (Or.inl rfl) (pe_lst pa_nil))
      (pss_cons (ps_while (passes_of rfl) (pt_cmpR op_lt (pe_len B.len (pa_cons (pv 3) pa_nil)) (pe_len B.len (pa_cons (pv 2) pa_nil)) (nomark _)) (pss_cons (ps_set (i := 4) scSe.nd rfl (Or.inl rfl) (pe_lst pa_nil))
        (pss_cons (ps_for (passes_of rfl) rfl (pi_str (C8.pe_gc rfl M.bits)) (pg_name (i := 5) scSe.nd rfl (Or.inl rfl))
          (pss_cons (ps_set (i := 6) scSe.nd rfl (Or.inl rfl) (pe_mt mS hr pass0 (pv 0) (pa_cons (pe_ix ix_list (pv 2) (pe_len B.len (pa_cons (pv 3) pa_nil)) (fun _ _ => rfl)) (pa_cons (pv 5) pa_nil))))
          (pss_cons (ps_if (pt_cmp (pc_nnotin (hu64 hr) (pv 6) (pv 1))) (pss_cons (ps_if (pt_cmpR op_eq (pe_len B.len (pa_cons (pv 2) pa_nil)) (C8.pe_gc rfl M.many) (nomark _)) (pss_one (ps_raise rfl (takes_of rfl rfl rfl rfl) (pmk_x xT hr (pa_cons pe_str (pa_cons (pe_op op_add (C8.pe_gc rfl M.many) pe_int) (pa_cons (C8.pe_gc rfl M.many) pa_nil)))))) pss_nil)
            (pss_cons (ps_nput (hu64 hr) (pv 1) (pv 6) (pe_len B.len (pa_cons (pv 2) pa_nil)) rfl)
            (pss_one (ps_expr (pe_bm PySem.F.plainAttrs_list PySem.F.slot_list_append PySem.F.type_list_append mt_append (pv 2) (pa_cons (pv 6) pa_nil)))))) pss_nil)
          (pss_one (ps_expr (pe_bm PySem.F.plainAttrs_list PySem.F.slot_list_append PySem.F.type_list_append mt_append (pv 4) (pa_cons (pe_nget (hu64 hr) (pv 1) (pv 6) (fun _ _ => rfl)) pa_nil)))))))
        (pss_one (ps_expr (pe_bm PySem.F.plainAttrs_list PySem.F.slot_list_append PySem.F.type_list_append mt_append (pv 3) (pa_cons (pe_c cSt hr pass0 (pa_cons (pv 4) pa_nil)) pa_nil)))))))
      (pss_one (ps_ret (pe_c cMo hr pass0 (pa_cons pe_int (pa_cons (pv 3) (pa_cons pe_int (pa_cons (pe_lc (own := [("state", 7)]) rfl scSe.nd (pi_sqA (pv 2)) (blkOk_by (N := NSe) (sc := defScope sSe) (by decide +kernel)) (fun _ _ _ _ _ => (pg_name (i := 7) scSe.nd rfl (Or.inl rfl))) (fun _ _ _ _ _ => pts_nil) (fun _ _ _ _ _ => (pe_mt mM hr pass0 (pv 0) (pa_cons (pv 7) pa_nil)))) pa_nil)))))))))), ?_⟩
    obtain ⟨hp, ht0, MM, tr, nD, kvs, hk, kn⟩ := id is
    have h0 := tr.TR.root
    generalize et0 : d.t = t0 at ht0
    generalize edx : d.dx = dx at hp
    have dpk : p ≠ d.2 := ne_of hp hk fun z => nomatch z
    have v0 : vN d.1 (fiN d) := ⟨MM.ok.s1, MM.ok.s2, MM.cd.root⟩
    have vS : ∀ x b, vN d.1 x → vN d.1 (stN d.1 x b) := fun x b v => MM.step v b
    have l1 := sn_first d.q d.m d.t d.2
    have l2 := sn_no d.q d.m d.t d.2 (x := "state_behind") (by decide +kernel) (by decide +kernel) (by decide +kernel) (by decide +kernel)
    have l3 := sn_no d.q d.m d.t d.2 (x := "is_marked") (by decide +kernel) (by decide +kernel) (by decide +kernel) (by decide +kernel)
    rw [et0] at l1 l2 l3 hp
    generalize snF d.q d.m t0 d.2 = fs at hp l1 l2 l3
    refine fun NU nNU => ?_
    have e0 := same_new (o := DN P w NU []) nNU
    have g0 : upd H NU (DN P w NU []) NU = some (DN P w NU []) := upd_same
    refine ⟨_, rfl, p, CS, dx, _, _, rfl, e0 _ _ hp, TS.cl, TS.f, l1, _, IsN.empty g0, encN_is (z := fiN d) (e0 _ _ ht0), encN_depth _, fun H1 bn g1 => ?_⟩
    have nuk : NU ≠ d.2 := Ne.symm (ne_of_none hk nNU)
    have e1 : Same H H1 := fun b o z => by
      rw [bn b (ne_of_none z nNU)]
      exact e0 _ _ z
    clear e0 g0 bn
    have g1 : IsN P w H1 NU (numsK encN [fiN d]) := g1
    refine gN ?_
    dsimp only
    refine ⟨_, rfl, p, CS, dx, _, _, rfl, e1 _ _ hp, TS.cl, TS.f, l1, by show 1 ≤ sizeLine; decide, fun OR nOR => ?_⟩
    have e2 := same_new (o := .lst [.ref t0]) nOR
    have g2 : upd H1 OR (.lst [.ref t0]) OR = some (.lst [.ref t0]) := upd_same
    obtain ⟨φ1, hφ1⟩ := g1.obj
    have dUO : NU ≠ OR := ne_of_none hφ1 nOR
    have g1 := g1.same e2
    have dOk : OR ≠ d.2 := Ne.symm (ne_of_none (e1 _ _ hk) nOR)
    generalize upd H1 OR (.lst [.ref t0]) = H2 at e2 g1 g2 ⊢
    refine gN ?_
    dsimp only
    refine ⟨by show 0 ≤ sizeLine; decide, fun TB nTB => ?_⟩
    have e3 := same_new (o := .lst []) nTB
    have g3 : upd H2 TB (.lst []) TB = some (.lst []) := upd_same
    obtain ⟨φ2, hφ2⟩ := g1.obj
    have dUT : NU ≠ TB := ne_of_none hφ2 nTB
    have dOT : OR ≠ TB := ne_of_none g2 nTB
    have g1 := g1.same e3
    have g2 := e3 _ _ g2
    have dTk : TB ≠ d.2 := Ne.symm (ne_of_none (e2 _ _ (e1 _ _ hk)) nTB)
    have e03 := e1.trans (e2.trans e3)
    have nO : H OR = none := e1.free nOR
    have nT : H TB = none := (e1.trans e2).free nTB
    generalize upd H2 TB (.lst []) = H3 at e03 g1 g2 g3 ⊢
    clear e1 e2 e3 nOR nTB hφ1 hφ2
    refine gN ?_
    dsimp only
    have vAll : ∀ t, ∀ x ∈ bfN d.1 t, vN d.1 x := fun t => bf_inv v0 vS t
    have S0 : SeH P w d NU OR TB H H3 0 (bfN d.1 0) (bfN d.1 0) [.ref t0] [] kvs := ⟨same_but e03, e03 _ _ hk, kn.stay fun b o z _ => e03 _ _ z, g1, g2, .cons ⟨t0, rfl, e03 _ _ ht0⟩ .nil, g3, .nil⟩
    clear g1 g2 g3 e03
    refine ⟨fun k σ H' => ∃ (t : Nat) (x4 x5 x6 : Option V) (vs ts : List V) (kvs : List (Key × V)), k = 2001 - t ∧ σ = [some (.ref p), some (.ref NU), some (.ref OR), some (.ref TB), x4, x5, x6, none] ∧ SeH P w d NU OR TB H H' t (bfN d.1 t) (bfN d.1 t) vs ts kvs ∧ t ≤ (bfN d.1 t).length ∧ (bfN d.1 t).length ≤ 2000,
      ⟨_, 0, none, none, none, _, _, _, rfl, rfl, S0, Nat.zero_le _, by show 1 ≤ 2000; decide⟩, ?_⟩
    clear S0
    rintro k σ G ⟨t, x4, x5, x6, vs, ts, kvs1, rfl, rfl, S1, tl1, tl2⟩
    have lvs := Paired.length S1.s
    have lts := Paired.length S1.st
    have ltb : (tbl (fiN d) (stN d.1) t).length = t := by
      unfold tbl
      rw [List.length_map, List.length_take]
      have : (bf (fiN d) (stN d.1) t).length = (bfN d.1 t).length := rfl
      omega
    have p_at : ∀ {H' : Hp} {t' : Nat} {on o : List Tri} {vs ts : List V} {kvs' : List (Key × V)}, SeH P w d NU OR TB H H' t' on o vs ts kvs' → H' p = some (.ins CS dx fs) := fun h => h.b _ _ dpk hp
    refine ⟨_, rfl, TB, ts, rfl, .inl (SqL.of S1.hT), _, rfl, OR, vs, rfl, .inl (SqL.of S1.hO), _, _, rfl, rfl, _, rfl, ?_⟩
    rw [lvs, lts, ltb]
    rcases Nat.lt_or_ge t (bfN d.1 t).length with c | c
    · rw [decide_eq_true (show ((t : Nat) : Int) < (((bfN d.1 t).length : Nat) : Int) by omega)]
      refine iteT ⟨fun σ' H' => ∃ k', k' < 2001 - t ∧ ∃ (t : Nat) (x4 x5 x6 : Option V) (vs ts : List V) (kvs : List (Key × V)), k' = 2001 - t ∧ σ' = [some (.ref p), some (.ref NU), some (.ref OR), some (.ref TB), x4, x5, x6, none] ∧ SeH P w d NU OR TB H H' t (bfN d.1 t) (bfN d.1 t) vs ts kvs ∧ t ≤ (bfN d.1 t).length ∧ (bfN d.1 t).length ≤ 2000, fun σ' H' ⟨k', l, z⟩ => ⟨k', l, z⟩, ?_⟩
      refine ⟨by show 0 ≤ sizeLine; decide, fun RW nRW => ?_⟩
      have e5 := same_new (o := .lst []) nRW
      have gRW : upd G RW (.lst []) RW = some (.lst []) := upd_same
      have dOR : OR ≠ RW := ne_of_none S1.hO nRW
      have dTR : TB ≠ RW := ne_of_none S1.hT nRW
      have dRk : RW ≠ d.2 := Ne.symm (ne_of_none S1.hk nRW)
      have nR : H RW = none := by
        cases z : H RW with
        | none => rfl
        | some o =>
          have := S1.b _ _ dRk z
          rw [nRW] at this
          cases this
      have S2 := S1.same e5
      generalize upd G RW (.lst []) = G5 at S2 gRW ⊢
      clear e5 nRW S1
      refine gN ?_
      dsimp only
      obtain ⟨x0, hx0⟩ : ∃ x0, (bfN d.1 t)[t]? = some x0 := ⟨_, List.getElem?_eq_getElem c⟩
      have nd : (bfN d.1 t).Nodup := bf_nodup (first := fiN d) (step := stN d.1) t
      have vx := vAll t x0 (List.mem_of_getElem? hx0)
      have eb : bfN d.1 (t + 1) = ex1 (stN d.1) (bfN d.1 t) x0 := bf_some hx0
      refine ⟨"01", rfl, for_it (D := { nx := _, rt := Q, bk := _, ct := _ }) walk_str (fun i σ H' => ∃ (x5 x6 : Option V) (vs' : List V) (kvs' : List (Key × V)), σ = [some (.ref p), some (.ref NU), some (.ref OR), some (.ref TB), some (.ref RW), x5, x6, none] ∧ SeH P w d NU OR TB H H' t (oI (stN d.1) (bfN d.1 t) x0 i) (oI (stN d.1) (bfN d.1 t) x0 i) vs' ts kvs' ∧ H' RW = some (.lst (((rwS (bfN d.1 (t + 1)) (stN d.1) x0).take i).map V.int)) ∧ (oI (stN d.1) (bfN d.1 t) x0 i).length ≤ 2000)
        ⟨x5, x6, vs, kvs1, rfl, S2, gRW, tl2⟩ (fun _ _ _ _ _ => True.intro) ?_ ?_⟩
      · rintro i x σ H6 H6' hi ⟨y5, y6, vs', kvs6, rfl, S6, hR, lo⟩ ⟨rfl, ch, hch, rfl⟩
        have hi : i < 2 := hi
        have ech := ch01 hi hch
        subst ech
        have pre := oI_pre (stN d.1) (bfN d.1 t) x0 (i := i) (by omega)
        have ndo := oI_nodup (stN d.1) _ x0 nd (i := i) (by omega)
        have es := oI_succ (stN d.1) (bfN d.1 t) x0 hi
        have er := oI_row (stN d.1) (bfN d.1 t) x0 hi
        rw [← eb] at er
        generalize decide (i = 1) = b at es er
        generalize eo : oI (stN d.1) (bfN d.1 t) x0 i = o at S6 pre ndo es lo
        have hxo : o[t]? = some x0 := by
          obtain ⟨r, er⟩ := pre.1
          rw [← er, List.getElem?_append_left c]
          exact hx0
        obtain ⟨v0, hv0, a0, rfl, ha0⟩ := paired_to S6.s hxo
        have lvs6 := Paired.length S6.s
        refine gN ?_
        dsimp only
        refine ⟨_, rfl, p, dx, _, rfl, p_at S6, l2, _, rfl, _, rfl, TB, ts, rfl, .inl (SqL.of S6.hT), OR, vs', _, .ref a0, rfl, rfl, SqL.of S6.hO, (by rw [lts, ltb]; exact atI_nat hv0), _, rfl, p, a0, d, x0, b, rfl, S6.is is, ha0, vx, fun u H7 b7 is7 hu => ?_⟩
        generalize stN d.1 x0 b = y at hu es er
        obtain ⟨kvs7, S7⟩ := S6.call b7 is7 nuk dOk dTk
        have hR := b7 _ _ dRk hR
        clear ha0 hv0 S6 b7 is7
        refine gN ?_
        dsimp only
        have hget := numsK_get encN_inj o ndo y
        have sz : (numsK encN o).length < sizeLine := by rw [numsK_len]; exact small10 (by omega)
        refine cutSeq (fun σ8 H8 => σ8 = [some (.ref p), some (.ref NU), some (.ref OR), some (.ref TB), some (.ref RW), some (.str ⟨#[cd b]⟩), some (.ref u), none] ∧ ∃ vs8 kvs8, SeH P w d NU OR TB H H8 t (ad o y) (ad o y) vs8 ts kvs8 ∧ H8 RW = some (.lst (((rwS (bfN d.1 (t + 1)) (stN d.1) x0).take i).map V.int)) ∧ H8 u = some (.tup (enN y)) ∧ (ad o y).length ≤ 2000) (fun nx hnx => ?_) ?_
        · refine ⟨_, rfl, _, rfl, NU, _, _, rfl, S7.u, encN_is hu, encN_depth y, ?_⟩
          rw [show valV (numsK encN o) (NestedKey.tup _) = valV (numsK encN o) (encN y) from rfl, hget]
          by_cases m : y ∈ o
          · rw [if_pos m]
            have ea : ad o y = o := by
              unfold ad
              rw [if_pos m]
            refine ⟨_, rfl, iteF (nextOf (hnx _ _ ⟨rfl, vs', kvs7, by rw [ea]; exact S7, hR, hu, by rw [ea]; exact lo⟩))⟩
          · rw [if_neg m]
            have ea : ad o y = o ++ [y] := by
              unfold ad
              rw [if_neg m]
            refine ⟨_, rfl, iteT ?_⟩
            refine ⟨_, rfl, OR, vs', rfl, .inl (SqL.of S7.hO), rfl, _, rfl, ?_⟩
            rw [lvs6]
            by_cases c20 : o.length = 2000
            · rw [decide_eq_true (show V.int ((o.length : Nat) : Int) = V.int 2000 by rw [c20]; rfl)]
              refine iteT ⟨_, _, rfl, rfl, raise3 xT.T n1 n2 n3 (by show PyData.strOk _ = true; decide +kernel) True.intro True.intro fun a H' r => k2 (t + 1) a H' ?_ ?_ ?_ r.at_⟩
              · have l1 := (oI_pre (stN d.1) (bfN d.1 t) x0 (i := i + 1) (by omega)).2.length_le
                rw [es, ea, List.length_append, ← eb, List.length_singleton] at l1
                omega
              · cases z : H a with
                | none => rfl
                | some o' =>
                  have hka : a ≠ d.2 := Ne.symm (ne_of_none S7.hk r.new)
                  have := S7.b _ _ hka z
                  rw [r.new] at this
                  cases this
              · exact S7.b.trans (same_but r.same)
            · rw [decide_eq_false (show ¬ V.int ((o.length : Nat) : Int) = V.int 2000 from fun z => by injection z with z; omega)]
              refine iteF (nextOf ?_)
              refine ⟨_, rfl, OR, vs', rfl, .inl (SqL.of S7.hO), _, rfl, _, rfl, NU, _, _, rfl, S7.u, encN_is hu, encN_depth y, sz, fun H8 bn8 g8 => ?_⟩
              have ek : putK (numsK encN o) (encN y) (.int (vs'.length : Nat)) = numsK encN (ad o y) := by rw [lvs6, numsK_ad encN_inj ndo m]
              have g8 : IsN P w H8 NU (putK (numsK encN o) (encN y) (.int (vs'.length : Nat))) := g8
              rw [ek] at g8
              have S8 := S7.num bn8 g8 nNU
              have hu8 := S7.u.tups bn8 _ _ hu
              obtain ⟨φ7, hφ7⟩ := S7.u.obj
              have hR8 : H8 RW = some (.lst (((rwS (bfN d.1 (t + 1)) (stN d.1) x0).take i).map V.int)) := by
                rw [bn8 _ (ne_of hR hφ7 fun z => nomatch z)]
                exact hR
              refine ⟨_, rfl, .inl ⟨rfl, _, SqL.of S8.hO⟩, _, rfl, OR, vs', _, rfl, rfl, S8.hO, small10 (by omega), ?_⟩
              have S9 := S8.putO h0 nO (Ne.symm dOT) hu8
              refine hnx _ _ ⟨rfl, vs' ++ [.ref u], kvs7, ?_, (upd_ne (Ne.symm dOR)).trans hR8, (upd_ne (ne_of hu8 S8.hO fun y => nomatch y)).trans hu8, by rw [ea, List.length_append, List.length_singleton]; omega⟩
              rw [ea] at S9 ⊢
              exact S9
        · rintro σ8 H8 ⟨rfl, vs8, kvs8, S8, hR8, hu8, lo8⟩
          have mem : y ∈ ad o y := ad_mem o y
          have ndy : (ad o y).Nodup := ad_nodup ndo y
          have hg := numsK_get encN_inj _ ndy y
          rw [if_pos mem] at hg
          refine ⟨_, rfl, .inl ⟨rfl, _, SqL.of hR8⟩, _, rfl, _, rfl, NU, _, _, _, rfl, S8.u, encN_is hu8, encN_depth y, hg, RW, _, _, rfl, rfl, hR8, ?_, ?_⟩
          · rw [List.length_map, List.length_take]
            exact small10 (by omega)
          rw [es] at er ⊢
          refine ⟨_, _, vs8, kvs8, rfl, S8.row h0 hR8 (fun b z => ?_) nR dOR dTR, ?_, lo8⟩
          · rw [List.getElem?_map] at z
            cases h : ((rwS (bfN d.1 (t + 1)) (stN d.1) x0).take i)[0]? with
            | none => rw [h] at z; cases z
            | some q => rw [h] at z; cases z
          · rw [upd_same, List.take_add_one, er, List.map_append]
            rfl
      · rintro σ H6 ⟨y5, y6, vs', kvs6, rfl, S6, hR, lo⟩
        rw [show ("01" : Str).cps.size = 2 from rfl] at S6 hR lo
        rw [show oI (stN d.1) (bfN d.1 t) x0 2 = bfN d.1 (t + 1) from eb.symm] at S6 lo
        rw [show (rwS (bfN d.1 (t + 1)) (stN d.1) x0).take 2 = rwS (bfN d.1 (t + 1)) (stN d.1) x0 from rfl] at hR
        dsimp only
        refine ⟨_, rfl, .inl ⟨rfl, ts, SqL.of S6.hT⟩, _, rfl, RW, _, rfl, .inl hR, by show 2 ≤ 5000; decide, fun st H7 rs e7 nst hst pr => ⟨TB, ts, _, rfl, rfl, e7 _ _ S6.hT, small10 (by omega), ?_⟩⟩
        have S7 := S6.same e7
        have lp := (bf_pre1 (first := fiN d) (step := stN d.1) t).length_le
        refine ⟨2001 - (t + 1), by omega, t + 1, _, _, _, vs', ts ++ [.ref st], kvs6, rfl, rfl, S7.putT h0 nT dOT (tbl_succ hx0) hst pr, ?_, lo⟩
        have : t + 1 ≤ (bf (fiN d) (stN d.1) (t + 1)).length := by
          rcases Nat.lt_or_ge t (bf (fiN d) (stN d.1) (t + 1)).length with z | z
          · omega
          · have : (bf (fiN d) (stN d.1) t).length = (bfN d.1 t).length := rfl
            omega
        exact this
    · rw [decide_eq_false (show ¬ ((t : Nat) : Int) < (((bfN d.1 t).length : Nat) : Int) by omega)]
      refine iteF ?_
      have et : (bfN d.1 t).length = t := by omega
      have cc : (bf (fiN d) (stN d.1) t).length ≤ t := c
      have O : OkMa 2 (tbl (fiN d) (stN d.1) t) 0 (selM (fun i => ((bfN d.1 t).getD i (fiN d)).2.2) (tbl (fiN d) (stN d.1) t).length) := by
        have lp : 1 ≤ (bfN d.1 t).length := bf_len_pos (first := fiN d) (step := stN d.1) t
        refine OkMa.sel (ms := []) ⟨by decide, by decide, by rw [ltb]; omega, by omega, fun L hL => ?_, Int.le_refl _, by rw [ltb]; omega, (fun m hm => nomatch hm), .nil⟩ _
        obtain ⟨x, hx, rfl⟩ := List.mem_map.mp hL
        have hx := List.mem_of_mem_take hx
        have m0 := idxD_lt (bf_closed cc hx false)
        have m1 := idxD_lt (bf_closed cc hx true)
        have e2 : (bf (fiN d) (stN d.1) t).length = t := et
        unfold idxD at m0 m1
        refine ⟨rfl, fun y hy => ?_⟩
        rw [ltb]
        rcases List.mem_cons.mp hy with rfl | hy
        · omega
        · rw [List.mem_singleton.mp hy]
          omega
      refine ⟨_, rfl, _, rfl, OR, vs, rfl, .inl (SqL.of S1.hO), fun J G' wk hG KD nKD => lcM wk (fun i => V.bl ((bfN d.1 t).getD i (fiN d)).2.2) (by omega) nKD (fun H' e => hG H' fun o z => e _ _ z) ?_ ?_⟩
      · rintro i x H2 H3 N hi e2 ⟨rfl, hx⟩ fin
        obtain ⟨y, hy, a, rfl, ha⟩ := paired_at S1.s hx
        refine ⟨rfl, _, rfl, p, dx, _, rfl, e2 _ _ (p_at S1), l3, _, rfl, p, a, y, rfl, e2 _ _ ha, ?_⟩
        have := fin _ (Same.refl _)
        rw [List.getD_eq_getElem?_getD, hy] at this
        exact this
      · intro H5 e5 hKD
        rw [lvs, et] at hKD
        have et2 : (bf (fiN d) (stN d.1) t).length = t := et
        refine ⟨TB, KD, 2, tbl (fiN d) (stN d.1) t, 0, ts, fun i => ((bfN d.1 t).getD i (fiN d)).2.2, rfl, e5 _ _ S1.hT, S1.st.same e5, ?_, O, fun x H' nx e M => ?_⟩
        · rw [ltb]
          exact hKD
        · rw [tbl_all et2, show (rws (fiN d) (stN d.1) t).length = t by rw [← tbl_all et2, ltb]] at M
          have nx2 : H x = none := by
            cases z : H x with
            | none => rfl
            | some o' =>
              have hk5 := e5 _ _ S1.hk
              have hka : x ≠ d.2 := Ne.symm (ne_of_none hk5 nx)
              have := e5 _ _ (S1.b _ _ hka z)
              rw [nx] at this
              cases this
          exact k1 t x H' et (by omega) nx2 (S1.b.trans (same_but (e5.trans e))) M
end
end K61
set_option Elab.async false
set_option linter.all false
set_option maxRecDepth 100001
set_option maxHeartbeats 3999999
namespace K61
open PySem L2
/-- words of a full code, as far as reading goes -/
structure Ful (ws : List W) : Prop where
  pf : PF ws
  root : Nd ws []
  kid : ∀ x b, Nd ws x → x ++ [b] ∈ ws ∨ Nd ws (x ++ [b])
  long : ∀ w ∈ ws, w.length ≤ 2000
theorem CdAt.ful {C CR : Addr} {H : Hp} {q : Addr} {ws : List W} (cd : CdAt C CR H q ws) : Ful ws := ⟨cd.pf, cd.root, fun x b nd => cd.kid nd b, cd.long⟩
theorem Ful.nd {ws : List W} (F : Ful ws) {x : W} (nd : Nd ws x) : x.length ≤ 2000 := by
  obtain ⟨o, v, _, e⟩ := nd
  have := F.long _ (List.mem_of_getElem? e)
  rw [List.length_append] at this
  omega
theorem Ful.step {ws : List W} {Ls : List (List Int)} {st : Int} {ms : List Int} (F : Ful ws) (O : OkMa ws.length Ls st ms) {s : Int × W} (ok : SOk ws Ls s) (b : Bool) : SOk ws Ls (stp ws Ls s b) := by
  obtain ⟨s1, s2, nd⟩ := ok
  unfold stp
  cases es : sgB ws s.2 b with
  | some o =>
    have lo := sgB_lt es
    obtain ⟨i, L0, ei, hL0, hLx, v1, v2⟩ := O.nxt s1 s2 (x := ((o : Nat) : Int)) (by omega) (by omega)
    exact ⟨v1, v2, F.root⟩
  | none =>
    have nw : s.2 ++ [b] ∉ ws := fun m => by
      unfold sgB at es
      rw [if_pos m] at es
      cases es
    refine ⟨s1, s2, ?_⟩
    show Nd ws (ndB ws s.2 b)
    unfold ndB
    rw [if_neg nw]
    exact (F.kid _ b nd).resolve_left nw
theorem Ful.all {d : SD} (F : Ful d.ws) (O : OkMa d.ws.length d.Ls d.st d.ms) (t : Nat) : ∀ x ∈ bfS d t, vS d x := bf_inv (Val := vS d) ⟨O.s1, O.s2, F.root⟩ (fun x b v => F.step O v b) t
theorem ad_len {S : Type} [DecidableEq S] (o : List S) (y : S) : (ad o y).length ≤ o.length + 1 := by
  unfold ad
  split
  · omega
  · rw [List.length_append]
    exact Nat.le_refl _
theorem bf_len {S : Type} [DecidableEq S] {first : S} {step : S → Bool → S} : ∀ t, (bf first step t).length ≤ 1 + 2 * t
  | 0 => Nat.le_refl _
  | t + 1 => by
    have ih := bf_len (first := first) (step := step) t
    cases h : (bf first step t)[t]? with
    | none => rw [bf_none (List.getElem?_eq_none_iff.mp h)]; omega
    | some x =>
      rw [bf_some h]
      have h1 := ad_len (bf first step t) (step x false)
      have h2 := ad_len (ad (bf first step t) (step x false)) (step x true)
      show (ad (ad _ _) _).length ≤ _
      omega
theorem tbl_none {S : Type} [DecidableEq S] {first : S} {step : S → Bool → S} {t : Nat} (h : (bf first step t).length ≤ t) : tbl first step (t + 1) = tbl first step t := by
  unfold tbl
  rw [bf_none h, List.take_of_length_le h, List.take_of_length_le (by omega)]
theorem op_in_seqK {X : Cx} (K : PySem.W.Frag) (hK : X.K = K) : OpR X (compareOp .In) (rIn K false) := by
  subst hK
  exact op_in_seq
theorem tIf_mid {c : L2.TT} {a b : TE} {σ : St} {H : Hp} {Q : VK} (v : V) (h : ∀ Q' : VK, Q' v H → tIf c a b σ H Q') (k : Q v H) : tIf c a b σ H Q := h Q k
theorem inV_ints (x : Int) : ∀ ms : List Int, inV (.int x) (ms.map V.int) = decide (x ∈ ms)
  | [] => rfl
  | m :: ms => by
    have ih := inV_ints x ms
    unfold inV at ih ⊢
    rw [List.map_cons, List.any_cons, ih]
    by_cases c : m = x
    · subst c
      simp [eqV]
    · have c2 : ¬ x = m := fun z => c z.symm
      simp [eqV, c, c2]
theorem flat_ints (ms : List Int) : (ms.map V.int).all flatV = true := by
  rw [List.all_map]
  exact List.all_eq_true.mpr fun _ _ => rfl
def TabF (P : Addr → Prop) (H : Hp) : List V → List (List Int) → Prop := Paired fun v R => ∃ a, v = .ref a ∧ P a ∧ H a = some (.lst (R.map V.int))
theorem TabF.same {P : Addr → Prop} {H H' : Hp} {ts : List V} {T : List (List Int)} (h : TabF P H ts T) (e : Same H H') : TabF P H' ts T := Paired.mapP h fun _ _ ⟨a, h1, h2, h3⟩ => ⟨a, h1, h2, e _ _ h3⟩
theorem TabF.upd {P : Addr → Prop} {H H' : Hp} {ts : List V} {T : List (List Int)} (h : TabF P H ts T) (e : ∀ a xs, P a → H a = some (.lst xs) → H' a = some (.lst xs)) : TabF P H' ts T := Paired.mapP h fun _ _ ⟨a, h1, h2, h3⟩ => ⟨a, h1, h2, e _ _ h2 h3⟩

/-! ### soonest_search -/
abbrev sSs : Stmt := topS 54
abbrev NSs : List Str := ["code", "machine"]
abbrev fN (d : SD) : Tri := (d.st, ([] : W), false)
abbrev rwN (d : SD) (N : Nat) : List (List Int) := rws (fN d) (stN d) N
abbrev mkN (d : SD) (N : Nat) : List Int := selM (fun i => ((bfN d N).getD i (fN d)).2.2) N
def spSs (C CR CMa CO CT : Addr) : L2.Sp := fun vs H Q E => ∃ (q m : Addr) (ws : List W) (n : Nat) (Ls : List (List Int)) (st : Int) (ms : List Int), vs = [.ref q, .ref m] ∧ CdAt C CR H q ws ∧ IsM CMa H m n Ls st ms ∧ OkMa n Ls st ms ∧ (n ≠ ws.length → ∀ H', Same H H' → E (.ref CO) none H') ∧
  (n = ws.length → (∀ N x H', (bfN ⟨ws, Ls, st, ms⟩ N).length = N → N ≤ 2000 → H x = none → Same H H' → IsM CMa H' x 2 (rwN ⟨ws, Ls, st, ms⟩ N) 0 (mkN ⟨ws, Ls, st, ms⟩ N) → Q (.ref x) H') ∧ ∀ T a H', 2000 < (bfN ⟨ws, Ls, st, ms⟩ T).length → Rsd H H' a [("most", .int 2000), ("many", .int 2001), ("what", .str "states")] → E (.ref CT) (some a) H')
theorem but_same {kd : Addr} {H H1 H2 : Hp} (n : H kd = none) (e : Same H H1) (b : But kd H1 H2) : Same H H2 := fun a o z => b a o (ne_of_none z n) (e _ _ z)
section
variable {P : Program} {w : World} {K : PySem.W.Frag} {mg : Str → Option Value} {base : Heap}
theorem scSs : FnScope NSs ["code", "machine"] (defScope sSs) := ⟨rfl, rfl, rfl, by decide +kernel, rfl, by decide +kernel, by decide +kernel⟩
theorem ok_Ss {f C CR CMa CS CO CT : Addr} {fd : FuncData} (F : Fun K "soonest_search" "soonest_search" sSs f fd) (cC : Cal (L2.CX P w) P w K mg base 3 "check_code_machine" (spCCM C CR CMa CO)) (mS : Mak CX0 P w K mg base 1 "Soonest" CS (spNI C CR CMa CS)) (cS : Cal (L2.CX P w) P w K mg base 8 "searcher_of" (spSeN C CR CMa CT CS)) : FnOk P w K mg base (L2.CX P w) 9 f fd ["code", "machine"] (spSs C CR CMa CO CT) := by
  refine F.okX scSs (fun vs H Q E h => ?_) (fun cdv A outer s H vs Q E hr h => ?_)
  · obtain ⟨q, m, ws, n, Ls, st, ms, rfl, _⟩ := h
    rfl
  · obtain ⟨q, m, ws, n, Ls, st, ms, rfl, cd, M, ok, k1, k2⟩ := h
    refine ⟨_, pss_cons (ps_expr (pe_c cC hr (passes_call (takes_of rfl rfl rfl rfl) fun _ _ _ _ h => h) (pa_cons (pv 0) (pa_cons (pv 1) pa_nil))))
      (pss_one (ps_ret (pe_c cS hr (passes_call (takes_of rfl rfl rfl rfl) fun _ _ _ _ h => h) (pa_cons (pe_mk mS hr pass0 (pa_cons (pv 0) (pa_cons (pv 1) pa_nil))) pa_nil)))), ?_⟩
    refine ⟨_, rfl, _, rfl, q, m, ws, n, Ls, st, ms, rfl, cd, M, fun e => ?_, k1⟩
    subst e
    obtain ⟨g1, g2⟩ := k2 rfl
    refine ⟨_, rfl, _, rfl, fun p dx np nd ne => ?_⟩
    have e1 : Same H (upd (upd H dx (.own p)) p (.ins CS dx [])) := fun b o z => (upd_ne (ne_of_none z np)).trans ((upd_ne (ne_of_none z nd)).trans z)
    refine ⟨p, dx, q, m, ⟨ws, Ls, st, ms⟩, H, rfl, upd_same, np, e1, ⟨cd, M, ok⟩, fun z H' ez nz e is => ?_⟩
    have fin : spSeN C CR CMa CT CS [.ref p] H' Q E := by
      refine ⟨p, z, rfl, is, fun N x H2 h1 h2 nx b2 M2 => ?_, fun T a H2 h1 na b2 ha => ?_⟩
      · unfold fiN at M2
        rw [ez] at h1 M2
        exact g1 N x H2 h1 h2 (e.free nx) (but_same nz e b2) M2
      · rw [ez] at h1
        exact g2 T a H2 h1 ⟨e.free na, but_same nz e b2, ha⟩
    exact ⟨rfl, fin⟩
end
end K61
set_option Elab.async false
set_option linter.all false
set_option maxRecDepth 100001
set_option maxHeartbeats 3999999
namespace K61
open PySem L2
/-! ### _law_is_sure -/
abbrev sLis : Stmt := topS 73
abbrev NLis : List Str := ["_law_words", "_law_table_here", "_law_marks_here", "_law_state", "_law_node", "_law_below", "_law_sign"]
def spLis : L2.Sp := fun vs H Q _ => ∃ (wd ta mk : Addr) (ts : List V) (d : SD) (s : Int) (x : W), vs = [.ref wd, .ref ta, .ref mk, .int s, wV x] ∧ H wd = some (.lst (d.ws.map wV)) ∧ H ta = some (.lst ts) ∧ TabAt H ts d.Ls ∧ H mk = some (.lst (d.ms.map V.int)) ∧ OkMa d.ws.length d.Ls d.st d.ms ∧ d.ws.length ≤ 60 ∧ 0 ≤ s ∧ s ≤ (d.Ls.length : Int) - 1 ∧ ∀ H', Same H H' → Q (.bl (surB d s x)) H'
section
variable {P : Program} {w : World} {K : PySem.W.Frag} {mg : Str → Option Value} {base : Heap}
theorem scLis : FnScope NLis ["_law_words", "_law_table_here", "_law_marks_here", "_law_state", "_law_node"] (defScope sLis) := ⟨rfl, rfl, rfl, by decide +kernel, rfl, by decide +kernel, by decide +kernel⟩
theorem ok_Lis {f : Addr} {fd : FuncData} (F : Fun K "_law_is_sure" "_law_is_sure" sLis f fd) (B : Bi mg) (Z : Bs mg) : FnOk P w K mg base CX0 1 f fd ["_law_words", "_law_table_here", "_law_marks_here", "_law_state", "_law_node"] spLis := by
  refine F.ok scLis (fun vs H Q E h => ?_) (fun cdv A outer s H vs Q E hr h => ?_)
  · obtain ⟨wd, ta, mk, ts, d, s, x, rfl, _⟩ := h
    rfl
  · obtain ⟨wd, ta, mk, ts, d, s, x, rfl, hw, hta, tab, hmk, O, l6, s1, s2, q⟩ := h
    refine ⟨_, pss_cons (ps_setLc (i := 5) (own := [("_law_sign", 6)]) rfl scLis.nd rfl rfl (sw_true rfl rfl rfl (by decide +kernel)) (pi_range1 rfl B.range (pa_cons (pe_len B.len (pa_cons (pv 0) pa_nil)) pa_nil)) (blkOk_by (N := NLis) (sc := defScope sLis) (by decide +kernel)) (fun _ _ _ _ _ => (pg_name (i := 6) scLis.nd rfl (Or.inl rfl))) (fun _ _ _ _ _ => (pts_one (pt_val (pe_bmK K rfl PySem.F.plainAttrs_str PySem.F.slot_str_startswith PySem.F.type_str_startswith mt_startswith (pe_ix (ix_listK K rfl) (pv 0) (pv 6) (fun _ _ => rfl)) (pa_cons (pv 4) pa_nil))))) (fun _ _ _ _ _ => (pv 6)))
      (pss_one (ps_ret (pe_and (pe_cmpR op_ne (pv 4) pe_str (nomark _)) (pe_one (pe_all rfl Z.all (pa_cons (pe_lc (own := [("_law_sign", 6)]) rfl scLis.nd (pi_sqA (pv 5)) (blkOk_by (N := NLis) (sc := defScope sLis) (by decide +kernel)) (fun _ _ _ _ _ => (pg_name (i := 6) scLis.nd rfl (Or.inl rfl))) (fun _ _ _ _ _ => pts_nil) (fun _ _ _ _ _ => (pe_cmpR (op_in_seqK K rfl) (pe_ix (ix_listK K rfl) (pe_ix (ix_listK K rfl) (pv 1) (pv 3) (fun _ _ => rfl)) (pv 6) (fun _ _ => rfl)) (pv 2) (by with_unfolding_all rfl)))) pa_nil)))))), ?_⟩
    have lw : (d.ws.map wV).length = d.ws.length := List.length_map _
    obtain ⟨i, ei⟩ := Int.eq_ofNat_of_zero_le s1
    have li : i < d.Ls.length := by omega
    have hL := List.getElem?_eq_getElem li
    generalize d.Ls[i] = L0 at hL
    obtain ⟨tv, htv, g, rfl, hg⟩ := paired_to tab hL
    obtain ⟨lL, rL⟩ := O.row L0 (List.mem_of_getElem? hL)
    refine ⟨_, rfl, wd, _, rfl, .inl (SqL.of hw), _, rfl, by rw [lw]; omega, by rw [lw]; omega, fun BL nBL => lcF (walk_range (lo := 0)) (fun k => decide (x <+: d.ws.getD k [])) (fun k => V.int ((k : Nat) : Int)) (by rw [lw]; omega) nBL (fun _ _ => True.intro) ?_ ?_⟩
    · rintro k v H2 H3 Q' N hk e2 ⟨rfl, rfl⟩ yes no
      rw [lw] at hk
      have hk : k < d.ws.length := by omega
      have ek : (0 : Int) + ((k : Nat) : Int) = ((k : Nat) : Int) := by omega
      have hwk := List.getElem?_eq_getElem hk
      have gw : d.ws.getD k [] = d.ws[k] := by rw [List.getD_eq_getElem?_getD, hwk]; rfl
      rw [gw] at yes no
      generalize d.ws[k] = u at hwk yes no
      dsimp only
      rw [ek]
      refine ⟨rfl, _, rfl, _, rfl, wd, _, _, wV u, rfl, rfl, SqL.of (e2 _ _ hw), atI_nat (by rw [List.getElem?_map, hwk]; rfl), rfl, _, rfl, bS u, bS x, rfl, rfl, ?_⟩
      refine ⟨_, rfl, ?_⟩
      rw [sw_bS]
      by_cases c : x <+: u
      · rw [decide_eq_true c] at yes ⊢
        exact iteT ⟨_, rfl, yes rfl _ (Same.refl _)⟩
      · rw [decide_eq_false c] at no ⊢
        exact iteF (no rfl _ (Same.refl _))
    · intro H2 e2 hBL
      rw [lw] at hBL
      refine gN ?_
      dsimp only
      have e1 : decide (wV x = V.str "") = decide (x = []) := decide_eq_decide.mpr ⟨fun z => by
        have z : V.str (bS x) = V.str (bS []) := z
        injection z with z
        exact bS_inj z, fun z => by rw [z]; rfl⟩
      refine ⟨_, rfl, rfl, _, rfl, ?_⟩
      rw [e1]
      by_cases c : x = []
      · rw [decide_eq_true c]
        have := q H2 e2
        unfold surB at this
        rw [decide_eq_true c] at this
        exact iteF this
      · rw [decide_eq_false c]
        have := q
        unfold surB at this
        rw [decide_eq_false c] at this
        refine iteT ?_
        obtain ⟨fl, efl⟩ : ∃ fl : List Nat, fl = (List.range d.ws.length).filter fun k => decide (x <+: d.ws.getD k []) := ⟨_, rfl⟩
        have flt : ∀ o ∈ fl, o < d.ws.length := fun o ho => by
          rw [efl] at ho
          exact List.mem_range.mp (List.mem_filter.mp ho).1
        have lfl : fl.length ≤ d.ws.length := by
          rw [efl]
          refine Nat.le_trans (List.length_filter_le _ _) ?_
          rw [List.length_range]
          exact Nat.le_refl _
        rw [Int.toNat_natCast, ← efl] at hBL
        refine ⟨_, rfl, BL, _, rfl, .inl (SqL.of hBL), fun J G wk hG KD nKD => lcM wk (fun k => V.bl (gdS d s (fl.getD k 0))) (by rw [List.length_map]; omega) nKD (fun H' e => hG H' fun o z => e _ _ z) ?_ ?_⟩
        · rintro k v H3 H4 N hk e3 ⟨rfl, hv⟩ fin
          have e23 := e2.trans e3
          rw [List.getElem?_map] at hv
          cases hf : fl[k]? with
          | none => rw [hf] at hv; cases hv
          | some o =>
            rw [hf] at hv
            cases hv
            have lo := flt o (List.mem_of_getElem? hf)
            have hL0 : L0[o]? = some L0[o] := List.getElem?_eq_getElem (by omega)
            have gk : fl.getD k 0 = o := by rw [List.getD_eq_getElem?_getD, hf]; rfl
            have fin := fin _ (Same.refl _)
            rw [gk] at fin
            unfold gdS nxt at fin
            rw [ei, Int.toNat_natCast, Int.toNat_natCast] at fin
            simp only [List.getD_eq_getElem?_getD, hL, hL0, Option.getD_some] at fin
            refine ⟨rfl, _, rfl, _, rfl, ta, ts, _, .ref g, rfl, rfl, SqL.of (e23 _ _ hta), (by rw [ei]; exact atI_nat htv), _, rfl, g, _, _, _, rfl, rfl, SqL.of (e23 _ _ hg), atI_nat (by rw [List.getElem?_map, hL0]; rfl), _, rfl, mk, _, rfl, .inl (SqL.of (e23 _ _ hmk)), rfl, flat_ints _, ?_⟩
            rw [show inV (V.int L0[o]) (d.ms.map V.int) = decide (L0[o] ∈ d.ms) from inV_ints _ _]
            exact fin
        · intro H3 e3 hKD
          refine ⟨KD, (List.range fl.length).map fun k => gdS d s (fl.getD k 0), rfl, ?_, ?_⟩
          · refine SqL.of ?_
            rw [hKD, List.map_map, List.length_map]
            rfl
          · have ea : ((List.range fl.length).map fun k => gdS d s (fl.getD k 0)).all id = ovB d.ws (gdS d s) x := by
              have e5 : ((List.range fl.length).map fun k => gdS d s (fl.getD k 0)) = fl.map (gdS d s) := by
                refine List.ext_getElem (by simp) fun k h1 h2 => ?_
                simp only [List.getElem_map, List.getElem_range]
                rw [List.getD_eq_getElem?_getD, List.getElem?_eq_getElem (by simpa using h2)]
                rfl
              rw [e5, Bool.eq_iff_iff, ovB_iff, List.all_eq_true]
              constructor
              · intro h o u hu p
                refine h (gdS d s o) (List.mem_map.mpr ⟨o, ?_, rfl⟩)
                rw [efl]
                refine List.mem_filter.mpr ⟨List.mem_range.mpr (List.getElem?_eq_some_iff.mp hu).1, decide_eq_true ?_⟩
                rw [List.getD_eq_getElem?_getD, hu]
                exact p
              · intro h v hv
                obtain ⟨o, ho, rfl⟩ := List.mem_map.mp hv
                rw [efl] at ho
                obtain ⟨h1, h2⟩ := List.mem_filter.mp ho
                have h2 := of_decide_eq_true h2
                have lo := List.mem_range.mp h1
                rw [List.getD_eq_getElem?_getD, List.getElem?_eq_getElem lo] at h2
                exact h o _ (List.getElem?_eq_getElem lo) h2
            rw [ea]
            exact this H3 (e2.trans e3)
end
end K61
set_option Elab.async false
set_option linter.all false
set_option maxRecDepth 100001
set_option maxHeartbeats 3999999
namespace K61
open PySem L2
/-! ### _law_soonest -/
abbrev sLso : Stmt := topS 74
abbrev NLso : List Str := ["_law_words", "_law_table_here", "_law_start", "_law_marks_here", "_law_by_word_here", "_law_numbers_here", "_law_order", "_law_found", "_law_turn", "_law_state", "_law_node", "_law_told", "_law_was", "_law_goals", "_law_bit", "_law_more", "_law_sign", "_law_goal", "_law_k"]
abbrev tbN (d : SD) (t : Nat) : List (List Int) := tbl (fN d) (stN d) t
def mkDnN (d : SD) (t : Nat) : List Int := selM (fun i => ((bfN d t).getD i (fN d)).2.2) (bfN d t).length
theorem Ful.allN {d : SD} (F : Ful d.ws) (O : OkMa d.ws.length d.Ls d.st d.ms) (t : Nat) : ∀ x ∈ bfN d t, vN d x := bf_inv (Val := vN d) ⟨O.s1, O.s2, F.root⟩ (fun x b v => F.step O v b) t
/-- where the law's search stands -/
structure LoH (P : Program) (w : World) (NU OR FO : Addr) (X : Addr → Prop) (H H' : Hp) (on o : List Tri) (vs fs : List V) (T : List (List Int)) : Prop where
  e : Same H H'
  u : IsN P w H' NU (numsK encN on)
  hO : H' OR = some (.lst vs)
  s : StsN H' vs o
  hF : H' FO = some (.lst fs)
  tb : TabF (fun a => a ≠ OR ∧ a ≠ FO ∧ ¬ X a) H' fs T
section
variable {P : Program} {w : World} {NU OR FO : Addr} {X Y : Addr → Prop} {H H' H2 : Hp} {on o : List Tri} {vs fs : List V} {T : List (List Int)}
theorem LoH.same (h : LoH P w NU OR FO X H H' on o vs fs T) (e : Same H' H2) : LoH P w NU OR FO X H H2 on o vs fs T := ⟨h.e.trans e, h.u.same e, e _ _ h.hO, h.s.tt fun a xs z => e _ _ z, e _ _ h.hF, h.tb.same e⟩
theorem LoH.sub (h : LoH P w NU OR FO X H H' on o vs fs T) (s : ∀ a, Y a → X a) : LoH P w NU OR FO Y H H' on o vs fs T := ⟨h.e, h.u, h.hO, h.s, h.hF, Paired.mapP h.tb fun _ _ ⟨a, h1, ⟨h2, h3, h4⟩, h5⟩ => ⟨a, h1, ⟨h2, h3, fun y => h4 (s a y)⟩, h5⟩⟩
theorem LoH.new (h : LoH P w NU OR FO (fun _ => False) H H' on o vs fs T) {R : Addr} (n : H' R = none) (e : Same H' H2) : LoH P w NU OR FO (fun a => a = R) H H2 on o vs fs T := ⟨h.e.trans e, h.u.same e, e _ _ h.hO, h.s.tt fun a xs z => e _ _ z, e _ _ h.hF, Paired.mapP h.tb fun _ _ ⟨a, h1, ⟨h2, h3, _⟩, h5⟩ => ⟨a, h1, ⟨h2, h3, ne_of_none h5 n⟩, e _ _ h5⟩⟩
theorem LoH.row {R : Addr} {xs ys : List V} (h : LoH P w NU OR FO (fun a => a = R) H H' on o vs fs T) (hR : H' R = some (.lst xs)) (nR : H R = none) (nO : OR ≠ R) (nF : FO ≠ R) : LoH P w NU OR FO (fun a => a = R) H (upd H' R (.lst ys)) on o vs fs T := by
  have tt : ∀ a xs, H' a = some (.tup xs) → upd H' R (.lst ys) a = some (.tup xs) := fun a xs z => (upd_ne (ne_of z hR fun y => nomatch y)).trans z
  obtain ⟨φ, hφ⟩ := h.u.obj
  exact ⟨fun b o z => (upd_ne (ne_of_none z nR)).trans (h.e _ _ z), h.u.keep (fun o z => (upd_ne (ne_of hφ hR fun y => nomatch y)).trans z) tt, (upd_ne nO).trans h.hO, h.s.tt tt, (upd_ne nF).trans h.hF, h.tb.upd fun a xs p z => (upd_ne p.2.2).trans z⟩
theorem LoH.num (h : LoH P w NU OR FO X H H' on o vs fs T) {on2 : List Tri} (bn : ButN NU H' H2) (g : IsN P w H2 NU (numsK encN on2)) (nN : H NU = none) : LoH P w NU OR FO X H H2 on2 o vs fs T := by
  obtain ⟨φ, hφ⟩ := h.u.obj
  have tt := h.u.tups bn
  have ot : ∀ a u, H' a = some u → (∀ φ, u ≠ .ext φ) → H2 a = some u := fun a u z n => by
    rw [bn a (ne_of z hφ (n φ))]
    exact z
  exact ⟨fun b o z => by
    rw [bn b (ne_of_none z nN)]
    exact h.e _ _ z, g, ot _ _ h.hO (fun _ z => nomatch z), h.s.tt tt, ot _ _ h.hF (fun _ z => nomatch z), h.tb.upd fun a xs _ z => ot _ _ z (fun _ z => nomatch z)⟩
theorem LoH.putO (h : LoH P w NU OR FO X H H' on o vs fs T) (nO : H OR = none) (nF : FO ≠ OR) {a : Addr} {y : Tri} (ha : H' a = some (.tup (enN y))) : LoH P w NU OR FO X H (upd H' OR (.lst (vs ++ [.ref a]))) on (o ++ [y]) (vs ++ [.ref a]) fs T := by
  have tt : ∀ b xs, H' b = some (.tup xs) → upd H' OR (.lst (vs ++ [.ref a])) b = some (.tup xs) := fun b xs z => (upd_ne (ne_of z h.hO fun y => nomatch y)).trans z
  obtain ⟨φ, hφ⟩ := h.u.obj
  exact ⟨fun b o z => (upd_ne (ne_of_none z nO)).trans (h.e _ _ z), h.u.keep (fun o z => (upd_ne (ne_of hφ h.hO fun y => nomatch y)).trans z) tt, upd_same, Paired.snoc (h.s.tt tt) ⟨a, rfl, tt _ _ ha⟩, (upd_ne nF).trans h.hF, h.tb.upd fun a xs p z => (upd_ne p.1).trans z⟩
theorem LoH.putF {R : Addr} {L : List Int} (h : LoH P w NU OR FO (fun a => a = R) H H' on o vs fs T) (nF : H FO = none) (nO : OR ≠ FO) (hR : H' R = some (.lst (L.map V.int))) (rO : R ≠ OR) (rF : R ≠ FO) : LoH P w NU OR FO (fun _ => False) H (upd H' FO (.lst (fs ++ [.ref R]))) on o vs (fs ++ [.ref R]) (T ++ [L]) := by
  have tt : ∀ b xs, H' b = some (.tup xs) → upd H' FO (.lst (fs ++ [.ref R])) b = some (.tup xs) := fun b xs z => (upd_ne (ne_of z h.hF fun y => nomatch y)).trans z
  obtain ⟨φ, hφ⟩ := h.u.obj
  exact ⟨fun b o z => (upd_ne (ne_of_none z nF)).trans (h.e _ _ z), h.u.keep (fun o z => (upd_ne (ne_of hφ h.hF fun y => nomatch y)).trans z) tt, (upd_ne nO).trans h.hO, h.s.tt tt, upd_same, Paired.snoc (Paired.mapP h.tb fun _ _ ⟨a, h1, ⟨h2, h3, _⟩, h4⟩ => ⟨a, h1, ⟨h2, h3, id⟩, (upd_ne h3).trans h4⟩) ⟨R, rfl, ⟨rO, rF, id⟩, (upd_ne rF).trans hR⟩⟩
end
def spLso : L2.Sp := fun vs H Q _ => ∃ (wd ta mk : Addr) (ts : List V) (d : SD), vs = [.ref wd, .ref ta, .int d.st, .ref mk] ∧ H wd = some (.lst (d.ws.map wV)) ∧ H ta = some (.lst ts) ∧ TabAt H ts d.Ls ∧ H mk = some (.lst (d.ms.map V.int)) ∧ Ful d.ws ∧ OkMa d.ws.length d.Ls d.st d.ms ∧ d.ws.length ≤ 60 ∧
  ∀ r f g fs H', Same H H' → H' r = some (.tup [.ref f, .ref g]) → H' f = some (.lst fs) → TabAt H' fs (tbN d 400) → H' g = some (.lst ((mkDnN d 400).map V.int)) → Q (.ref r) H'
section
variable {P : Program} {w : World} {K : PySem.W.Frag} {mg : Str → Option Value} {base : Heap}
theorem scLso : FnScope NLso ["_law_words", "_law_table_here", "_law_start", "_law_marks_here"] (defScope sLso) := ⟨rfl, rfl, rfl, by decide +kernel, rfl, by decide +kernel, by decide +kernel⟩
theorem ok_Lso {f : Addr} {fd : FuncData} (F : Fun K "_law_soonest" "_law_soonest" sLso f fd) (B : Bi mg) (cB : Cal CX0 P w K mg base 1 "_law_by_word" spBW) (cR : Cal CX0 P w K mg base 1 "_law_read" spLR) (cI : Cal CX0 P w K mg base 1 "_law_is_sure" spLis) : FnOk P w K mg base CX0 2 f fd ["_law_words", "_law_table_here", "_law_start", "_law_marks_here"] spLso := by
  refine F.ok scLso (fun vs H Q E h => ?_) (fun cdv A outer s H vs Q E hr h => ?_)
  · obtain ⟨wd, ta, mk, ts, d, rfl, _⟩ := h
    rfl
  · obtain ⟨wd, ta, mk, ts, d, rfl, hw, hta, tab, hmk, FU, O, l6, q⟩ := h
    refine ⟨_, pss_cons (ps_asg (pe_tup (pa_cons (pe_c cB hr pass0 (pa_cons (pv 0) pa_nil)) (pa_cons (pe_dispN1 (hu64 hr) (pe_tup (pa_cons (pv 2) (pa_cons pe_str (pa_cons pe_bl pa_nil)))) pe_int) (pa_cons (pe_lst (pa_cons (pe_tup (pa_cons (pv 2) (pa_cons pe_str (pa_cons pe_bl pa_nil)))) pa_nil)) (pa_cons (pe_lst pa_nil) pa_nil))))) (pg_tup rfl (pgs_cons (pg_name (i := 4) scLso.nd rfl (Or.inl rfl)) (pgs_cons (pg_name (i := 5) scLso.nd rfl (Or.inl rfl)) (pgs_cons (pg_name (i := 6) scLso.nd rfl (Or.inr rfl)) (pgs_cons (pg_name (i := 7) scLso.nd rfl (Or.inl rfl)) pgs_nil))))))
      (pss_cons (ps_for PassesOwn.never rfl (pi_range1 rfl B.range (pa_cons pe_int pa_nil)) (pg_name (i := 8) scLso.nd rfl (Or.inl rfl))
        (pss_one (ps_if (pt_cmpR op_lt (pv 8) (pe_len B.len (pa_cons (pv 6) pa_nil)) (nomark _)) (pss_cons (ps_asg (pe_ix ix_list (pv 6) (pv 8) (fun _ _ => rfl)) (pg_tup rfl (pgs_cons (pg_name (i := 9) scLso.nd rfl (Or.inl rfl)) (pgs_cons (pg_name (i := 10) scLso.nd rfl (Or.inl rfl)) (pgs_cons (pg_name (i := 11) scLso.nd rfl (Or.inl rfl)) pgs_nil)))))
          (pss_cons (ps_par (i := 12) (j := 13) rfl scLso.nd rfl rfl (by decide) rfl rfl (pa_cons (pe_c cI hr pass0 (pa_cons (pv 0) (pa_cons (pv 1) (pa_cons (pv 3) (pa_cons (pv 9) (pa_cons (pv 10) pa_nil)))))) (pa_cons (pe_lst pa_nil) pa_nil)) rfl)
          (pss_cons (ps_for PassesOwn.never rfl (pi_str pe_str) (pg_name (i := 14) scLso.nd rfl (Or.inl rfl))
            (pss_cons (ps_asg (pe_c cR hr pass0 (pa_cons (pv 4) (pa_cons (pv 10) (pa_cons (pv 14) pa_nil)))) (pg_tup rfl (pgs_cons (pg_name (i := 15) scLso.nd rfl (Or.inl rfl)) (pgs_cons (pg_name (i := 16) scLso.nd rfl (Or.inl rfl)) pgs_nil))))
            (pss_cons (ps_set (i := 17) scLso.nd rfl (Or.inl rfl) (pe_tup (pa_cons (pv 9) (pa_cons (pv 15) (pa_cons (pe_and (pe_not (pv 12)) (pe_one (pe_c cI hr pass0 (pa_cons (pv 0) (pa_cons (pv 1) (pa_cons (pv 3) (pa_cons (pv 9) (pa_cons (pv 15) pa_nil)))))))) pa_nil)))))
            (pss_cons (ps_if (pt_cmpR op_notN (pv 16) pe_non (nomark _)) (pss_one (ps_set (i := 17) scLso.nd rfl (Or.inl rfl) (pe_tup (pa_cons (pe_ix ix_list (pe_ix ix_list (pv 1) (pv 9) (fun _ _ => rfl)) (pv 16) (fun _ _ => rfl)) (pa_cons pe_str (pa_cons (pe_and (pe_not (pv 12)) (pe_one (pe_cmpR op_in_seq (pe_ix ix_list (pe_ix ix_list (pv 1) (pv 9) (fun _ _ => rfl)) (pv 16) (fun _ _ => rfl)) (pv 3) (by with_unfolding_all rfl)))) pa_nil)))))) pss_nil)
            (pss_cons (ps_if (pt_cmp (pc_nnotin (hu64 hr) (pv 17) (pv 5))) (pss_cons (ps_nput (hu64 hr) (pv 5) (pv 17) (pe_len B.len (pa_cons (pv 6) pa_nil)) rfl)
              (pss_one (ps_expr (pe_bm PySem.F.plainAttrs_list PySem.F.slot_list_append PySem.F.type_list_append mt_append (pv 6) (pa_cons (pv 17) pa_nil))))) pss_nil)
            (pss_one (ps_expr (pe_bm PySem.F.plainAttrs_list PySem.F.slot_list_append PySem.F.type_list_append mt_append (pv 13) (pa_cons (pe_nget (hu64 hr) (pv 5) (pv 17) (fun _ _ => rfl)) pa_nil)))))))))
          (pss_one (ps_expr (pe_bm PySem.F.plainAttrs_list PySem.F.slot_list_append PySem.F.type_list_append mt_append (pv 7) (pa_cons (pv 13) pa_nil))))))) pss_nil)))
      (pss_one (ps_ret (pe_tup (pa_cons (pv 7) (pa_cons (pe_lc (own := [("_law_k", 18)]) rfl scLso.nd (pi_range1 rfl B.range (pa_cons (pe_len B.len (pa_cons (pv 6) pa_nil)) pa_nil)) (blkOk_by (N := NLso) (sc := defScope sLso) (by decide +kernel)) (fun _ _ _ _ _ => (pg_name (i := 18) scLso.nd rfl (Or.inl rfl))) (fun _ _ _ _ _ => (pts_one (pt_val (pe_ix (ix_tupK K rfl) (pe_ix (ix_listK K rfl) (pv 6) (pv 18) (fun _ _ => rfl)) pe_int (fun _ _ => rfl))))) (fun _ _ _ _ _ => (pv 18))) pa_nil)))))), ?_⟩
    have k1 := O.k1
    have lT := O.k2
    refine ⟨_, rfl, wd, d.ws, rfl, hw, FU.pf, l6, fun D H0 nD e0 hD => ?_⟩
    refine fun NU nNU => ⟨_, rfl, by show 3 ≤ sizeLine; decide, fun t0 nt0 => ?_⟩
    have nNUH : H NU = none := e0.free nNU
    have e1 := same_new (o := DN P w NU []) nNU
    have g1 : upd H0 NU (DN P w NU []) NU = some (DN P w NU []) := upd_same
    have e2 := same_new (o := .tup [.int d.st, .str "", .bl false]) nt0
    have ht0 : upd (upd H0 NU (DN P w NU [])) t0 (.tup [.int d.st, .str "", .bl false]) t0 = some (.tup (enN (fN d))) := upd_same
    refine ⟨_, IsN.empty (e2 _ _ g1), encN_is (z := fN d) ht0, encN_depth _, fun H3 bn g3 => ?_⟩
    have e03 : Same H H3 := fun b o z => by
      rw [bn b (ne_of_none z nNUH)]
      exact e2 _ _ (e1 _ _ (e0 _ _ z))
    have hD3 : H3 D = some (.dK (byW d.ws)) := by
      have : D ≠ NU := ne_of_none hD nNU
      rw [bn D this]
      exact e2 _ _ (e1 _ _ hD)
    have g3 : IsN P w H3 NU (numsK encN [fN d]) := g3
    clear e0 e1 e2 g1 ht0 nt0 bn
    obtain ⟨φ3, hφ3⟩ := g3.obj
    refine ⟨_, rfl, by show 3 ≤ sizeLine; decide, fun t1 nt1 => ⟨by show 1 ≤ sizeLine; decide, fun OR nOR => ?_⟩⟩
    have e3 := same_new (o := .tup [.int d.st, .str "", .bl false]) nt1
    have ht1 : upd H3 t1 (.tup [.int d.st, .str "", .bl false]) t1 = some (.tup (enN (fN d))) := upd_same
    have e04 := e03.trans e3
    have g4 := g3.same e3
    have hD4 := e3 _ _ hD3
    generalize upd H3 t1 (.tup [.int d.st, .str "", .bl false]) = H4 at e04 g4 hD4 ht1 nOR ⊢
    have nO : H OR = none := e04.free nOR
    have e4 := same_new (o := .lst [.ref t1]) nOR
    have hO4 : upd H4 OR (.lst [.ref t1]) OR = some (.lst [.ref t1]) := upd_same
    have e05 := e04.trans e4
    have g5 := g4.same e4
    have hD5 := e4 _ _ hD4
    have ht5 := e4 _ _ ht1
    generalize upd H4 OR (.lst [.ref t1]) = H5 at e05 g5 hD5 ht5 hO4 ⊢
    refine ⟨by show 0 ≤ sizeLine; decide, fun FO nFO => ?_⟩
    have dOF : OR ≠ FO := ne_of_none hO4 nFO
    have nF : H FO = none := e05.free nFO
    have e5 := same_new (o := .lst []) nFO
    have hF5 : upd H5 FO (.lst []) FO = some (.lst []) := upd_same
    have S5 : LoH P w NU OR FO (fun _ => False) H (upd H5 FO (.lst [])) (bfN d 0) (bfN d 0) [.ref t1] [] (tbN d 0) := ⟨e05.trans e5, g5.same e5, e5 _ _ hO4, .cons ⟨t1, rfl, e5 _ _ ht5⟩ .nil, hF5, .nil⟩
    have hD6 := e5 _ _ hD5
    generalize upd H5 FO (.lst []) = H6 at S5 hD6 ⊢
    clear e03 hD3 g3 hφ3 nt1 e3 e04 g4 hD4 ht1 nOR e4 hO4 e05 g5 hD5 ht5 e5 hF5 nFO
    refine ⟨by show 4 ≤ sizeLine; decide, fun t3 nt3 => ⟨t3, _, rfl, SqT.of upd_same, rfl, _, _, rfl, _, _, rfl, _, _, rfl, _, _, rfl, rfl, ?_⟩⟩
    have e6 := same_new (o := .tup [.ref D, .ref NU, .ref OR, .ref FO]) nt3
    have S6 := S5.same e6
    have hD7 := e6 _ _ hD6
    generalize upd H6 t3 (.tup [.ref D, .ref NU, .ref OR, .ref FO]) = H7 at S6 hD7 ⊢
    clear e6 S5 hD6 nt3
    dsimp only
    have vAll := Ful.allN FU O
    refine ⟨_, rfl, by decide, by decide, for_range (lo := 0) (n := (400 : Int).toNat) (fun i σ H' => ∃ (x8 x9 x10 x11 x12 x13 x14 x15 x16 x17 : Option V) (vs fs : List V), σ = [some (.ref wd), some (.ref ta), some (.int d.st), some (.ref mk), some (.ref D), some (.ref NU), some (.ref OR), some (.ref FO), x8, x9, x10, x11, x12, x13, x14, x15, x16, x17, none] ∧ H' D = some (.dK (byW d.ws)) ∧ LoH P w NU OR FO (fun _ => False) H H' (bfN d i) (bfN d i) vs fs (tbN d i))
      ⟨none, none, none, none, none, none, none, none, none, none, _, _, rfl, hD7, S6⟩ ?_ ?_⟩
    · rintro i σ G hi ⟨x8, x9, x10, x11, x12, x13, x14, x15, x16, x17, vs, fs, rfl, gD, S⟩
      have hi : i < 400 := hi
      have lvs := Paired.length S.s
      have lfs := Paired.length S.tb
      have lb : (bfN d i).length ≤ 1 + 2 * i := bf_len _
      refine gN ?_
      dsimp only
      refine ⟨_, rfl, _, rfl, OR, vs, rfl, .inl (SqL.of S.hO), _, _, rfl, rfl, _, rfl, ?_⟩
      rw [lvs]
      rcases Nat.lt_or_ge i (bfN d i).length with c | c
      · rw [decide_eq_true (show (0 : Int) + ((i : Nat) : Int) < (((bfN d i).length : Nat) : Int) by omega)]
        refine iteT ?_
        have ei : (0 : Int) + ((i : Nat) : Int) = ((i : Nat) : Int) := by omega
        rw [ei]
        obtain ⟨⟨s0, w0, y0⟩, hx0⟩ : ∃ x0, (bfN d i)[i]? = some x0 := ⟨_, List.getElem?_eq_getElem c⟩
        obtain ⟨v0, hv0, a0, rfl, ha0⟩ := paired_to S.s hx0
        have vx := vAll i _ (List.mem_of_getElem? hx0)
        obtain ⟨sv1, sv2, snd⟩ := vx
        have lw0 : w0.length ≤ 2000 := FU.nd snd
        refine ⟨_, rfl, _, rfl, OR, vs, _, .ref a0, rfl, rfl, SqL.of S.hO, atI_nat hv0, a0, _, rfl, SqT.of ha0, rfl, _, _, rfl, _, _, rfl, _, _, rfl, rfl, ?_⟩
        dsimp only
        refine ⟨_, rfl, _, rfl, _, rfl, _, rfl, _, rfl, wd, ta, mk, ts, d, s0, w0, rfl, S.e _ _ hw, S.e _ _ hta, Paired.mapP tab fun _ _ ⟨a, h1, h2⟩ => ⟨a, h1, S.e _ _ h2⟩, S.e _ _ hmk, O, l6, sv1, sv2, fun G1 ex1 => ?_⟩
        have S1 := S.same ex1
        have gD1 := ex1 _ _ gD
        clear S gD ex1 ha0 hv0
        refine ⟨by show 0 ≤ sizeLine; decide, fun RW nRW => ⟨_, _, rfl, ?_⟩⟩
        have dOR : OR ≠ RW := ne_of_none S1.hO nRW
        have dFR : FO ≠ RW := ne_of_none S1.hF nRW
        have nR : H RW = none := S1.e.free nRW
        have e5 := same_new (o := .lst []) nRW
        have S2 := S1.new nRW e5
        have gRW : upd G1 RW (.lst []) RW = some (.lst []) := upd_same
        have gD2 := e5 _ _ gD1
        generalize upd G1 RW (.lst []) = G5 at S2 gRW gD2 ⊢
        clear e5 nRW S1 gD1
        dsimp only
        have nd : (bfN d i).Nodup := bf_nodup (first := fN d) (step := stN d) i
        have eb : bfN d (i + 1) = ex1 (stN d) (bfN d i) (s0, w0, y0) := bf_some hx0
        refine ⟨"01", rfl, for_it (D := { nx := _, rt := Q, bk := _, ct := _ }) walk_str (fun k σ H' => ∃ (x14 x15 x16 x17 : Option V) (vs' : List V), σ = [some (.ref wd), some (.ref ta), some (.int d.st), some (.ref mk), some (.ref D), some (.ref NU), some (.ref OR), some (.ref FO), some (.int ((i : Nat) : Int)), some (.int s0), some (wV w0), some (.bl y0), some (.bl (surB d s0 w0)), some (.ref RW), x14, x15, x16, x17, none] ∧ H' D = some (.dK (byW d.ws)) ∧ LoH P w NU OR FO (fun a => a = RW) H H' (oI (stN d) (bfN d i) (s0, w0, y0) k) (oI (stN d) (bfN d i) (s0, w0, y0) k) vs' fs (tbN d i) ∧ H' RW = some (.lst (((rwS (bfN d (i + 1)) (stN d) (s0, w0, y0)).take k).map V.int)))
          ⟨x14, x15, x16, x17, vs, rfl, gD2, S2, gRW⟩ (fun _ _ _ _ _ => True.intro) ?_ ?_⟩
        · rintro k x σ H6 H6' hk ⟨y14, y15, y16, y17, vs', rfl, hD6, S6, hR⟩ ⟨rfl, ch, hch, rfl⟩
          have hk : k < 2 := hk
          have ech := ch01 hk hch
          subst ech
          have pre := oI_pre (stN d) (bfN d i) (s0, w0, y0) (i := k) (by omega)
          have ndo := oI_nodup (stN d) _ (s0, w0, y0) nd (i := k) (by omega)
          have es := oI_succ (stN d) (bfN d i) (s0, w0, y0) hk
          have er := oI_row (stN d) (bfN d i) (s0, w0, y0) hk
          have lo : (oI (stN d) (bfN d i) (s0, w0, y0) k).length ≤ 900 := by
            have h1 := pre.2.length_le
            rw [← eb] at h1
            have h2 : (bfN d (i + 1)).length ≤ 1 + 2 * (i + 1) := bf_len _
            omega
          rw [← eb] at er
          generalize decide (k = 1) = b at es er
          generalize eo : oI (stN d) (bfN d i) (s0, w0, y0) k = o at S6 pre ndo es lo
          have lvs6 := Paired.length S6.s
          refine gN ?_
          dsimp only
          refine ⟨_, rfl, _, rfl, _, rfl, D, d.ws, w0, b, rfl, hD6, FU.pf, by omega, fun r H7 e7 hr7 => ⟨r, _, rfl, SqT.of hr7, rfl, _, _, rfl, _, _, rfl, rfl, ?_⟩⟩
          have S7 := S6.same e7
          have hD7 := e7 _ _ hD6
          have hR7 := e7 _ _ hR
          clear S6 hD6 hR e7 hr7
          dsimp only
          -- the triple, first as if no sign had ended
          refine cutSeq (fun σ8 H8 => ∃ (u0 : Addr), σ8 = [some (.ref wd), some (.ref ta), some (.int d.st), some (.ref mk), some (.ref D), some (.ref NU), some (.ref OR), some (.ref FO), some (.int ((i : Nat) : Int)), some (.int s0), some (wV w0), some (.bl y0), some (.bl (surB d s0 w0)), some (.ref RW), some (.str ⟨#[cd b]⟩), some (wV (ndB d.ws w0 b)), some (sgV (sgB d.ws w0 b)), some (.ref u0), none] ∧ Same H7 H8 ∧ H8 u0 = some (.tup [.int s0, wV (ndB d.ws w0 b), .bl (!surB d s0 w0 && surB d s0 (ndB d.ws w0 b))])) (fun nx hnx => ?_) ?_
          · refine ⟨_, rfl, _, rfl, _, rfl, ?_⟩
            cases cw : surB d s0 w0 with
            | true =>
              rw [cw] at hnx
              refine ⟨_, rfl, _, rfl, iteF ⟨by show 3 ≤ sizeLine; decide, fun u nu => hnx _ _ ⟨u, rfl, same_new nu, upd_same⟩⟩⟩
            | false =>
              rw [cw] at hnx
              refine ⟨_, rfl, _, rfl, iteT ⟨_, rfl, _, rfl, _, rfl, _, rfl, _, rfl, wd, ta, mk, ts, d, s0, ndB d.ws w0 b, rfl, S7.e _ _ hw, S7.e _ _ hta, Paired.mapP tab fun _ _ ⟨a, h1, h2⟩ => ⟨a, h1, S7.e _ _ h2⟩, S7.e _ _ hmk, O, l6, sv1, sv2, fun H8 e8 => ⟨by show 3 ≤ sizeLine; decide, fun u nu => hnx _ _ ⟨u, rfl, e8.trans (same_new nu), upd_same⟩⟩⟩⟩
          rintro σ8 H8 ⟨u0, rfl, e8, hu0⟩
          have S8 := S7.same e8
          have hD8 := e8 _ _ hD7
          have hR8 := e8 _ _ hR7
          clear S7 hD7 hR7 e8
          -- the triple
          refine cutSeq (fun σ8 H9 => ∃ (u : Addr), σ8 = [some (.ref wd), some (.ref ta), some (.int d.st), some (.ref mk), some (.ref D), some (.ref NU), some (.ref OR), some (.ref FO), some (.int ((i : Nat) : Int)), some (.int s0), some (wV w0), some (.bl y0), some (.bl (surB d s0 w0)), some (.ref RW), some (.str ⟨#[cd b]⟩), some (wV (ndB d.ws w0 b)), some (sgV (sgB d.ws w0 b)), some (.ref u), none] ∧ Same H8 H9 ∧ H9 u = some (.tup (enN (stN d (s0, w0, y0) b)))) (fun nx hnx => ?_) ?_
          · cases hs : sgB d.ws w0 b with
            | none =>
              rw [hs] at hnx
              have e1 : stp d.ws d.Ls (s0, w0) b = (s0, ndB d.ws w0 b) := by
                unfold stp
                rw [show sgB d.ws (s0, w0).2 b = none from hs]
              have ey : enN (stN d (s0, w0, y0) b) = [.int s0, wV (ndB d.ws w0 b), .bl (!surB d s0 w0 && surB d s0 (ndB d.ws w0 b))] := by
                unfold stN enN
                dsimp only
                rw [e1, hs, Bool.and_comm]
                rfl
              refine ⟨_, rfl, rfl, _, rfl, iteF (nextOf (hnx _ _ ⟨u0, rfl, Same.refl _, by rw [ey]; exact hu0⟩))⟩
            | some o1 =>
              rw [hs] at hnx
              have lo1 := sgB_lt hs
              have e1 : stp d.ws d.Ls (s0, w0) b = (nxt d.Ls s0 (o1 : Nat), []) := by
                unfold stp
                rw [show sgB d.ws (s0, w0).2 b = some o1 from hs]
              have ey : enN (stN d (s0, w0, y0) b) = [.int (nxt d.Ls s0 (o1 : Nat)), wV [], .bl (!surB d s0 w0 && decide (nxt d.Ls s0 (o1 : Nat) ∈ d.ms))] := by
                unfold stN enN
                dsimp only
                rw [e1, hs, Bool.and_comm]
                rfl
              rw [ey] at hnx
              obtain ⟨j, L0, ej, hL0, hLx, v1, v2⟩ := O.nxt sv1 sv2 (x := ((o1 : Nat) : Int)) (by omega) (by omega)
              rw [Int.toNat_natCast] at hLx
              obtain ⟨tv, htv, g, rfl, hg⟩ := paired_to tab hL0
              have hj : atI ts s0 = some (.ref g) := by rw [show s0 = ((j : Nat) : Int) from ej]; exact atI_nat htv
              have hx1 : atI (L0.map V.int) ((o1 : Nat) : Int) = some (.int (nxt d.Ls s0 (o1 : Nat))) := atI_nat (by rw [List.getElem?_map, hLx]; rfl)
              refine ⟨_, rfl, rfl, _, rfl, iteT ⟨_, rfl, _, rfl, ta, ts, _, .ref g, rfl, rfl, SqL.of (S8.e _ _ hta), hj, _, rfl, g, _, _, _, rfl, rfl, SqL.of (S8.e _ _ hg), hx1, ?_⟩⟩
              refine ⟨_, rfl, ?_⟩
              cases cw : surB d s0 w0 with
              | true =>
                rw [cw] at hnx
                refine ⟨_, rfl, _, rfl, iteF ⟨by show 3 ≤ sizeLine; decide, fun u nu => hnx _ _ ⟨u, rfl, same_new nu, upd_same⟩⟩⟩
              | false =>
                rw [cw] at hnx
                refine ⟨_, rfl, _, rfl, iteT ⟨_, rfl, _, rfl, ta, ts, _, .ref g, rfl, rfl, SqL.of (S8.e _ _ hta), hj, _, rfl, g, _, _, _, rfl, rfl, SqL.of (S8.e _ _ hg), hx1, _, rfl, mk, _, rfl, .inl (SqL.of (S8.e _ _ hmk)), rfl, flat_ints _, ?_⟩⟩
                rw [show inV (V.int (nxt d.Ls s0 (o1 : Nat))) (d.ms.map V.int) = decide (nxt d.Ls s0 (o1 : Nat) ∈ d.ms) from inV_ints _ _]
                exact ⟨by show 3 ≤ sizeLine; decide, fun u nu => hnx _ _ ⟨u, rfl, same_new nu, upd_same⟩⟩
          rintro σ9 H9 ⟨u, rfl, e9, hu⟩
          have S9 := S8.same e9
          have hD9 := e9 _ _ hD8
          have hR9 := e9 _ _ hR8
          clear S8 hD8 hR8 e9 hu0
          generalize stN d (s0, w0, y0) b = y at hu es er
          have hget := numsK_get encN_inj o ndo y
          have sz : (numsK encN o).length < sizeLine := by rw [numsK_len]; exact small10 (by omega)
          refine cutSeq (fun σ8 H8 => σ8 = [some (.ref wd), some (.ref ta), some (.int d.st), some (.ref mk), some (.ref D), some (.ref NU), some (.ref OR), some (.ref FO), some (.int ((i : Nat) : Int)), some (.int s0), some (wV w0), some (.bl y0), some (.bl (surB d s0 w0)), some (.ref RW), some (.str ⟨#[cd b]⟩), some (wV (ndB d.ws w0 b)), some (sgV (sgB d.ws w0 b)), some (.ref u), none] ∧ ∃ vs8, H8 D = some (.dK (byW d.ws)) ∧ LoH P w NU OR FO (fun a => a = RW) H H8 (ad o y) (ad o y) vs8 fs (tbN d i) ∧ H8 RW = some (.lst (((rwS (bfN d (i + 1)) (stN d) (s0, w0, y0)).take k).map V.int)) ∧ H8 u = some (.tup (enN y))) (fun nx hnx => ?_) ?_
          · refine ⟨_, rfl, _, rfl, NU, _, _, rfl, S9.u, encN_is hu, encN_depth y, ?_⟩
            rw [show valV (numsK encN o) (NestedKey.tup _) = valV (numsK encN o) (encN y) from rfl, hget]
            by_cases m : y ∈ o
            · rw [if_pos m]
              have ea : ad o y = o := by
                unfold ad
                rw [if_pos m]
              refine ⟨_, rfl, iteF (nextOf (hnx _ _ ⟨rfl, vs', hD9, by rw [ea]; exact S9, hR9, hu⟩))⟩
            · rw [if_neg m]
              have ea : ad o y = o ++ [y] := by
                unfold ad
                rw [if_neg m]
              refine ⟨_, rfl, iteT ?_⟩
              refine ⟨_, rfl, OR, vs', rfl, .inl (SqL.of S9.hO), _, rfl, _, rfl, NU, _, _, rfl, S9.u, encN_is hu, encN_depth y, sz, fun HA bnA gA => ?_⟩
              have ek : putK (numsK encN o) (encN y) (.int (vs'.length : Nat)) = numsK encN (ad o y) := by rw [lvs6, numsK_ad encN_inj ndo m]
              have gA : IsN P w HA NU (putK (numsK encN o) (encN y) (.int (vs'.length : Nat))) := gA
              rw [ek] at gA
              have SA := S9.num bnA gA nNUH
              obtain ⟨φ9, hφ9⟩ := S9.u.obj
              have huA := S9.u.tups bnA _ _ hu
              have hRA : HA RW = some (.lst (((rwS (bfN d (i + 1)) (stN d) (s0, w0, y0)).take k).map V.int)) := by
                rw [bnA _ (ne_of hR9 hφ9 fun z => nomatch z)]
                exact hR9
              have hDA : HA D = some (.dK (byW d.ws)) := by
                rw [bnA _ (ne_of hD9 hφ9 fun z => nomatch z)]
                exact hD9
              refine ⟨_, rfl, .inl ⟨rfl, _, SqL.of SA.hO⟩, _, rfl, OR, vs', _, rfl, rfl, SA.hO, small10 (by omega), ?_⟩
              have SB := SA.putO nO (Ne.symm dOF) huA
              refine hnx _ _ ⟨rfl, vs' ++ [.ref u], (upd_ne (ne_of hDA SA.hO fun y => nomatch y)).trans hDA, ?_, (upd_ne (Ne.symm dOR)).trans hRA, (upd_ne (ne_of huA SA.hO fun y => nomatch y)).trans huA⟩
              rw [ea] at SB ⊢
              exact SB
          · rintro σ8 H8 ⟨rfl, vs8, hD8, S8, hR8, hu8⟩
            have mem : y ∈ ad o y := ad_mem o y
            have ndy : (ad o y).Nodup := ad_nodup ndo y
            have hg := numsK_get encN_inj _ ndy y
            rw [if_pos mem] at hg
            refine ⟨_, rfl, .inl ⟨rfl, _, SqL.of hR8⟩, _, rfl, _, rfl, NU, _, _, _, rfl, S8.u, encN_is hu8, encN_depth y, hg, RW, _, _, rfl, rfl, hR8, ?_, ?_⟩
            · rw [List.length_map, List.length_take]
              exact small10 (by omega)
            rw [es] at er ⊢
            refine ⟨_, _, _, _, vs8, rfl, (upd_ne (ne_of hD8 hR8 fun y => nomatch y)).trans hD8, S8.row hR8 nR dOR dFR, ?_⟩
            rw [upd_same, List.take_add_one, er, List.map_append]
            rfl
        · rintro σ H6 ⟨y14, y15, y16, y17, vs', rfl, hD6, S6, hR⟩
          rw [show ("01" : Str).cps.size = 2 from rfl] at S6 hR
          rw [show oI (stN d) (bfN d i) (s0, w0, y0) 2 = bfN d (i + 1) from eb.symm] at S6
          rw [show (rwS (bfN d (i + 1)) (stN d) (s0, w0, y0)).take 2 = rwS (bfN d (i + 1)) (stN d) (s0, w0, y0) from rfl] at hR
          dsimp only
          have lt : (tbN d i).length ≤ 400 := by
            show (tbl _ _ _).length ≤ 400
            unfold tbl
            rw [List.length_map, List.length_take]
            omega
          refine ⟨_, rfl, .inl ⟨rfl, fs, SqL.of S6.hF⟩, _, rfl, FO, fs, _, rfl, rfl, S6.hF, small10 (by omega), ?_⟩
          refine ⟨_, _, _, _, _, _, _, _, _, _, vs', fs ++ [.ref RW], rfl, (upd_ne (ne_of hD6 S6.hF fun y => nomatch y)).trans hD6, ?_⟩
          rw [show tbN d (i + 1) = tbN d i ++ [rwS (bfN d (i + 1)) (stN d) (s0, w0, y0)] from tbl_succ hx0]
          exact S6.putF nF dOF hR (Ne.symm dOR) (Ne.symm dFR)
      · rw [decide_eq_false (show ¬ (0 : Int) + ((i : Nat) : Int) < (((bfN d i).length : Nat) : Int) by omega)]
        refine iteF ⟨_, _, _, _, _, _, _, _, _, _, vs, fs, rfl, gD, ?_⟩
        rw [show bfN d (i + 1) = bfN d i from bf_none c, show tbN d (i + 1) = tbN d i from tbl_none c]
        exact S
    · rintro σ G ⟨x8, x9, x10, x11, x12, x13, x14, x15, x16, x17, vs, fs, rfl, gD, S⟩
      dsimp only
      have lb : (bfN d 400).length ≤ 1 + 2 * 400 := bf_len _
      rw [show (400 : Int).toNat = 400 from rfl] at S
      have lvs := Paired.length S.s
      unfold mkDnN at q
      generalize bfN d 400 = BB at q S lvs lb ⊢
      generalize tbN d 400 = TT at q S ⊢
      refine ⟨_, rfl, _, rfl, OR, vs, rfl, .inl (SqL.of S.hO), _, rfl, by omega, by omega, fun KD nKD => lcF (walk_range (lo := 0)) (fun k => (BB.getD k (fN d)).2.2) (fun k => V.int ((k : Nat) : Int)) (by omega) nKD (fun _ _ => True.intro) ?_ ?_⟩
      · rintro k x H2 H3 Q' N hk e2 ⟨rfl, rfl⟩ yes no
        have hk : k < vs.length := by omega
        obtain ⟨y, hy, a, ev, ha⟩ := paired_at S.s (List.getElem?_eq_getElem hk)
        have hv : vs[k]? = some (.ref a) := by rw [List.getElem?_eq_getElem hk, ev]
        have ek : (0 : Int) + ((k : Nat) : Int) = ((k : Nat) : Int) := by omega
        have gy : BB.getD k (fN d) = y := by
          rw [List.getD_eq_getElem?_getD, hy]
          rfl
        rw [gy] at yes no
        have gO2 := e2 _ _ S.hO
        have ha2 := e2 _ _ ha
        dsimp only
        rw [ek]
        refine ⟨rfl, _, rfl, _, rfl, OR, vs, _, .ref a, rfl, rfl, SqL.of gO2, atI_nat hv, a, _, _, _, rfl, rfl, SqT.of ha2, atI_nat (j := 2) rfl, ?_⟩
        refine ⟨_, rfl, ?_⟩
        cases m : y.2.2 with
        | true => exact iteT ⟨_, rfl, yes m _ (Same.refl _)⟩
        | false => exact iteF (no m _ (Same.refl _))
      · intro H2 e2 hKD
        refine ⟨by show 2 ≤ sizeLine; decide, fun r nr => ?_⟩
        have e3 := e2.trans (same_new (o := .tup [.ref FO, .ref KD]) nr)
        refine q r FO KD fs _ (S.e.trans e3) upd_same (e3 _ _ S.hF) (Paired.mapP S.tb fun _ _ ⟨a, h1, _, h4⟩ => ⟨a, h1, e3 _ _ h4⟩) ?_
        refine (same_new nr _ _ hKD).trans ?_
        unfold selM
        rw [lvs, Int.toNat_natCast, List.map_map]
        rfl
end
end K61
set_option Elab.async false
set_option linter.all false
set_option maxRecDepth 100001
set_option maxHeartbeats 3999999
namespace K61
open PySem L2
/-! ### along bits -/
section
variable {S : Type} (step : S → Bool → S) (mark : S → Bool)
/-- the places that are marked -/
def tlG (z : S) (u : W) : List Int := ((List.range u.length).filter fun k => mark ((u.take (k + 1)).foldl step z)).map fun k => ((k : Nat) : Int)
variable {step mark}
theorem tlG_app (z : S) (u v : W) : tlG step mark z (u ++ v) = tlG step mark z u ++ (tlG step mark (u.foldl step z) v).map (· + (u.length : Int)) := by
  unfold tlG
  rw [List.length_append, List.range_add, List.filter_append, List.map_append]
  congr 1
  · refine congrArg _ (List.filter_congr fun k hk => ?_)
    have hk := List.mem_range.mp hk
    rw [List.take_append_of_le_length (by omega)]
  · rw [List.filter_map, List.map_map, List.map_map]
    have : ((fun k => mark ((List.take (k + 1) (u ++ v)).foldl step z)) ∘ fun x => u.length + x) = fun k => mark ((v.take (k + 1)).foldl step (u.foldl step z)) := by
      funext k
      show mark ((List.take (u.length + k + 1) (u ++ v)).foldl step z) = _
      rw [Nat.add_assoc, List.take_length_add_append, List.foldl_append]
    rw [this]
    refine List.map_congr_left fun k _ => ?_
    show ((u.length + k : Nat) : Int) = ((k : Nat) : Int) + (u.length : Int)
    omega
theorem tlG_take (z : S) (u : W) (k : Nat) (hk : k ≤ u.length) : tlG step mark z (u.take k) = (tlG step mark z u).filter fun i => decide (i < (k : Int)) := by
  obtain ⟨v, hv⟩ : ∃ v, u = u.take k ++ v := ⟨u.drop k, (List.take_append_drop k u).symm⟩
  have lt : (u.take k).length = k := by rw [List.length_take]; omega
  generalize u.take k = t at hv lt
  rw [hv, tlG_app, List.filter_append]
  have e1 : (tlG step mark z t).filter (fun i => decide (i < (k : Int))) = tlG step mark z t := by
    refine List.filter_eq_self.mpr fun i hi => ?_
    unfold tlG at hi
    obtain ⟨j, hj, rfl⟩ := List.mem_map.mp hi
    have := List.mem_range.mp (List.mem_filter.mp hj).1
    exact decide_eq_true (by omega)
  have e2 : ((tlG step mark (t.foldl step z) v).map (· + (t.length : Int))).filter (fun i => decide (i < (k : Int))) = [] := by
    refine List.filter_eq_nil_iff.mpr fun i hi => ?_
    obtain ⟨j, hj, rfl⟩ := List.mem_map.mp hi
    unfold tlG at hj
    obtain ⟨j, hj, rfl⟩ := List.mem_map.mp hj
    simp only [decide_eq_true_eq]
    omega
  rw [e1, e2, List.append_nil]
end
theorem tld_eq (d : SD) (u : W) : tlG (stS d) (mkS d) (d.st, ([] : W)) u = tlG (stS d) (mkS d) (d.st, ([] : W)) u := rfl
abbrev tldS (d : SD) (u : W) : List Int := tlG (stS d) (mkS d) (d.st, ([] : W)) u
abbrev tldN (d : SD) (u : W) : List Int := tlG (stN d) (fun z => z.2.2) (fN d) u
section
variable {S : Type} [DecidableEq S] (first : S) (step : S → Bool → S) (mark : S → Bool) {N : Nat}
theorem wlk_runG (hN : (bf first step N).length = N) (u : W) : ∀ k, k ≤ u.length → (u.take k).foldl step first ∈ bf first step N ∧ wlk (rws first step N) 0 ((u.map iB).take k) = ((idxD (bf first step N) ((u.take k).foldl step first) : Nat) : Int)
  | 0, _ => by
    have m : first ∈ bf first step N := (bf_pre (first := first) (step := step) (Nat.zero_le N)).subset List.mem_cons_self
    refine ⟨m, ?_⟩
    have : idxD (bf first step N) first = 0 := by
      obtain ⟨r, er⟩ := bf_pre (first := first) (step := step) (Nat.zero_le N)
      unfold idxD
      rw [← er]
      simp [bf]
    show (0 : Int) = ((idxD (bf first step N) first : Nat) : Int)
    rw [this]
    rfl
  | k + 1, h => by
    obtain ⟨m, e⟩ := wlk_runG hN u k (by omega)
    have hb := List.getElem?_eq_getElem (show k < u.length by omega)
    generalize u[k] = b at hb
    have hb2 : (u.map iB)[k]? = some (iB b) := by rw [List.getElem?_map, hb]; rfl
    have es : (u.take (k + 1)).foldl step first = step ((u.take k).foldl step first) b := by
      rw [take_snoc hb, List.foldl_append]
      rfl
    rw [es]
    generalize (u.take k).foldl step first = x at m e
    refine ⟨bf_closed (by rw [hN]; exact Nat.le_refl _) m b, ?_⟩
    rw [take_snoc hb2, wlk_snoc, e]
    unfold nxt
    rw [Int.toNat_natCast]
    have g : (rws first step N)[idxD (bf first step N) x]? = some [((idxD (bf first step N) (step x false) : Nat) : Int), ((idxD (bf first step N) (step x true) : Nat) : Int)] := by
      unfold rws
      rw [List.getElem?_map, idxD_get m]
      rfl
    have g2 : (rws first step N).getD (idxD (bf first step N) x) [] = [((idxD (bf first step N) (step x false) : Nat) : Int), ((idxD (bf first step N) (step x true) : Nat) : Int)] := by
      rw [List.getD_eq_getElem?_getD, g]
      rfl
    rw [g2]
    cases b <;> rfl
theorem plc_tlG (hN : (bf first step N).length = N) (u : W) : plc (rws first step N) (selM (fun i => mark ((bf first step N).getD i first)) N) 0 (u.map iB) (u.map iB).length = tlG step mark first u := by
  unfold plc tlG
  rw [List.length_map]
  refine congrArg _ (List.filter_congr fun k hk => ?_)
  have hk := List.mem_range.mp hk
  obtain ⟨m, e⟩ := wlk_runG first step hN u (k + 1) (by omega)
  rw [e]
  generalize (u.take (k + 1)).foldl step first = x at m
  have l := idxD_lt m
  rw [hN] at l
  have gy : (bf first step N).getD (idxD (bf first step N) x) first = x := by
    rw [List.getD_eq_getElem?_getD, idxD_get m]
    rfl
  rw [Bool.eq_iff_iff, decide_eq_true_iff]
  constructor
  · intro h
    obtain ⟨i, ei, li, fi⟩ := (selM_mem _ _).mp h
    have : idxD (bf first step N) x = i := by omega
    rw [← this, gy] at fi
    exact fi
  · intro h
    exact (selM_mem _ _).mpr ⟨_, rfl, l, by rw [gy]; exact h⟩
end
/-! ### along a word -/
section
variable {d : SD} (F : Ful d.ws)
include F
theorem word_sg {o : Nat} {u : W} (ho : d.ws[o]? = some u) {j : Nat} {b : Bool} (hb : u[j]? = some b) : sgB d.ws (u.take j) b = if j + 1 = u.length then some o else none := by
  have e : u.take j ++ [b] = u.take (j + 1) := (take_snoc hb).symm
  have lj := (List.getElem?_eq_some_iff.mp hb).1
  unfold sgB
  rw [e]
  by_cases c : j + 1 = u.length
  · rw [if_pos c, c, List.take_length, if_pos (List.mem_of_getElem? ho), pf_idx F.pf ho]
  · rw [if_neg c, if_neg]
    exact Nd.not F.pf ⟨o, u.drop (j + 1), (fun z => by
      have := congrArg List.length z
      rw [List.length_drop] at this
      simp at this
      omega), by rw [List.take_append_drop]; exact ho⟩
theorem word_stp {o : Nat} {u : W} (ho : d.ws[o]? = some u) {j : Nat} {b : Bool} (hb : u[j]? = some b) (s : Int) : stp d.ws d.Ls (s, u.take j) b = if j + 1 = u.length then (nxt d.Ls s (o : Nat), []) else (s, u.take (j + 1)) := by
  have e : u.take j ++ [b] = u.take (j + 1) := (take_snoc hb).symm
  have hs := word_sg F ho hb
  unfold stp
  rw [show sgB d.ws (s, u.take j).2 b = _ from hs]
  by_cases c : j + 1 = u.length
  · rw [if_pos c, if_pos c]
  · rw [if_neg c, if_neg c]
    dsimp only
    rw [if_neg c] at hs
    unfold sgB at hs
    unfold ndB
    split at hs
    · cases hs
    · rename_i m
      rw [if_neg m, e]
theorem word_S {o : Nat} {u : W} (ho : d.ws[o]? = some u) (s : Int) : ∀ j, j < u.length → (u.take j).foldl (stS d) (s, ([] : W)) = (s, u.take j)
  | 0, _ => rfl
  | j + 1, h => by
    have hb := List.getElem?_eq_getElem (show j < u.length by omega)
    rw [take_snoc hb, List.foldl_append, word_S ho s j (by omega), ← take_snoc hb]
    show stp d.ws d.Ls (s, u.take j) _ = _
    rw [word_stp F ho hb, if_neg (by omega)]
theorem word_Se {o : Nat} {u : W} (ho : d.ws[o]? = some u) (hu : u ≠ []) (s : Int) : u.foldl (stS d) (s, ([] : W)) = (nxt d.Ls s (o : Nat), []) := by
  have lu := List.length_pos_iff.mpr hu
  have hb := List.getElem?_eq_getElem (show u.length - 1 < u.length by omega)
  have e := take_snoc hb
  rw [show u.length - 1 + 1 = u.length by omega, List.take_length] at e
  have e2 : u.foldl (stS d) (s, ([] : W)) = (u.take (u.length - 1) ++ [u[u.length - 1]]).foldl (stS d) (s, ([] : W)) := by rw [← e]
  rw [e2, List.foldl_append, word_S F ho s _ (by omega)]
  show stp d.ws d.Ls (s, u.take (u.length - 1)) _ = _
  rw [word_stp F ho hb, if_pos (by omega)]
/-- sure ahead of the j-th bit's end -/
def suJ (d : SD) (s : Int) (o : Nat) (u : W) (j : Nat) : Bool := if j = u.length then gdS d s o else surB d s (u.take j)
omit F in
theorem suJ0 {s : Int} {o : Nat} {u : W} (hu : u ≠ []) : suJ d s o u 0 = false := by
  unfold suJ
  rw [if_neg (fun z => hu (List.length_eq_zero_iff.mp z.symm))]
  unfold surB
  simp
theorem word_N {o : Nat} {u : W} (ho : d.ws[o]? = some u) (s : Int) (t : Bool) : ∀ j, j + 1 ≤ u.length → (u.take (j + 1)).foldl (stN d) (s, ([] : W), t) = (if j + 1 = u.length then nxt d.Ls s (o : Nat) else s, if j + 1 = u.length then [] else u.take (j + 1), suJ d s o u (j + 1) && !suJ d s o u j) := by
  intro j
  induction j with
  | zero =>
    intro h
    have hb := List.getElem?_eq_getElem (show 0 < u.length by omega)
    have hu : u ≠ [] := fun z => by rw [z] at h; simp at h
    have e1 : u.take (0 + 1) = [u[0]] := by
      rw [take_snoc hb]
      rfl
    rw [e1]
    show stN d (s, [], t) _ = _
    have h1 := word_stp F ho hb s
    have h2 := word_sg F ho hb
    rw [List.take_zero] at h1 h2
    unfold stN
    dsimp only
    rw [e1] at h1
    rw [h1, h2, suJ0 hu]
    have e0 : surB d s [] = false := by
      unfold surB
      simp
    rw [e0]
    by_cases c : 0 + 1 = u.length
    · simp only [if_pos c]
      unfold suJ
      rw [if_pos c]
      rfl
    · simp only [if_neg c]
      unfold suJ
      rw [if_neg c, e1]
      rfl
  | succ j ih =>
    intro h
    have hb := List.getElem?_eq_getElem (show j + 1 < u.length by omega)
    rw [take_snoc hb, List.foldl_append, ih (by omega), ← take_snoc hb]
    rw [if_neg (by omega), if_neg (by omega)]
    show stN d (s, u.take (j + 1), _) _ = _
    have h1 := word_stp F ho hb s
    have h2 := word_sg F ho hb
    unfold stN
    dsimp only
    rw [h1, h2]
    have e1 : suJ d s o u (j + 1) = surB d s (u.take (j + 1)) := by
      unfold suJ
      rw [if_neg (by omega)]
    rw [e1]
    by_cases c : j + 1 + 1 = u.length
    · simp only [if_pos c]
      unfold suJ
      rw [if_pos c]
      rfl
    · simp only [if_neg c]
      unfold suJ
      rw [if_neg c]
      rfl
theorem suJ_mono {o : Nat} {u : W} (ho : d.ws[o]? = some u) (s : Int) {j : Nat} (h : j + 1 ≤ u.length) (t : suJ d s o u j = true) : suJ d s o u (j + 1) = true := by
  unfold suJ at t ⊢
  rw [if_neg (by omega)] at t
  unfold surB at t
  rw [Bool.and_eq_true] at t
  obtain ⟨t1, t2⟩ := t
  have t2 := ovB_iff.mp t2
  by_cases c : j + 1 = u.length
  · rw [if_pos c]
    exact t2 o u ho (List.take_prefix _ _)
  · rw [if_neg c]
    unfold surB
    rw [Bool.and_eq_true]
    refine ⟨?_, ovB_iff.mpr fun o' u' h' p => t2 o' u' h' ((List.take_prefix_take_left (by omega)).trans p)⟩
    rw [Bool.not_eq_true', decide_eq_false_iff_not]
    intro z
    have h0 : (List.take (j + 1) u).length = 0 := by
      rw [z]
      rfl
    rw [List.length_take] at h0
    omega
end
end K61
set_option Elab.async false
set_option linter.all false
set_option maxRecDepth 100001
set_option maxHeartbeats 3999999
namespace K61
open PySem L2
theorem cut_w (w : W) (n : Nat) (h : n ≤ w.length) : cutS (bS w) none (some ((n : Nat) : Int)) = bS (w.take n) := by
  unfold cutS
  rw [bS_len, HT.sIx_none, HT.sIx_nat, Nat.min_eq_left h, List.drop_zero, Nat.sub_zero]
  show (⟨((w.map cd).take n).toArray⟩ : Str) = ⟨((w.take n).map cd).toArray⟩
  rw [List.map_take]
theorem filt_one (q : Nat → Bool) (i : Nat) : ∀ n, i < n → q i = true → (∀ k, k < n → q k = true → k = i) → (List.range n).filter q = [i]
  | 0, h, _, _ => absurd h (Nat.not_lt_zero _)
  | n + 1, h, hi, ho => by
    rw [List.range_succ, List.filter_append]
    by_cases c : i = n
    · subst c
      have e : (List.range i).filter q = [] := List.filter_eq_nil_iff.mpr fun k hk t => by
        have := List.mem_range.mp hk
        have := ho k (by omega) t
        omega
      rw [e, List.filter_cons_of_pos hi]
      rfl
    · rw [filt_one q i n (by omega) hi fun k hk t => ho k (by omega) t, List.filter_cons_of_neg fun t => c (ho n (by omega) t).symm]
      rfl
section
variable {d : SD} (F : Ful d.ws)
include F
theorem suJ_le {o : Nat} {u : W} (ho : d.ws[o]? = some u) (s : Int) {i : Nat} (t : suJ d s o u i = true) : ∀ j, i ≤ j → j ≤ u.length → suJ d s o u j = true := by
  intro j h
  induction h with
  | refl => exact fun _ => t
  | step h ih => exact fun l => suJ_mono F ho s l (ih (by omega))
theorem tlw_N {o : Nat} {u : W} (ho : d.ws[o]? = some u) (s : Int) (t : Bool) : tlG (stN d) (fun z => z.2.2) (s, ([] : W), t) u = ((List.range u.length).filter fun k => suJ d s o u (k + 1) && !suJ d s o u k).map fun k => ((k : Nat) : Int) := by
  unfold tlG
  refine congrArg _ (List.filter_congr fun k hk => ?_)
  have hk := List.mem_range.mp hk
  rw [word_N F ho s t k (by omega)]
theorem tlw_no {o : Nat} {u : W} (ho : d.ws[o]? = some u) (s : Int) (t : Bool) (n : gdS d s o = false) : tlG (stN d) (fun z => z.2.2) (s, ([] : W), t) u = [] := by
  rw [tlw_N F ho]
  have : (List.range u.length).filter (fun k => suJ d s o u (k + 1) && !suJ d s o u k) = [] := List.filter_eq_nil_iff.mpr fun k hk z => by
    have hk := List.mem_range.mp hk
    rw [Bool.and_eq_true] at z
    have := suJ_le F ho s z.1 u.length (by omega) (Nat.le_refl _)
    unfold suJ at this
    rw [if_pos rfl, n] at this
    cases this
  rw [this]
  rfl
theorem tlw_yes {o : Nat} {u : W} (ho : d.ws[o]? = some u) (hu : u ≠ []) (s : Int) (t : Bool) {m : Nat} (m1 : 1 ≤ m) (m2 : m ≤ u.length) (y : suJ d s o u m = true) (no : ∀ j, 1 ≤ j → j < m → suJ d s o u j = false) : tlG (stN d) (fun z => z.2.2) (s, ([] : W), t) u = [((m : Nat) : Int) - 1] := by
  rw [tlw_N F ho, filt_one _ (m - 1) u.length (by omega) ?_ fun k hk z => ?_]
  · show [((m - 1 : Nat) : Int)] = _
    refine congrArg (fun z : Int => [z]) ?_
    omega
  · rw [Bool.and_eq_true, show m - 1 + 1 = m by omega]
    refine ⟨y, ?_⟩
    rcases Nat.lt_or_ge 1 m with c | c
    · rw [no (m - 1) (by omega) (by omega)]
      rfl
    · rw [show m - 1 = 0 by omega, suJ0 hu]
      rfl
  · rw [Bool.and_eq_true] at z
    obtain ⟨z1, z2⟩ := z
    rcases Nat.lt_or_ge k (m - 1) with c | c
    · rw [no (k + 1) (by omega) (by omega)] at z1
      cases z1
    · rcases Nat.lt_or_ge (m - 1) k with c2 | c2
      · rw [suJ_le F ho s y k (by omega) (by omega)] at z2
        cases z2
      · omega
theorem tlw_S {o : Nat} {u : W} (ho : d.ws[o]? = some u) (hu : u ≠ []) (s : Int) : tlG (stS d) (mkS d) (s, ([] : W)) u = if gdS d s o = true then [((u.length : Nat) : Int) - 1] else [] := by
  have lu := List.length_pos_iff.mpr hu
  unfold tlG
  have e1 : ∀ k, k < u.length → mkS d ((u.take (k + 1)).foldl (stS d) (s, ([] : W))) = (decide (k + 1 = u.length) && gdS d s o) := fun k hk => by
    by_cases c : k + 1 = u.length
    · rw [c, List.take_length, word_Se F ho hu]
      unfold mkS gdS
      simp
    · rw [word_S F ho s (k + 1) (by omega)]
      unfold mkS
      have : ¬ u.take (k + 1) = [] := fun z => by
        have h0 : (List.take (k + 1) u).length = 0 := by
          rw [z]
          rfl
        rw [List.length_take] at h0
        omega
      rw [decide_eq_false this, decide_eq_false c]
      rfl
  by_cases g : gdS d s o = true
  · rw [if_pos g, filt_one _ (u.length - 1) u.length (by omega) ?_ fun k hk z => ?_]
    · show [((u.length - 1 : Nat) : Int)] = _
      refine congrArg (fun z : Int => [z]) ?_
      omega
    · rw [e1 _ (by omega), g, decide_eq_true (by omega)]
      rfl
    · rw [e1 k hk, Bool.and_eq_true] at z
      have := of_decide_eq_true z.1
      omega
  · rw [if_neg g]
    have : (List.range u.length).filter (fun k => mkS d ((u.take (k + 1)).foldl (stS d) (s, ([] : W)))) = [] := List.filter_eq_nil_iff.mpr fun k hk z => by
      rw [e1 k (List.mem_range.mp hk), Bool.and_eq_true] at z
      exact g z.2
    rw [this]
    rfl
end
/-! ### what is due along a text -/
def bitsOf (ws : List W) (tx : List Nat) : W := (tx.map fun o => ws.getD o []).flatten
theorem bitsOf_snoc (ws : List W) (tx : List Nat) (o : Nat) : bitsOf ws (tx ++ [o]) = bitsOf ws tx ++ ws.getD o [] := by
  unfold bitsOf
  rw [List.map_append, List.flatten_append]
  simp
/-- where the law stands behind a text -/
structure DuI (d : SD) (u : W) (s : Int) (L : List (Int × Int)) : Prop where
  s1 : 0 ≤ s
  s2 : s ≤ (d.Ls.length : Int) - 1
  z : ∃ t, u.foldl (stN d) (fN d) = (s, [], t)
  y : u.foldl (stS d) (d.st, []) = (s, [])
  f : L.map (·.1) = tldN d u
  g : L.map (·.2) = tldS d u
theorem DuI.start {d : SD} (O : OkMa d.ws.length d.Ls d.st d.ms) : DuI d [] d.st [] := ⟨O.s1, O.s2, ⟨false, rfl⟩, rfl, rfl, rfl⟩
theorem word_Ne {d : SD} (F : Ful d.ws) {o : Nat} {u : W} (ho : d.ws[o]? = some u) (hu : u ≠ []) (s : Int) (t : Bool) : ∃ t', u.foldl (stN d) (s, ([] : W), t) = (nxt d.Ls s (o : Nat), [], t') := by
  have lu := List.length_pos_iff.mpr hu
  have := word_N F ho s t (u.length - 1) (by omega)
  rw [show u.length - 1 + 1 = u.length by omega, List.take_length, if_pos rfl, if_pos rfl] at this
  exact ⟨_, this⟩
theorem DuI.no {d : SD} {u : W} {s : Int} {L : List (Int × Int)} (h : DuI d u s L) (F : Ful d.ws) (O : OkMa d.ws.length d.Ls d.st d.ms) {o : Nat} {v : W} (ho : d.ws[o]? = some v) (hv : v ≠ []) (n : gdS d s o = false) : DuI d (u ++ v) (nxt d.Ls s (o : Nat)) L := by
  obtain ⟨t, hz⟩ := h.z
  obtain ⟨t', hz'⟩ := word_Ne F ho hv s t
  have lo := (List.getElem?_eq_some_iff.mp ho).1
  obtain ⟨i, L0, ej, hL0, hLx, v1, v2⟩ := O.nxt h.s1 h.s2 (x := ((o : Nat) : Int)) (by omega) (by omega)
  refine ⟨v1, v2, ⟨t', by rw [List.foldl_append, hz, hz']⟩, by rw [List.foldl_append, h.y, word_Se F ho hv], ?_, ?_⟩
  · show _ = tlG _ _ _ _
    rw [tlG_app, hz, tlw_no F ho s t n, List.map_nil, List.append_nil]
    exact h.f
  · show _ = tlG _ _ _ _
    rw [tlG_app, h.y, tlw_S F ho hv, n, if_neg (by decide), List.map_nil, List.append_nil]
    exact h.g
theorem DuI.yes {d : SD} {u : W} {s : Int} {L : List (Int × Int)} (h : DuI d u s L) (F : Ful d.ws) (O : OkMa d.ws.length d.Ls d.st d.ms) {o : Nat} {v : W} (ho : d.ws[o]? = some v) (hv : v ≠ []) (g : gdS d s o = true) {m : Nat} (m1 : 1 ≤ m) (m2 : m ≤ v.length) (y : suJ d s o v m = true) (no : ∀ j, 1 ≤ j → j < m → suJ d s o v j = false) :
    DuI d (u ++ v) (nxt d.Ls s (o : Nat)) (L ++ [((u.length : Int) + m - 1, (u.length : Int) + v.length - 1)]) := by
  obtain ⟨t, hz⟩ := h.z
  obtain ⟨t', hz'⟩ := word_Ne F ho hv s t
  have lo := (List.getElem?_eq_some_iff.mp ho).1
  obtain ⟨i, L0, ej, hL0, hLx, v1, v2⟩ := O.nxt h.s1 h.s2 (x := ((o : Nat) : Int)) (by omega) (by omega)
  refine ⟨v1, v2, ⟨t', by rw [List.foldl_append, hz, hz']⟩, by rw [List.foldl_append, h.y, word_Se F ho hv], ?_, ?_⟩
  · show _ = tlG _ _ _ _
    rw [tlG_app, hz, tlw_yes F ho hv s t m1 m2 y no, List.map_append, h.f]
    refine congrArg (fun z : Int => tldN d u ++ [z]) ?_
    show (u.length : Int) + m - 1 = (m : Int) - 1 + (u.length : Int)
    omega
  · show _ = tlG _ _ _ _
    rw [tlG_app, h.y, tlw_S F ho hv, g, if_pos rfl, List.map_append, h.g]
    refine congrArg (fun z : Int => tldS d u ++ [z]) ?_
    show (u.length : Int) + v.length - 1 = (v.length : Int) - 1 + (u.length : Int)
    omega
end K61
set_option Elab.async false
set_option linter.all false
set_option maxRecDepth 100001
set_option maxHeartbeats 3999999
namespace K61
open PySem L2
/-! ### _law_due -/
abbrev sDu : Stmt := topS 75
abbrev NDu : List Str := ["_law_words", "_law_table_here", "_law_start", "_law_marks_here", "_law_text", "_law_state", "_law_ahead", "_law_found", "_law_sign", "_law_word", "_law_sure", "_law_size"]
theorem Ful.ne {ws : List W} (F : Ful ws) {o : Nat} {u : W} (ho : ws[o]? = some u) : u ≠ [] := fun z => F.root.not F.pf (by rw [← z]; exact List.mem_of_getElem? ho)
def spDu : L2.Sp := fun vs H Q _ => ∃ (wd ta mk tx : Addr) (ts : List V) (d : SD) (ox : List Nat), vs = [.ref wd, .ref ta, .int d.st, .ref mk, .ref tx] ∧ H wd = some (.lst (d.ws.map wV)) ∧ H ta = some (.lst ts) ∧ TabAt H ts d.Ls ∧ H mk = some (.lst (d.ms.map V.int)) ∧ Ful d.ws ∧ OkMa d.ws.length d.Ls d.st d.ms ∧ d.ws.length ≤ 60 ∧ H tx = some (.lst (ox.map fun o : Nat => V.int (o : Nat))) ∧ (∀ o ∈ ox, o < d.ws.length) ∧ ox.length ≤ 20 ∧
  ∀ R H' ps s L, Same H H' → H' R = some (.lst ps) → PrAt H' ps L → DuI d (bitsOf d.ws ox) s L → L.length ≤ 20 → Q (.ref R) H'
section
variable {P : Program} {w : World} {K : PySem.W.Frag} {mg : Str → Option Value} {base : Heap}
theorem scDu : FnScope NDu ["_law_words", "_law_table_here", "_law_start", "_law_marks_here", "_law_text"] (defScope sDu) := ⟨rfl, rfl, rfl, by decide +kernel, rfl, by decide +kernel, by decide +kernel⟩
theorem ok_Du {f : Addr} {fd : FuncData} (F : Fun K "_law_due" "_law_due" sDu f fd) (B : Bi mg) (cI : Cal CX0 P w K mg base 1 "_law_is_sure" spLis) : FnOk P w K mg base CX0 2 f fd ["_law_words", "_law_table_here", "_law_start", "_law_marks_here", "_law_text"] spDu := by
  refine F.ok scDu (fun vs H Q E h => ?_) (fun cdv A outer s H vs Q E hr h => ?_)
  · obtain ⟨wd, ta, mk, tx, ts, d, ox, rfl, _⟩ := h
    rfl
  · obtain ⟨wd, ta, mk, tx, ts, d, ox, rfl, hw, hta, tab, hmk, FU, O, l6, htx, ol, ll, q⟩ := h
    refine ⟨_, pss_cons (ps_asg (pe_tup (pa_cons (pv 2) (pa_cons pe_int (pa_cons (pe_lst pa_nil) pa_nil)))) (pg_tup rfl (pgs_cons (pg_name (i := 5) scDu.nd rfl (Or.inr rfl)) (pgs_cons (pg_name (i := 6) scDu.nd rfl (Or.inl rfl)) (pgs_cons (pg_name (i := 7) scDu.nd rfl (Or.inl rfl)) pgs_nil)))))
      (pss_cons (ps_for PassesOwn.never rfl (pi_sqA (pv 4)) (pg_name (i := 8) scDu.nd rfl (Or.inl rfl))
        (pss_cons (ps_set (i := 9) scDu.nd rfl (Or.inr rfl) (pe_ix ix_list (pv 0) (pv 8) (fun _ _ => rfl)))
        (pss_cons (ps_setLc (i := 10) (own := [("_law_size", 11)]) rfl scDu.nd rfl rfl (sw_true rfl rfl rfl (by decide +kernel)) (pi_range2 rfl B.range (pa_cons pe_int (pa_cons (pe_lenS B.len (pa_cons (pv 9) pa_nil)) pa_nil))) (blkOk_by (N := NDu) (sc := defScope sDu) (by decide +kernel)) (fun _ _ _ _ _ => (pg_name (i := 11) scDu.nd rfl (Or.inl rfl))) (fun _ _ _ _ _ => (pts_one (pt_val (pe_c cI hr pass0 (pa_cons (pv 0) (pa_cons (pv 1) (pa_cons (pv 3) (pa_cons (pv 5) (pa_cons (pe_slice sl_str (pv 9) po_none (po_some (pv 11))) pa_nil))))))))) (fun _ _ _ _ _ => (pv 11)))
        (pss_cons (ps_set (i := 5) scDu.nd rfl (Or.inr rfl) (pe_ix ix_list (pe_ix ix_list (pv 1) (pv 5) (fun _ _ => rfl)) (pv 8) (fun _ _ => rfl)))
        (pss_cons (ps_if (pt_cmpR op_in_seq (pv 5) (pv 3) (by with_unfolding_all rfl)) (pss_one (ps_expr (pe_bm PySem.F.plainAttrs_list PySem.F.slot_list_append PySem.F.type_list_append mt_append (pv 7) (pa_cons (pe_tup (pa_cons (pe_op op_sub (pe_op op_add (pv 6) (pe_callB (cr_min rfl) rfl B.min (by decide +kernel) (pa_cons (pe_lc (own := [("_law_size", 11)]) rfl scDu.nd (pi_sqA (pe_op op_cat (pv 10) (pe_lst (pa_cons (pe_lenS B.len (pa_cons (pv 9) pa_nil)) pa_nil)))) (blkOk_by (N := NDu) (sc := defScope sDu) (by decide +kernel)) (fun _ _ _ _ _ => (pg_name (i := 11) scDu.nd rfl (Or.inl rfl))) (fun _ _ _ _ _ => pts_nil) (fun _ _ _ _ _ => (pe_int1 B.int (pa_cons (pv 11) pa_nil)))) pa_nil))) pe_int) (pa_cons (pe_op op_sub (pe_op op_add (pv 6) (pe_lenS B.len (pa_cons (pv 9) pa_nil))) pe_int) pa_nil))) pa_nil)))) pss_nil)
        (pss_one (ps_set (i := 6) scDu.nd rfl (Or.inl rfl) (pe_op op_add (pv 6) (pe_lenS B.len (pa_cons (pv 9) pa_nil))))))))))
      (pss_one (ps_ret (pv 7)))), ?_⟩
    refine ⟨_, rfl, by show 0 ≤ sizeLine; decide, fun R nR => ⟨by show 3 ≤ sizeLine; decide, fun t3 nt3 => ⟨t3, _, rfl, SqT.of upd_same, rfl, _, _, rfl, _, _, rfl, _, _, rfl, rfl, ?_⟩⟩⟩
    have e1 := (same_new (o := .lst []) nR).trans (same_new nt3 (o := .tup [.int d.st, .int 0, .ref R]))
    have hR : upd (upd H R (.lst [])) t3 (.tup [.int d.st, .int 0, .ref R]) R = some (.lst []) := same_new nt3 _ _ upd_same
    generalize upd (upd H R (.lst [])) t3 (.tup [.int d.st, .int 0, .ref R]) = H1 at e1 hR ⊢
    clear nt3
    dsimp only
    refine ⟨_, rfl, tx, _, rfl, .inl (SqL.of (e1 _ _ htx)), fun J G wk hG => for_it wk (fun i σ H' => ∃ (s : Int) (x8 x9 x10 : Option V) (ps : List V) (L : List (Int × Int)), σ = [some (.ref wd), some (.ref ta), some (.int d.st), some (.ref mk), some (.ref tx), some (.int s), some (.int ((bitsOf d.ws (ox.take i)).length : Nat)), some (.ref R), x8, x9, x10, none] ∧ Same H H' ∧ H' R = some (.lst ps) ∧ PrAt H' ps L ∧ DuI d (bitsOf d.ws (ox.take i)) s L ∧ L.length ≤ i)
      ⟨d.st, none, none, none, [], [], rfl, e1, hR, .nil, DuI.start O, Nat.le_refl _⟩ (fun i σ H' _ ⟨_, _, _, _, _, _, _, e, _⟩ => hG H' fun o z => ?_) ?_ ?_⟩
    · have : o = .lst (ox.map fun o : Nat => V.int (o : Nat)) := Option.some.inj (z.symm.trans (e1 _ _ htx))
      rw [this]
      exact e _ _ htx
    · rintro i x σ H2 H3 hi ⟨s, x8, x9, x10, ps, L, rfl, e2, hR2, pr, du, lL⟩ ⟨rfl, hv⟩
      rw [List.length_map] at hi
      rw [List.getElem?_map, List.getElem?_eq_getElem hi] at hv
      cases hv
      have hoi := List.getElem?_eq_getElem hi
      have lo := ol _ (List.getElem_mem hi)
      generalize ox[i] = o at hoi lo
      have hu := List.getElem?_eq_getElem lo
      have gu : d.ws.getD o [] = d.ws[o] := by rw [List.getD_eq_getElem?_getD, hu]; rfl
      generalize d.ws[o] = u at hu gu
      have hne := FU.ne hu
      have lu1 := List.length_pos_iff.mpr hne
      have lu2 := FU.long u (List.mem_of_getElem? hu)
      have ebs : bitsOf d.ws (ox.take (i + 1)) = bitsOf d.ws (ox.take i) ++ u := by rw [take_snoc hoi, bitsOf_snoc, gu]
      refine gN ?_
      dsimp only
      refine ⟨_, rfl, _, rfl, wd, _, _, wV u, rfl, rfl, SqL.of (e2 _ _ hw), atI_nat (by rw [List.getElem?_map, hu]; rfl), ?_⟩
      refine gN ?_
      dsimp only
      refine ⟨_, rfl, bS u, rfl, by rw [bS_len]; exact Nat.le_of_lt (small10 (by omega)), _, _, rfl, ⟨by omega, by omega, by rw [bS_len]; omega, by rw [bS_len]; omega⟩, fun SU nSU => lcF (walk_range (lo := 1)) (fun k => surB d s (u.take (k + 1))) (fun k => V.int (((k : Nat) : Int) + 1)) (by rw [bS_len]; omega) nSU (fun _ _ => True.intro) ?_ ?_⟩
      · rintro k v HA HB Q' N hk eA ⟨rfl, rfl⟩ yes no
        rw [bS_len] at hk
        have hk : k + 1 < u.length := by omega
        have ek : (1 : Int) + ((k : Nat) : Int) = ((k + 1 : Nat) : Int) := by omega
        have eHA := e2.trans eA
        dsimp only
        rw [ek]
        refine ⟨rfl, _, rfl, _, rfl, _, rfl, _, rfl, _, rfl, _, rfl, _, rfl, bS u, rfl, by rw [bS_len]; exact Nat.le_of_lt (small10 (by omega)), ?_⟩
        rw [cut_w u (k + 1) (by omega)]
        refine ⟨wd, ta, mk, ts, d, s, u.take (k + 1), rfl, eHA _ _ hw, eHA _ _ hta, Paired.mapP tab fun _ _ ⟨a, h1, h2⟩ => ⟨a, h1, eHA _ _ h2⟩, eHA _ _ hmk, O, l6, du.s1, du.s2, fun HC eC => ?_⟩
        refine ⟨_, rfl, ?_⟩
        cases c : surB d s (u.take (k + 1)) with
        | true => exact iteT ⟨_, rfl, yes c _ eC⟩
        | false => exact iteF (no c _ eC)
      · intro H4 e4 hSU
        rw [show (((bS u).length : Nat) : Int) - 1 = ((u.length - 1 : Nat) : Int) by rw [bS_len]; omega, Int.toNat_natCast] at hSU
        obtain ⟨fl, efl⟩ : ∃ fl : List Nat, fl = (List.range (u.length - 1)).filter fun k => surB d s (u.take (k + 1)) := ⟨_, rfl⟩
        rw [← efl] at hSU
        have lfl : fl.length ≤ u.length - 1 := by
          rw [efl]
          refine Nat.le_trans (List.length_filter_le _ _) ?_
          rw [List.length_range]
          exact Nat.le_refl _
        have mfl : ∀ k, k ∈ fl ↔ k + 1 < u.length ∧ surB d s (u.take (k + 1)) = true := fun k => by
          rw [efl, List.mem_filter, List.mem_range]
          constructor
          · exact fun ⟨h1, h2⟩ => ⟨by omega, h2⟩
          · exact fun ⟨h1, h2⟩ => ⟨by omega, h2⟩
        have e24 := e2.trans e4
        have hR4 := e4 _ _ hR2
        have pr4 := pr.same e4
        obtain ⟨j, L0, ej, hL0, hLx, v1, v2⟩ := O.nxt du.s1 du.s2 (x := ((o : Nat) : Int)) (by omega) (by omega)
        rw [Int.toNat_natCast] at hLx
        obtain ⟨tv, htv, g, rfl, hg⟩ := paired_to tab hL0
        have hj : atI ts s = some (.ref g) := by rw [show s = ((j : Nat) : Int) from ej]; exact atI_nat htv
        have hx1 : atI (L0.map V.int) ((o : Nat) : Int) = some (.int (nxt d.Ls s (o : Nat))) := atI_nat (by rw [List.getElem?_map, hLx]; rfl)
        refine gN ?_
        dsimp only
        refine ⟨_, rfl, _, rfl, ta, ts, _, .ref g, rfl, rfl, SqL.of (e24 _ _ hta), hj, _, rfl, g, _, _, _, rfl, rfl, SqL.of (e24 _ _ hg), hx1, ?_⟩
        refine gN ?_
        dsimp only
        refine cutSeq (fun σ8 H8 => σ8 = [some (.ref wd), some (.ref ta), some (.int d.st), some (.ref mk), some (.ref tx), some (.int (nxt d.Ls s (o : Nat))), some (.int ((bitsOf d.ws (ox.take i)).length : Nat)), some (.ref R), some (.int (o : Nat)), some (wV u), some (.ref SU), none] ∧ ∃ ps8 L8, Same H H8 ∧ H8 R = some (.lst ps8) ∧ PrAt H8 ps8 L8 ∧ DuI d (bitsOf d.ws (ox.take i) ++ u) (nxt d.Ls s (o : Nat)) L8 ∧ L8.length ≤ i + 1) (fun nx hnx => ?_) ?_
        · refine ⟨_, rfl, _, rfl, mk, _, rfl, .inl (SqL.of (e24 _ _ hmk)), rfl, flat_ints _, _, rfl, ?_⟩
          rw [show inV (V.int (nxt d.Ls s (o : Nat))) (d.ms.map V.int) = gdS d s o from inV_ints _ _]
          cases c : gdS d s o with
          | false => exact iteF (nextOf (hnx _ _ ⟨rfl, ps, L, e24, hR4, pr4, du.no FU O hu hne c, by omega⟩))
          | true =>
            refine iteT ?_
            refine ⟨_, rfl, .inl ⟨rfl, ps, SqL.of hR4⟩, _, rfl, _, rfl, _, rfl, bS u, rfl, by rw [bS_len]; exact Nat.le_of_lt (small10 (by omega)), by show 1 ≤ sizeLine; decide, fun A1 nA1 => ?_⟩
            rw [bS_len]
            have e5 := same_new (o := .lst [V.int ((u.length : Nat) : Int)]) nA1
            have hA1 : upd H4 A1 (.lst [V.int ((u.length : Nat) : Int)]) A1 = some (.lst [V.int ((u.length : Nat) : Int)]) := upd_same
            have e25 := e24.trans e5
            have hR5 := e5 _ _ hR4
            have hSU5 := e5 _ _ hSU
            generalize upd H4 A1 (.lst [V.int ((u.length : Nat) : Int)]) = H5 at e5 e25 hR5 hSU5 hA1 ⊢
            refine ⟨SU, A1, _, _, rfl, rfl, hSU5, hA1, by rw [List.length_map, List.length_singleton]; exact Nat.le_of_lt (small10 (by omega)), fun CC nCC => ?_⟩
            obtain ⟨ns, ens⟩ : ∃ ns : List Int, ns = fl.map (fun k : Nat => ((k : Nat) : Int) + 1) ++ [((u.length : Nat) : Int)] := ⟨_, rfl⟩
            have env : fl.map (fun k => V.int (((k : Nat) : Int) + 1)) ++ [V.int ((u.length : Nat) : Int)] = ns.map V.int := by
              rw [ens, List.map_append, List.map_map]
              rfl
            rw [env]
            have lns : ns.length = fl.length + 1 := by rw [ens, List.length_append, List.length_map]; rfl
            have e6 := same_new (o := .lst (ns.map V.int)) nCC
            have hCC : upd H5 CC (.lst (ns.map V.int)) CC = some (.lst (ns.map V.int)) := upd_same
            have e26 := e25.trans e6
            have hR6 := e6 _ _ hR5
            generalize upd H5 CC (.lst (ns.map V.int)) = H6 at e6 e26 hR6 hCC ⊢
            refine ⟨CC, _, rfl, .inl (SqL.of hCC), fun J G wk hG KD nKD => lcM wk (fun k => V.int (ns.getD k 0)) (by rw [List.length_map]; omega) nKD (fun H' e => hG H' fun o z => e _ _ z) ?_ ?_⟩
            · rintro k v HA HB N hk eA ⟨rfl, hv⟩ fin
              obtain ⟨x, hx, rfl⟩ := ints_at hv
              have fin := fin _ (Same.refl _)
              rw [List.getD_eq_getElem?_getD, hx] at fin
              exact ⟨rfl, _, rfl, .inl ⟨_, rfl, fin⟩⟩
            · intro H7 e7 hKD
              have e27 := e26.trans e7
              have hR7 := e7 _ _ hR6
              refine ⟨KD, ns, rfl, ?_, by omega, fun m hm hle => ?_⟩
              · refine SqL.of ?_
                rw [hKD, List.length_map]
                refine congrArg (fun l => some (HO.lst l)) (List.ext_getElem (by simp) fun k h1 h2 => ?_)
                simp only [List.getElem_map, List.getElem_range]
                rw [List.getD_eq_getElem?_getD, List.getElem?_eq_getElem (by simpa using h2)]
                rfl
              have mem : ∀ x : Int, x ∈ ns ↔ (∃ k ∈ fl, x = (k : Int) + 1) ∨ x = (u.length : Int) := fun x => by
                rw [ens, List.mem_append, List.mem_map, List.mem_singleton]
                constructor
                · rintro (⟨k, h1, h2⟩ | h)
                  · exact .inl ⟨k, h1, h2.symm⟩
                  · exact .inr h
                · rintro (⟨k, h1, h2⟩ | h)
                  · exact .inl ⟨k, h1, h2.symm⟩
                  · exact .inr h
              obtain ⟨n, en⟩ : ∃ n : Nat, m = (n : Int) := by
                rcases (mem m).mp hm with ⟨k, _, h2⟩ | h
                · exact ⟨k + 1, by omega⟩
                · exact ⟨_, h⟩
              have n1 : 1 ≤ n := by
                rcases (mem m).mp hm with ⟨k, _, h2⟩ | h <;> omega
              have n2 : n ≤ u.length := by
                rcases (mem m).mp hm with ⟨k, h1, h2⟩ | h
                · have := (mfl k).mp h1
                  omega
                · omega
              have yy : suJ d s o u n = true := by
                unfold suJ
                rcases (mem m).mp hm with ⟨k, h1, h2⟩ | h
                · have := (mfl k).mp h1
                  rw [if_neg (by omega), show n = k + 1 by omega]
                  exact this.2
                · rw [if_pos (by omega)]
                  exact c
              have nn : ∀ j, 1 ≤ j → j < n → suJ d s o u j = false := fun j h1 h2 => by
                cases z : suJ d s o u j with
                | false => rfl
                | true =>
                  unfold suJ at z
                  rw [if_neg (by omega)] at z
                  have := hle ((j - 1 : Nat) + 1 : Int) ((mem _).mpr (.inl ⟨j - 1, (mfl _).mpr ⟨by omega, by rw [show j - 1 + 1 = j by omega]; exact z⟩, rfl⟩))
                  omega
              have D1 := du.yes FU O hu hne c n1 n2 yy nn
              rw [en]
              refine ⟨_, _, rfl, rfl, _, _, rfl, rfl, ?_⟩
              refine ⟨_, rfl, _, rfl, bS u, rfl, by rw [bS_len]; exact Nat.le_of_lt (small10 (by omega)), _, _, rfl, rfl, _, _, rfl, rfl, by show 2 ≤ sizeLine; decide, fun tt ntt => ?_⟩
              rw [bS_len]
              have lps := Paired.length pr
              refine ⟨R, ps, _, rfl, rfl, (upd_ne (ne_of_none hR7 ntt)).trans hR7, small10 (by omega), ?_⟩
              have ttR : tt ≠ R := Ne.symm (ne_of_none hR7 ntt)
              refine hnx _ _ ⟨rfl, ps ++ [.ref tt], _, fun b o z => ?_, upd_same, ?_, D1, by rw [List.length_append, List.length_singleton]; omega⟩
              · rw [upd_ne (ne_of_none z nR), upd_ne (ne_of_none (e27 _ _ z) ntt)]
                exact e27 _ _ z
              · have keep : ∀ a xs, H4 a = some (.tup xs) → upd (upd H7 tt (.tup [.int (((bitsOf d.ws (ox.take i)).length : Nat) + ((n : Nat) : Int) - 1), .int (((bitsOf d.ws (ox.take i)).length : Nat) + ((u.length : Nat) : Int) - 1)])) R (.lst (ps ++ [.ref tt])) a = some (.tup xs) := fun a xs z => by
                  have z7 : H7 a = some (.tup xs) := e7 _ _ (e6 _ _ (e5 _ _ z))
                  rw [upd_ne (ne_of z7 hR7 fun y => nomatch y), upd_ne (ne_of_none z7 ntt)]
                  exact z7
                exact Paired.snoc (Paired.mapP pr4 fun _ _ ⟨a, h1, h2⟩ => ⟨a, h1, keep _ _ h2⟩) ⟨tt, rfl, (upd_ne ttR).trans upd_same⟩
        · rintro σ8 H8 ⟨rfl, ps8, L8, e8, hR8, pr8, du8, l8⟩
          refine ⟨_, rfl, _, rfl, bS u, rfl, by rw [bS_len]; exact Nat.le_of_lt (small10 (by omega)), _, _, rfl, rfl, ?_⟩
          refine ⟨nxt d.Ls s (o : Nat), some (.int (o : Nat)), some (wV u), some (.ref SU), ps8, L8, ?_, e8, hR8, pr8, by rw [ebs]; exact du8, l8⟩
          rw [ebs, List.length_append, bS_len]
          rfl
    · rintro σ H2 ⟨s, x8, x9, x10, ps, L, rfl, e2, hR2, pr, du, lL⟩
      rw [List.length_map, List.take_length] at du
      rw [List.length_map] at lL
      exact ⟨_, rfl, q R H2 ps s L e2 hR2 pr du (by omega)⟩
end
end K61
set_option Elab.async false
set_option linter.all false
set_option maxRecDepth 100001
set_option maxHeartbeats 3999999
namespace K61
open PySem L2
/-! ### a call that is refused -/
abbrev sRd : Stmt := topS 72
abbrev NRd : List Str := ["_law_call", "_law_told", "e"]
def tRdO : Addr → Value → Option Addr → TS := fun a cls d => tAsg (tTup (tCons (tC (.str "signs")) (tCons (tC (.int 0)) (tCons (tC (.int 0)) tNil)))) (gName 1)
def tRdT (C : Addr) : Addr → Value → Option Addr → TS := fun a cls d => tAsg (tTup (tCons (tXf a cls d C "what" (tVar 2)) (tCons (tXf a cls d C "many" (tVar 2)) (tCons (tXf a cls d C "most" (tVar 2)) tNil)))) (gName 1)
theorem takes_len {X : Cx} {W : WX} {n : Nat} (e : X.N.length = n) (tk : Takes X W) : Takes X (fun cls d σ H => σ.length = n → W cls d σ H) := fun u s' ⟨a, B, sI, pins, σ, H, cls, d, e1, I, nb, up, sky, na, os, ag, w⟩ =>
  tk u s' ⟨a, B, sI, pins, σ, H, cls, d, e1, I, nb, up, sky, na, os, ag, w (I.len.trans e)⟩
theorem pe_mono {X : Cx} {e : Expr} {te : TE} (h : PE X e te) : PE X e fun σ H Q => ∃ Q' : VK, (∀ x H1, Q' x H1 → Q x H1) ∧ te σ H Q' :=
  ⟨fun pins s σ H Q I ⟨Q', m, k⟩ => wpAny_mono (h.run pins s σ H Q' I k) (fun u s1 ⟨v, H1, I1, r, q⟩ => ⟨v, H1, I1, r, m _ _ q⟩) fun _ _ z => z⟩
/-- what comes of a call that is refused -/
def rRd (CO CT : Addr) (Q : VK) : XK := fun cls d H' => (cls = .ref CO ∧ ∀ t, H' t = none → Q (.ref t) (upd H' t (.tup [.str "signs", .int 0, .int 0]))) ∨
  (cls = .ref CT ∧ ∃ dd v1 v2 v3, d = some dd ∧ H' dd = some (.xd [("most", v3), ("many", v2), ("what", v1)]) ∧ ∀ t, H' t = none → Q (.ref t) (upd H' t (.tup [v1, v2, v3])))
def TTd (CO CT : Addr) : (XK → Hp → VK → Prop) → Hp → VK → Prop := fun tl H Q => tl (rRd CO CT Q) H fun _ _ => False
structure Ctd (K : PySem.W.Frag) (mg : Str → Option Value) (CO CT : Addr) : Prop where
  xO : Ct K mg "OtherSigns" CO
  xT : Ct K mg "TooMany" CT
  n1 : PySem.W.findIn K (.ref CT) "what" = some none
  n2 : PySem.W.findIn K (.ref CT) "many" = some none
  n3 : PySem.W.findIn K (.ref CT) "most" = some none
  e10 : PySem.W.exmOne K (.ref CT) (.ref CO) = some false
theorem scRd : FnScope NRd ["_law_call"] (defScope sRd) := ⟨rfl, rfl, rfl, by decide +kernel, rfl, by decide +kernel, by decide +kernel⟩
theorem rd_gives {X : Cx} {g CO CT : Addr} {cdg : Value} {q : Str} (T : Ctd X.K X.mg CO CT) : LamX.GivesTo X NRd "_law_refused" (defScope sRd) g cdg (defBody sRd) "_law_call" q (TTd CO CT) := by
  intro f c' s H Q tl act hc h
  refine ⟨_, pss_cons (ps_set (i := 1) scRd.nd rfl (Or.inl rfl) pe_non) (pss_cons (ps_try_clauses
      (tb := fun W D σ H => ∃ Ech : XK, (∀ cls d σ' H', Ech cls d H' → σ'.length = 3 → W cls d σ' H') ∧ σ[0]? = some (some (.ref f)) ∧ H c' = some (LamX.CodeO c' q) ∧ ∃ Q' : VK, (∀ x H1, Q' x H1 → D.nx σ H1) ∧ tl Ech H Q') (Wout := fun _ _ _ _ => False)
        (l := [(.ref CO, none, tRdO), (.ref CT, some 2, tRdT CT)]) rfl rfl scRd.nd LamX.takes0
        (fun W pn xe tk _ => ?_)
        (.plain ⟨rfl, by decide, .inl T.xO.g⟩ (fun a oe cls d pn hz hf => pss_one (ps_set (i := 1) scRd.nd rfl (Or.inl rfl) (pe_tup (pa_cons pe_str (pa_cons pe_int (pa_cons pe_int pa_nil))))))
        (.named ⟨rfl, by decide, .inl T.xT.g⟩ rfl rfl (fun a oe cls d pn hz hf => pss_one (ps_set (i := 1) scRd.nd rfl (Or.inl rfl) (pe_tup (pa_cons (pe_xf T.xT.T T.n1 hz hf (pv 2)) (pa_cons (pe_xf T.xT.T T.n2 hz hf (pv 2)) (pa_cons (pe_xf T.xT.T T.n3 hz hf (pv 2)) pa_nil))))))
        .nil)))
      (pss_one (ps_ret (pv 1)))), ?_⟩
  · refine ⟨fun pins s' σ H' D I h' => ?_⟩
    obtain ⟨Eq, hW, h1, h2, Q', h4, h3⟩ := h'
    have hp := fun p1 p2 => pe_mono (act _ pn xe Eq p1 p2 (takes_len (n := 3) rfl tk) fun cls d σ' H' e => hW cls d σ' H' e)
    refine (pss_one (ps_expr (hp _ _))).run pins s' σ H' D I ?_
    exact ⟨Q', h4, h1, h2, h3⟩
  · refine gN ?_
    refine ⟨rRd CO CT Q, fun cls d σ' H' e hl => ?_, rfl, hc, _, ?_, h⟩
    · match σ', hl with
      | [u0, u1, u2], _ =>
        rcases e with ⟨rfl, k⟩ | ⟨rfl, dd, v1, v2, v3, rfl, hd, k⟩
        · refine ⟨true, T.xO.me, fun _ a na => ?_, fun z => nomatch z⟩
          exact ⟨by show 3 ≤ sizeLine; decide, fun t nt => ⟨_, rfl, k t nt⟩⟩
        · refine ⟨false, T.e10, (fun z => nomatch z), fun _ => ⟨true, T.xT.me, fun _ a na => ?_, fun z => nomatch z⟩⟩
          exact ⟨_, rfl, rfl, rfl, dd, _, _, rfl, hd, rfl, _, rfl, rfl, rfl, dd, _, _, rfl, hd, rfl, _, rfl, rfl, rfl, dd, _, _, rfl, hd, rfl, by show 3 ≤ sizeLine; decide, fun t nt => ⟨_, rfl, k t nt⟩⟩
    · intro x H1 k
      exact k.elim
section
variable {X : Cx}
/-- _law_refused(lambda: ..) -/
theorem pe_rd {Tb : List (Addr × Str)} {g c T CO CT : Addr} {fd : FuncData} {k j : Nat} {params : Arguments} {body : Expr} {scope : Scope} {t : XK → TE} {p lpos pos : Pos} (FA : Fun X.K "_law_refused" "_law_refused" sRd g fd) (bA : Binds X.K fd ["_law_call"] [])
    (gA : X.mg "_law_refused" = some (.ref g)) (C : Ctd X.K X.mg CO CT) (TB : LamX.TabB X.base X.mg c T) (hmT : (T, X.env.qual ++ "<lambda>") ∈ Tb) (hu : ∀ p ∈ Tb, p.1 = T → p.2 = X.env.qual ++ "<lambda>") (hr : Room j X.A) (hk : k + 2 ≤ j) (L : LamX.LamS X.env.scope scope)
    (hbody : ∀ (A : Around) (outer : List Env) (s : Shared) (H : Hp) (E : XK) (f c' : Addr), Room k (A.deeper (LamX.lamEnv X scope s.heap.objs.size f c')) → PE (LamX.lamCx X A outer s H E scope f c') body (t E))
    (hg : Gl X "_law_refused" := by rfl) (hcode : X.env.code = .ref c := by rfl) (hdef : defaultsOf params X.env = ([], []) := by rfl)
    (hbind : ∀ (q : Str) (cl : List (Str × Addr)) (pm cv ctv : Value), bindArgs (PySem.W.kla_fn "<lambda>" q params body scope cl pm cv ctv) ⟨[], []⟩ = pure [] := by intros; rfl) :
    PE X (.Call (.Name "_law_refused" p) [.Lambda params body scope lpos] [] pos) (LamX.tLam Tb (TTd CO CT) t) := by
  obtain ⟨oc, od, kV, doc, pm, an, cdv, ct, osl, rfl, lk, hcd⟩ := FA.ex
  exact LamX.pe_lamcall (k := k) hg gA FA.kp lk hcd bA scRd rfl (.inl rfl) (rd_gives C) TB hcode hmT hu (hr.mono hk) L hdef hbind hbody
end
end K61
set_option Elab.async false
set_option linter.all false
set_option maxRecDepth 100001
set_option maxHeartbeats 3999999
namespace K61
open PySem L2
theorem PrAt.ext {H H' : Hp} {ts : List V} {l : List (Int × Int)} (h : PrAt H ts l) (e : LamX.ExtN H H') : PrAt H' ts l := Paired.mapP h fun _ _ ⟨a, h1, h2⟩ => ⟨a, h1, (e _ _ h2 fun _ z => nomatch z)⟩
theorem TrAt.ext {H H' : Hp} {ts : List V} {l : List Mv} (h : TrAt H ts l) (e : LamX.ExtN H H') : TrAt H' ts l := Paired.mapP h fun _ _ ⟨a, h1, h2⟩ => ⟨a, h1, (e _ _ h2 fun _ z => nomatch z)⟩
theorem StrAt.ext {H H' : Hp} {ts : List V} {l : List (List Int)} (h : StrAt H ts l) (e : LamX.ExtN H H') : StrAt H' ts l := Paired.mapP h fun _ _ ⟨a, rs, h1, h2, h3⟩ => ⟨a, rs, h1, (e _ _ h2 fun _ z => nomatch z), h3.ext e⟩
theorem KrAt.ext {H H' : Hp} {ts : List V} {l : List (List Int)} (h : KrAt H ts l) (e : LamX.ExtN H H') : KrAt H' ts l := Paired.mapP h fun _ _ ⟨r, u, ms, h1, h2, h3, h4⟩ => ⟨r, u, ms, h1, (e _ _ h2 fun _ z => nomatch z), (e _ _ h3 fun _ z => nomatch z), h4.ext e⟩
theorem IsM.ext {C : Addr} {H H' : Hp} {p : Addr} {n : Nat} {Ls : List (List Int)} {st : Int} {ms : List Int} (h : IsM C H p n Ls st ms) (e : LamX.ExtN H H') : IsM C H' p n Ls st ms :=
  let ⟨dx, tb, rw, mk, kd, ts, us, h1, h2, h3, h4, h5, h6, h7⟩ := h
  ⟨dx, tb, rw, mk, kd, ts, us, (e _ _ h1 fun _ z => nomatch z), (e _ _ h2 fun _ z => nomatch z), h3.ext e, (e _ _ h4 fun _ z => nomatch z), h5.ext e, (e _ _ h6 fun _ z => nomatch z), (e _ _ h7 fun _ z => nomatch z)⟩
theorem TabAt.ext {H H' : Hp} {ts : List V} {T : List (List Int)} (h : TabAt H ts T) (e : LamX.ExtN H H') : TabAt H' ts T := Paired.mapP h fun _ _ ⟨a, h1, h2⟩ => ⟨a, h1, (e _ _ h2 fun _ z => nomatch z)⟩
theorem IsTr.ext {C : Addr} {H H' : Hp} {p : Addr} {ws : List W} (h : IsTr C H p ws) (e : LamX.ExtN H H') : IsTr C H' p ws :=
  let ⟨dx, a1, a2, a3, D, nm, y2, y3, kvs, h1, h2, h3, h4, h5, h6⟩ := h; ⟨dx, a1, a2, a3, D, nm, y2, y3, kvs, (e _ _ h1 fun _ z => nomatch z), (e _ _ h2 fun _ z => nomatch z), (e _ _ h3 fun _ z => nomatch z), (e _ _ h4 fun _ z => nomatch z), (e _ _ h5 fun _ z => nomatch z), h6⟩
theorem CdAt.ext {C CR : Addr} {H H' : Hp} {q : Addr} {ws : List W} (h : CdAt C CR H q ws) (e : LamX.ExtN H H') : CdAt C CR H' q ws :=
  let ⟨dx, lt, wt, tr, L, h1, h2, h3⟩ := h.ob
  ⟨⟨dx, lt, wt, tr, L, (e _ _ h1 fun _ z => nomatch z), (e _ _ h2 fun _ z => nomatch z), h3.ext e⟩, h.pf, h.two, h.few, h.long⟩
theorem mk_ok2 {C : Addr} {H : Hp} {r mk : Addr} {n : Nat} {st : Int} {rvs : List V} {Ls : List (List Int)} {ms : List Int} {R : Addr → Hp → Prop} {E : XK} (hr : LT H r rvs) (rows : RowsAt H n (Ls.length : Int) rvs Ls) (hm : LT H mk (ms.map V.int)) (O : OkMa n Ls st ms)
    (q : ∀ x H', H x = none → Same H H' → IsM C H' x n Ls st ms → R x H') : ∀ x dx, H x = none → H dx = none → dx ≠ x → spInit C [.ref x, .int (n : Nat), .ref r, .int st, .ref mk] (upd (upd H dx (.own x)) x (.ins C dx [])) (fun v H2 => v = .non ∧ R x H2) E := by
  intro x dx nx ndx ne
  have e : Same H (upd (upd H dx (.own x)) x (.ins C dx [])) := same_ins nx ndx
  exact ⟨x, dx, r, mk, n, st, rvs, Ls, ms, rfl, upd_same, hr.same e, rows.same e, hm.same e, O, fun H' b M => ⟨rfl, q x H' nx (fun b' o' z => b _ _ (ne_of_none z nx) (e _ _ z)) M⟩⟩
theorem fl_sii {z : Str} (h : PyData.strOk z = true) (i j : Int) : ∀ v ∈ [V.str z, .int i, .int j], Flat v := fun v hv => by
  rcases List.mem_cons.mp hv with rfl | hv
  · exact h
  · rcases List.mem_cons.mp hv with rfl | hv
    · exact True.intro
    · rw [List.mem_singleton.mp hv]
      exact True.intro
theorem nodup_sub {α : Type} [DecidableEq α] : ∀ (l m : List α), l.Nodup → (∀ x ∈ l, x ∈ m) → l.length ≤ m.length
  | [], _, _, _ => Nat.zero_le _
  | a :: l, m, nd, h => by
    obtain ⟨n1, n2⟩ := List.nodup_cons.mp nd
    have ha := h a List.mem_cons_self
    have ih := nodup_sub l (m.erase a) n2 fun x hx => (List.mem_erase_of_ne (fun e : x = a => n1 (by rw [← e]; exact hx))).mpr (h x (List.mem_cons_of_mem _ hx))
    rw [List.length_erase_of_mem ha] at ih
    have : 0 < m.length := List.length_pos_of_mem ha
    rw [List.length_cons]
    omega
def smAll (k : Nat) (ws : List W) : List (Int × W) := ((List.range k).map fun i => (ws.map fun w => (List.range w.length).map fun m => ((((i : Nat) : Int), w.take m) : Int × W)).flatten).flatten
theorem flat_le {α β : Type} (f : α → List β) (c : Nat) : ∀ l : List α, (∀ x ∈ l, (f x).length ≤ c) → (l.map f).flatten.length ≤ c * l.length
  | [], _ => Nat.zero_le _
  | x :: l, h => by
    have ih := flat_le f c l fun y hy => h y (List.mem_cons_of_mem _ hy)
    have hx := h x List.mem_cons_self
    rw [List.map_cons, List.flatten_cons, List.length_append, List.length_cons, Nat.mul_add]
    omega
theorem smAll_le {k : Nat} {ws : List W} (hk : k ≤ 4) (hw : ws.length ≤ 6) (hl : ∀ w ∈ ws, w.length ≤ 5) : (smAll k ws).length ≤ 120 := by
  have h1 : ∀ i ∈ List.range k, ((ws.map fun w => (List.range w.length).map fun m => ((((i : Nat) : Int), w.take m) : Int × W)).flatten).length ≤ 30 := fun i _ => by
    have := flat_le (fun w : W => (List.range w.length).map fun m => ((((i : Nat) : Int), w.take m) : Int × W)) 5 ws fun w hw => by
      rw [List.length_map, List.length_range]
      exact hl w hw
    omega
  have h2 := flat_le (fun i => (ws.map fun w => (List.range w.length).map fun m => ((((i : Nat) : Int), w.take m) : Int × W)).flatten) 30 (List.range k) h1
  rw [List.length_range] at h2
  unfold smAll
  omega

theorem nd_small {d : SD} (F : Ful d.ws) (hk : d.Ls.length ≤ 4) (hl : ∀ w ∈ d.ws, w.length ≤ 5) {s : Int} {x : W} (ok : SOk d.ws d.Ls (s, x)) : (s, x) ∈ smAll d.Ls.length d.ws := by
  obtain ⟨s1, s2, o, v, nv, e⟩ := ok
  obtain ⟨i, ei⟩ := Int.eq_ofNat_of_zero_le s1
  unfold smAll
  refine List.mem_flatten.mpr ⟨_, List.mem_map.mpr ⟨i, List.mem_range.mpr (by omega), rfl⟩, List.mem_flatten.mpr ⟨_, List.mem_map.mpr ⟨x ++ v, List.mem_of_getElem? e, rfl⟩, List.mem_map.mpr ⟨x.length, List.mem_range.mpr ?_, ?_⟩⟩⟩
  · rw [List.length_append]
    have : v.length ≠ 0 := fun z => nv (List.length_eq_zero_iff.mp z)
    omega
  · rw [List.take_left', ← ei]
    rfl
theorem sm_bfS {d : SD} (F : Ful d.ws) (O : OkMa d.ws.length d.Ls d.st d.ms) (hk : d.Ls.length ≤ 4) (hw : d.ws.length ≤ 6) (hl : ∀ w ∈ d.ws, w.length ≤ 5) (t : Nat) : (bfS d t).length ≤ 120 :=
  Nat.le_trans (nodup_sub _ (smAll d.Ls.length d.ws) (bf_nodup t) fun x hx => nd_small F hk hl (Ful.all F O t x hx)) (smAll_le hk hw hl)
theorem sm_bfN {d : SD} (F : Ful d.ws) (O : OkMa d.ws.length d.Ls d.st d.ms) (hk : d.Ls.length ≤ 4) (hw : d.ws.length ≤ 6) (hl : ∀ w ∈ d.ws, w.length ≤ 5) (t : Nat) : (bfN d t).length ≤ 240 := by
  have h := nodup_sub (bfN d t) (((smAll d.Ls.length d.ws).map fun p => ((p.1, p.2, false) : Tri)) ++ ((smAll d.Ls.length d.ws).map fun p => ((p.1, p.2, true) : Tri))) (bf_nodup t) fun x hx => by
    have m := nd_small F hk hl (Ful.allN F O t x hx)
    obtain ⟨s, y, b⟩ := x
    cases b with
    | false => exact List.mem_append_left _ (List.mem_map.mpr ⟨_, m, rfl⟩)
    | true => exact List.mem_append_right _ (List.mem_map.mpr ⟨_, m, rfl⟩)
  rw [List.length_append, List.length_map, List.length_map] at h
  have := smAll_le (k := d.Ls.length) (ws := d.ws) hk hw hl
  omega
theorem ok_rwG {S : Type} [DecidableEq S] {first : S} {step : S → Bool → S} (mark : S → Bool) {N : Nat} (hN : (bf first step N).length = N) (N2 : N ≤ 2000) : OkMa 2 (rws first step N) 0 (selM (fun i => mark ((bf first step N).getD i first)) N) := by
  have n1 : 1 ≤ N := by
    have : 1 ≤ (bf first step N).length := bf_len_pos N
    omega
  have lr : (rws first step N).length = N := by
    unfold rws
    rw [List.length_map]
    exact hN
  have := OkMa.sel (n := 2) (Ls := rws first step N) (st := 0) (ms := []) ⟨by decide, by decide, by rw [lr]; exact n1, by rw [lr]; exact N2, fun L hL => ?_, Int.le_refl _, by rw [lr]; omega, (fun m hm => nomatch hm), .nil⟩ (fun i => mark ((bf first step N).getD i first))
  · rw [lr] at this
    exact this
  · obtain ⟨x, hx, rfl⟩ := List.mem_map.mp hL
    have m0 := idxD_lt (bf_closed (Nat.le_of_eq hN) hx false)
    have m1 := idxD_lt (bf_closed (Nat.le_of_eq hN) hx true)
    refine ⟨rfl, fun y hy => ?_⟩
    rw [lr]
    rw [hN] at m0 m1
    rcases List.mem_cons.mp hy with rfl | hy
    · exact ⟨Int.natCast_nonneg _, Int.le_sub_one_of_lt (Int.ofNat_lt.mpr m0)⟩
    · rw [List.mem_singleton.mp hy]
      exact ⟨Int.natCast_nonneg _, Int.le_sub_one_of_lt (Int.ofNat_lt.mpr m1)⟩
/-- what the law builds in 400 turns is the searcher -/
theorem built_eqN {d : SD} {N : Nat} (hN : (bfN d N).length = N) (N4 : N ≤ 400) : tbN d 400 = rwN d N ∧ mkDnN d 400 = mkN d N := by
  have e : bfN d 400 = bfN d N := bf_stay (Nat.le_of_eq hN) N4
  constructor
  · show tbl _ _ 400 = rws _ _ N
    unfold tbl rws
    rw [show bf (fN d) (stN d) 400 = bfN d N from e, List.take_of_length_le (by rw [hN]; exact N4)]
    rfl
  · unfold mkDnN mkN
    rw [e, hN]
/-! ### where the law stands -/
structure LS (C CR CMa : Addr) (Tb : List (Addr × Str)) (H : Hp) (pn cl : Addr) (b : Nat) (wl ta mk q m : Addr) (ts : List V) (d : SD) : Prop where
  pt : PT Tb H pn cl b
  hw : H wl = some (.lst (d.ws.map wV))
  hta : H ta = some (.lst ts)
  tab : TabAt H ts d.Ls
  hmk : H mk = some (.lst (d.ms.map V.int))
  cd : CdAt C CR H q d.ws
  ma : IsM CMa H m d.ws.length d.Ls d.st d.ms
section
variable {C CR CMa : Addr} {Tb : List (Addr × Str)} {H H' : Hp} {pn cl : Addr} {b b' : Nat} {wl ta mk q m : Addr} {ts : List V} {d : SD}
theorem LS.same (h : LS C CR CMa Tb H pn cl b wl ta mk q m ts d) (e : Same H H') : LS C CR CMa Tb H' pn cl b wl ta mk q m ts d := ⟨h.pt.same e, e _ _ h.hw, e _ _ h.hta, h.tab.same e, e _ _ h.hmk, h.cd.same e, h.ma.same e⟩
/-- all but dicts stays -/
def KD (H H' : Hp) : Prop := ∀ b o, H b = some o → (∀ kvs, o ≠ .dK kvs) → H' b = some o
theorem kd_pen (p : Pen H pn cl b) (e : But pn H H') : KD H H' := fun x o z n => e x o (p.ne z n) z
theorem PrAt.kd {ts : List V} {l : List (Int × Int)} (h : PrAt H ts l) (e : KD H H') : PrAt H' ts l := Paired.mapP h fun _ _ ⟨a, h1, h2⟩ => ⟨a, h1, e _ _ h2 fun _ z => nomatch z⟩
theorem TrAt.kd {ts : List V} {l : List Mv} (h : TrAt H ts l) (e : KD H H') : TrAt H' ts l := Paired.mapP h fun _ _ ⟨a, h1, h2⟩ => ⟨a, h1, e _ _ h2 fun _ z => nomatch z⟩
theorem IsM.kd {n : Nat} {Ls : List (List Int)} {st : Int} {ms : List Int} {p : Addr} (h : IsM C H p n Ls st ms) (e : KD H H') : IsM C H' p n Ls st ms :=
  let ⟨dx, tb, rw, mk, kd, ts, us, h1, h2, h3, h4, h5, h6, h7⟩ := h
  ⟨dx, tb, rw, mk, kd, ts, us, (e _ _ h1 fun _ z => nomatch z), (e _ _ h2 fun _ z => nomatch z), Paired.mapP h3 (fun _ _ ⟨a, rs, h1, h2, h3⟩ => ⟨a, rs, h1, (e _ _ h2 fun _ z => nomatch z), h3.kd e⟩), (e _ _ h4 fun _ z => nomatch z), Paired.mapP h5 (fun _ _ ⟨r, u, ms, h1, h2, h3, h4⟩ => ⟨r, u, ms, h1, (e _ _ h2 fun _ z => nomatch z), (e _ _ h3 fun _ z => nomatch z), h4.kd e⟩), (e _ _ h6 fun _ z => nomatch z), (e _ _ h7 fun _ z => nomatch z)⟩
theorem CdAt.but {ws : List W} (h : CdAt C CR H q ws) (p : Pen H pn cl b) (e : But pn H H') : CdAt C CR H' q ws := by
  have k := kd_pen p e
  obtain ⟨dx, lt, wt, tr, L, h1, h2, dx2, a1, a2, a3, D, nm, y2, y3, kvs, g1, g2, g3, g4, g5, g6⟩ := h.ob
  refine ⟨⟨dx, lt, wt, tr, L, k _ _ h1 (fun _ z => nomatch z), k _ _ h2 (fun _ z => nomatch z), dx2, a1, a2, a3, D, nm, y2, y3, kvs, k _ _ g1 (fun _ z => nomatch z), k _ _ g2 (fun _ z => nomatch z), k _ _ g3 (fun _ z => nomatch z), k _ _ g4 (fun _ z => nomatch z), e _ _ (fun z => ?_) g5, g6⟩, h.pf, h.two, h.few, h.long⟩
  obtain ⟨j, hj, _⟩ := g6.num [] (List.mem_of_getElem? g6.root)
  obtain ⟨_, _, _, p1, _⟩ := p
  rw [z, p1] at g5
  injection g5 with g5
  injection g5 with g5
  rw [← g5] at hj
  cases hj
theorem LS.but (h : LS C CR CMa Tb H pn cl b wl ta mk q m ts d) (e : But pn H H') (p : Pen H' pn cl b') : LS C CR CMa Tb H' pn cl b' wl ta mk q m ts d :=
  have k := kd_pen h.pt.pen e
  ⟨h.pt.but e p, k _ _ h.hw (fun _ z => nomatch z), k _ _ h.hta (fun _ z => nomatch z), Paired.mapP h.tab (fun _ _ ⟨a, h1, h2⟩ => ⟨a, h1, k _ _ h2 fun _ z => nomatch z⟩), k _ _ h.hmk (fun _ z => nomatch z), h.cd.but h.pt.pen e, h.ma.kd k⟩
end
set_option synthInstance.maxSize 20000 in
instance decTq : DecidableEq (List Rw × Int × List Int) := inferInstance
def dTq (p : List Rw × Int × List Int) : PyData := .tuple [dRows p.1, .int p.2.1, dInts p.2.2]
theorem enc_tq : Enc dTq 5 := enc_rows.three (enc_int.mono (by decide)) (enc_ints.mono (by decide))
theorem join_words (us : List W) : Txt.join "" (us.map bS) = bS us.flatten := by
  rw [TL.join_eq]
  refine tl_inj ?_
  have e : ∀ u : W, TL.tl (bS u) = u.map cd := fun u => by
    unfold bS
    exact S_list _
  rw [TL.tl_join, show TL.tl ("" : Str) = [] from rfl, joinL_nil, List.map_map, e]
  induction us with
  | nil => rfl
  | cons b us ih =>
    rw [List.map_cons, List.flatten_cons, List.flatten_cons, List.map_append, ih]
    show TL.tl (bS b) ++ _ = _
    rw [e]
/-! ### the last refusal -/
abbrev sOSigns : Stmt := inClass (topS 17) 0
section
variable {P : Program} {w : World} {K : PySem.W.Frag} {mg : Str → Option Value} {base : Heap}
theorem scOSigns : FnScope ["self"] ["self"] (defScope sOSigns) := ⟨rfl, rfl, rfl, by decide +kernel, rfl, by decide +kernel, by decide +kernel⟩
theorem ok_OSigns {f : Addr} {fd : FuncData} (F : Fun K "__init__" "OtherSigns.__init__" sOSigns f fd) : FnOk P w K mg base CX0 1 f fd ["self"] spX0 := by
  refine F.ok scOSigns (fun vs H Q E h => ?_) (fun cdv A outer s H vs Q E hr h => ?_)
  · obtain ⟨a, rfl, _⟩ := h
    rfl
  · obtain ⟨a, rfl, q⟩ := h
    exact ⟨_, pss_one ps_pass, q⟩
end
end K61
set_option Elab.async false
set_option linter.all false
set_option maxRecDepth 100001
set_option maxHeartbeats 3999999
namespace K61
open PySem L2
theorem op_notIn_seqK {X : Cx} (K : PySem.W.Frag) (hK : X.K = K) : OpR X (compareOp .NotIn) (rIn K true) := by
  subst hK
  exact op_notIn_seq
theorem pe_lenK {X : Cx} (K : PySem.W.Frag) (hK : X.K = K) {a : Expr} {es : List Expr} {t : TA} {p pos : Pos} (hm : X.mg "len" = none) (ha : PA X (a :: es) t) (hg : Gl X "len" := by rfl) (he : starEach (a :: es) X.env = (false, eval a X.env) :: starEach es X.env := by rfl)
    (hpl : (backTo pos (starEach es X.env)).any (·.1) = false := by rfl) :
    PE X (.Call (.Name "len" p) (a :: es) [] pos) (tCB (fun xs H Q => ∃ p ys, xs = [.ref p] ∧ (SqL K H p ys ∨ SqT K H p ys) ∧ Q (.int ys.length) H) t) := by
  subst hK
  exact pe_len hm ha hg he hpl
/-! ### the law -/
abbrev sLaw : Stmt := topS 76
abbrev NLaw : List Str := ["_law_script", "_law_pen", "_law_lap", "_law_words", "_law_states", "_law_table_here", "_law_marks_here", "_law_start", "_law_state", "_law_code_here", "_law_machine_here", "_law_found", "_law_due_here", "_law_text", "_law_k", "_law_bits", "_law_pairs", "_law_sign", "_law_pair", "_law_spot", "_law_wide"]
def spLaw (K : PySem.W.Frag) (Tb : List (Addr × Str)) : L2.Sp := fun vs H Q _ => ∃ (a : Addr) (is : List Int), vs = [.ref a] ∧ SqL K H a (is.map V.int) ∧ LamX.Tabs Tb H ∧ ∀ H', Q (.bl true) H'
structure LwC (P : Program) (w : World) (K : PySem.W.Frag) (mg : Str → Option Value) (base : Heap) (f c T g C CR CMa CO CT : Addr) (fd fdA : FuncData) (Tb : List (Addr × Str)) : Prop where
  F : FunL K base mg "law" "law" sLaw f c T fd
  B : Bi mg
  Tx : Txt K CMa
  cPn : Cal CX0 P w K mg base 1 "_law_pen_of" (spPen K)
  cD : Cal CX0 P w K mg base 1 "_law_draw" spDraw
  cWO : Cal CX0 P w K mg base 2 "_law_words_of" spWOf
  cLT : Cal CX0 P w K mg base 2 "_law_table" spLT
  cLM : Cal CX0 P w K mg base 2 "_law_marks" spLM
  cLC : Cal CX0 P w K mg base 10 "_law_code" (spLC C CR Tb)
  cMa : Cal CX0 P w K mg base 6 "_law_machine" (spLMa CMa)
  cSo : Cal (L2.CX P w) P w K mg base 9 "soonest_search" (spSs C CR CMa CO CT)
  cBS : Cal (L2.CX P w) P w K mg base 9 "bit_search" (spBSe C CR CMa CO CT)
  cLs : Cal CX0 P w K mg base 2 "_law_soonest" spLso
  cRK : Cal CX0 P w K mg base 2 "_law_rows_kept" spLRK
  cDu : Cal CX0 P w K mg base 2 "_law_due" spDu
  cLN : Cal CX0 P w K mg base 1 "_law_numbers" spLN
  mMk : Met CX0 P w K mg base 5 CMa "marked_in" (spMkd CMa)
  mM : Mak CX0 P w K mg base 4 "Machine" CMa (spInit CMa)
  FA : Fun K "_law_refused" "_law_refused" sRd g fdA
  bA : Binds K fdA ["_law_call"] []
  gA : mg "_law_refused" = some (.ref g)
  Ts : Ctd K mg CO CT
  hmT : (T, (("law.<locals>.<lambda>" : String) : Str)) ∈ Tb
  hu : ∀ p ∈ Tb, p.1 = T → p.2 = (("law.<locals>.<lambda>" : String) : Str)
section
variable {P : Program} {w : World} {K : PySem.W.Frag} {mg : Str → Option Value} {base : Heap}
theorem scLaw : FnScope NLaw ["_law_script"] (defScope sLaw) := ⟨rfl, rfl, rfl, by decide +kernel, rfl, by decide +kernel, by decide +kernel⟩
theorem ok_law {f c T g C CR CMa CO CT : Addr} {fd fdA : FuncData} {Tb : List (Addr × Str)} (R : LwC P w K mg base f c T g C CR CMa CO CT fd fdA Tb) : FnOk P w K mg base CX0 13 f fd ["_law_script"] (spLaw K Tb) := by
  refine R.F.okX (CX := CX0) scLaw (fun vs H Q E h => ?_) (fun A outer s H vs Q E hr h => ?_)
  · obtain ⟨a, is, rfl, _⟩ := h
    rfl
  · obtain ⟨a, is, rfl, hs, tabs, qq⟩ := h
    obtain ⟨F, B, Tx, cPn, cD, cWO, cLT, cLM, cLC, cMa, cSo, cBS, cLs, cRK, cDu, cLN, mMk, mM, FA, bA, gA, Ts, hmT, hu⟩ := id R
    refine ⟨_, pss_cons (ps_set (i := 1) scLaw.nd rfl (Or.inr rfl) (pe_c cPn hr pass0 (pa_cons (pv 0) pa_nil)))
      (pss_cons (ps_for PassesOwn.never rfl (pi_range1 rfl B.range (pa_cons pe_int pa_nil)) (pg_name (i := 2) scLaw.nd rfl (Or.inl rfl))
        (pss_cons (ps_asg (pe_tup (pa_cons (pe_c cWO hr pass0 (pa_cons (pv 1) (pa_cons (pe_op op_add pe_int (pe_c cD hr pass0 (pa_cons (pv 1) (pa_cons pe_int pa_nil)))) pa_nil))) (pa_cons (pe_op op_add pe_int (pe_c cD hr pass0 (pa_cons (pv 1) (pa_cons pe_int pa_nil)))) pa_nil))) (pg_tup rfl (pgs_cons (pg_name (i := 3) scLaw.nd rfl (Or.inr rfl)) (pgs_cons (pg_name (i := 4) scLaw.nd rfl (Or.inl rfl)) pgs_nil))))
        (pss_cons (ps_asg (pe_tup (pa_cons (pe_c cLT hr pass0 (pa_cons (pv 1) (pa_cons (pe_len B.len (pa_cons (pv 3) pa_nil)) (pa_cons (pv 4) pa_nil)))) (pa_cons (pe_c cLM hr pass0 (pa_cons (pv 1) (pa_cons (pv 4) pa_nil))) (pa_cons (pe_c cD hr pass0 (pa_cons (pv 1) (pa_cons (pv 4) pa_nil))) pa_nil)))) (pg_tup rfl (pgs_cons (pg_name (i := 5) scLaw.nd rfl (Or.inl rfl)) (pgs_cons (pg_name (i := 6) scLaw.nd rfl (Or.inr rfl)) (pgs_cons (pg_name (i := 7) scLaw.nd rfl (Or.inl rfl)) pgs_nil)))))
        (pss_cons (ps_if (pt_cmpR op_eq (pe_c cD hr pass0 (pa_cons (pv 1) (pa_cons pe_int pa_nil))) pe_int (nomark _)) (pss_one (ps_set (i := 6) scLaw.nd rfl (Or.inr rfl) (pe_lc (own := [("_law_state", 8)]) rfl scLaw.nd (pi_range1 rfl B.range (pa_cons (pv 4) pa_nil)) (blkOk_by (N := NLaw) (sc := defScope sLaw) (by decide +kernel)) (fun _ _ _ _ _ => (pg_name (i := 8) scLaw.nd rfl (Or.inl rfl))) (fun _ _ _ _ _ => (pts_one (pt_cmpR (op_notIn_seqK K rfl) (pv 8) (pv 6) (by with_unfolding_all rfl)))) (fun _ _ _ _ _ => (pv 8))))) pss_nil)
        (pss_cons (ps_asg (pe_tup (pa_cons (pe_c cLC hr pass0 (pa_cons (pv 3) pa_nil)) (pa_cons (pe_c cMa hr pass0 (pa_cons (pv 5) (pa_cons (pv 7) (pa_cons (pv 6) pa_nil)))) pa_nil))) (pg_tup rfl (pgs_cons (pg_name (i := 9) scLaw.nd rfl (Or.inr rfl)) (pgs_cons (pg_name (i := 10) scLaw.nd rfl (Or.inl rfl)) pgs_nil))))
        (pss_cons (ps_par (i := 11) (j := 12) rfl scLaw.nd rfl rfl (by decide) rfl rfl (pa_cons (pe_c cSo hr passL (pa_cons (pv 9) (pa_cons (pv 10) pa_nil))) (pa_cons (pe_c cLs hr pass0 (pa_cons (pv 3) (pa_cons (pv 5) (pa_cons (pv 7) (pa_cons (pv 6) pa_nil))))) pa_nil)) rfl)
        (pss_cons (ps_if (pt_cmpR (op_neE (hu64 hr) enc_tq (by decide)) (pe_tup (pa_cons (pe_fld (pv 11) rfl) (pa_cons (pe_fld (pv 11) rfl) (pa_cons (pe_fld (pv 11) rfl) pa_nil)))) (pe_tup (pa_cons (pe_c cRK hr pass0 (pa_cons (pe_ix ix_tup (pv 12) pe_int (fun _ _ => rfl)) pa_nil)) (pa_cons pe_int (pa_cons (pe_tupleOf rfl B.tuple (pe_ix ix_tup (pv 12) pe_int (fun _ _ => rfl))) pa_nil)))) (nomark _)) (pss_one (ps_ret pe_bl)) pss_nil)
        (pss_cons (ps_setLc (i := 13) (own := [("_law_k", 14)]) rfl scLaw.nd rfl rfl (sw_true rfl rfl rfl (by decide +kernel)) (pi_range1 rfl B.range (pa_cons (pe_c cD hr pass0 (pa_cons (pv 1) (pa_cons pe_int pa_nil))) pa_nil)) (blkOk_by (N := NLaw) (sc := defScope sLaw) (by decide +kernel)) (fun _ _ _ _ _ => (pg_name (i := 14) scLaw.nd rfl (Or.inl rfl))) (fun _ _ _ _ _ => pts_nil) (fun _ _ _ _ _ => (pe_c cD hr pass0 (pa_cons (pv 1) (pa_cons (pe_lenK K rfl B.len (pa_cons (pv 3) pa_nil)) pa_nil)))))
        (pss_cons (ps_par (i := 15) (j := 16) rfl scLaw.nd rfl rfl (by decide) rfl rfl (pa_cons (pe_m1 PySem.F.slot_str_join PySem.F.type_str_join mt_join pe_str (pe_lc (own := [("_law_sign", 17)]) rfl scLaw.nd (pi_sqA (pv 13)) (blkOk_by (N := NLaw) (sc := defScope sLaw) (by decide +kernel)) (fun _ _ _ _ _ => (pg_name (i := 17) scLaw.nd rfl (Or.inl rfl))) (fun _ _ _ _ _ => pts_nil) (fun _ _ _ _ _ => (pe_ix (ix_listK K rfl) (pv 3) (pv 17) (fun _ _ => rfl))))) (pa_cons (pe_c cDu hr pass0 (pa_cons (pv 3) (pa_cons (pv 5) (pa_cons (pv 7) (pa_cons (pv 6) (pa_cons (pv 13) pa_nil)))))) pa_nil)) rfl)
        (pss_cons (ps_if (pt_cmpR (op_neE (hu64 hr) enc_ints (by decide)) (pe_mt mMk hr pass0 (pv 11) (pa_cons (pe_c cLN hr pass0 (pa_cons (pv 15) pa_nil)) pa_nil)) (pe_tupleOf rfl B.tuple (pe_lc (own := [("_law_pair", 18)]) rfl scLaw.nd (pi_sqA (pv 16)) (blkOk_by (N := NLaw) (sc := defScope sLaw) (by decide +kernel)) (fun _ _ _ _ _ => (pg_name (i := 18) scLaw.nd rfl (Or.inl rfl))) (fun _ _ _ _ _ => pts_nil) (fun _ _ _ _ _ => (pe_ix (ix_tupK K rfl) (pv 18) pe_int (fun _ _ => rfl))))) (nomark _)) (pss_one (ps_ret pe_bl)) pss_nil)
        (pss_cons (ps_if (pt_cmpR (op_neE (hu64 hr) enc_ints (by decide)) (pe_mt mMk hr pass0 (pe_c cBS hr passL (pa_cons (pv 9) (pa_cons (pv 10) pa_nil))) (pa_cons (pe_c cLN hr pass0 (pa_cons (pv 15) pa_nil)) pa_nil)) (pe_tupleOf rfl B.tuple (pe_lc (own := [("_law_pair", 18)]) rfl scLaw.nd (pi_sqA (pv 16)) (blkOk_by (N := NLaw) (sc := defScope sLaw) (by decide +kernel)) (fun _ _ _ _ _ => (pg_name (i := 18) scLaw.nd rfl (Or.inl rfl))) (fun _ _ _ _ _ => pts_nil) (fun _ _ _ _ _ => (pe_ix (ix_tupK K rfl) (pv 18) pe_int (fun _ _ => rfl))))) (nomark _)) (pss_one (ps_ret pe_bl)) pss_nil)
        (pss_cons (ps_set (i := 19) scLaw.nd rfl (Or.inr rfl) (pe_c cD hr pass0 (pa_cons (pv 1) (pa_cons (pe_op op_add (pe_lenS B.len (pa_cons (pv 15) pa_nil)) pe_int) pa_nil))))
        (pss_one (ps_if (pt_cmpR (op_neE (hu64 hr) enc_ints (by decide)) (pe_mt mMk hr pass0 (pv 11) (pa_cons (pe_c cLN hr pass0 (pa_cons (pe_slice sl_str (pv 15) po_none (po_some (pv 19))) pa_nil)) pa_nil)) (pe_tupleOf rfl B.tuple (pe_lc (own := [("_law_pair", 18)]) rfl scLaw.nd (pi_sqA (pv 16)) (blkOk_by (N := NLaw) (sc := defScope sLaw) (by decide +kernel)) (fun _ _ _ _ _ => (pg_name (i := 18) scLaw.nd rfl (Or.inl rfl))) (fun _ _ _ _ _ => (pts_one (pt_cmpR op_lt (pe_ix (ix_tupK K rfl) (pv 18) pe_int (fun _ _ => rfl)) (pv 19) (nomark _)))) (fun _ _ _ _ _ => (pe_ix (ix_tupK K rfl) (pv 18) pe_int (fun _ _ => rfl))))) (nomark _)) (pss_one (ps_ret pe_bl)) pss_nil))))))))))))))
      (pss_cons (ps_set (i := 20) scLaw.nd rfl (Or.inr rfl) (pe_mk mM hr pass0 (pa_cons (pe_op op_add (pe_len B.len (pa_cons (pv 3) pa_nil)) pe_int) (pa_cons (pe_lst (pa_cons (pe_tup (pa_cons pe_int (pa_cons (pe_lst pa_nil) pa_nil))) pa_nil)) (pa_cons pe_int (pa_cons (pe_lst pa_nil) pa_nil))))))
      (pss_one (ps_ret (pe_cmpR (op_eqSmD (hu64 hr)) (by exact pe_rd (k := 9) (Tb := Tb) FA bA gA Ts F.tab hmT hu hr (by decide) (LamX.lamS_by (sc := defScope sLaw) (by decide +kernel)) (fun A outer s H E f c' hr' => pe_c cSo hr' (passes_call (takes_of rfl rfl rfl rfl) fun _ _ _ _ h => h) (pa_cons (pv 9) (pa_cons (pv 20) pa_nil)))) (pe_tup (pa_cons pe_str (pa_cons pe_int (pa_cons pe_int pa_nil)))) (nomark _)))))), ?_⟩
    refine ⟨_, rfl, a, is, rfl, hs, fun pn cl H1 _ _ e1 pen1 => ?_⟩
    have pt1 : PT Tb H1 pn cl 0 := ⟨pen1, tabs.ext e1⟩
    refine gN ?_
    dsimp only
    refine ⟨_, rfl, by decide, by decide, for_range (D := { nx := _, rt := Q, bk := fun _ _ => False, ct := fun _ _ => False }) (lo := 0) (n := (3 : Int).toNat) (fun i σ H' => ∃ (o2 o3 o4 o5 o6 o7 o9 o10 o11 o12 o13 o15 o16 o19 : Option V), σ = [some (.ref a), some (.ref pn), o2, o3, o4, o5, o6, o7, none, o9, o10, o11, o12, o13, none, o15, o16, none, none, o19, none] ∧ PT Tb H' pn cl (i * 300) ∧ (0 < i → ∃ wl q ws, o3 = some (.ref wl) ∧ o9 = some (.ref q) ∧ H' wl = some (.lst (ws.map wV)) ∧ CdAt C CR H' q ws ∧ ws.length ≤ 10)) ⟨_, _, _, _, _, _, _, _, _, _, _, _, _, _, rfl, pt1, fun z => absurd z (by decide)⟩ ?_ ?_⟩
    · rintro i σ H2 hi ⟨o2, o3, o4, o5, o6, o7, o9, o10, o11, o12, o13, o15, o16, o19, rfl, pt2, _⟩
      have hi : i < 3 := hi
      refine gN ?_
      dsimp only
      refine ⟨_, rfl, _, rfl, pn, cl, 5, _, rfl, pt2.pen, by omega, by decide, by decide, fun r1 H3 r10 r11 b3 p3 => ?_⟩
      obtain ⟨n1, rfl⟩ := Int.eq_ofNat_of_zero_le r10
      refine ⟨_, _, rfl, rfl, pn, cl, 2 + n1, _, rfl, p3, by omega, by omega, by omega, fun ws wl H4 fw lws b4 p4 nwl hwl => ?_⟩
      refine ⟨_, rfl, pn, cl, 4, _, rfl, p4, by omega, by decide, by decide, fun r2 H5 r20 r21 b5 p5 => ?_⟩
      obtain ⟨n2, rfl⟩ := Int.eq_ofNat_of_zero_le r20
      refine ⟨_, _, rfl, rfl, by show 2 ≤ sizeLine; decide, fun t2 nt2 => ⟨t2, _, rfl, SqT.of upd_same, rfl, _, _, rfl, _, _, rfl, rfl, ?_⟩⟩
      have hw5 := b5 _ _ (p4.ne hwl fun _ z => nomatch z) hwl
      have e5 := same_new (o := .tup [.ref wl, .int (1 + ((n2 : Nat) : Int))]) nt2
      have p5 := p5.same e5
      have hw5 := e5 _ _ hw5
      have b25 : But pn H2 (upd H5 t2 (.tup [.ref wl, .int (1 + ((n2 : Nat) : Int))])) := fun x o n z => e5 _ _ (b5 _ _ n (b4 _ _ n (b3 _ _ n z)))
      generalize upd H5 t2 (.tup [.ref wl, .int (1 + ((n2 : Nat) : Int))]) = H5 at p5 hw5 b25 ⊢
      clear b3 b4 b5 p3 p4 hwl nwl nt2 e5
      dsimp only
      have lw : (ws.map wV).length = 2 + n1 := by rw [List.length_map, lws]
      refine ⟨_, rfl, _, rfl, wl, _, rfl, .inl (SqL.of hw5), _, rfl, pn, cl, 2 + n1, 1 + n2, _, by rw [lw]; rfl, p5, by omega, by omega, by omega, by omega, fun ta ts T H6 nta b6 p6 hta tab lT okT => ?_⟩
      have hw6 := b6 _ _ (p5.ne hw5 fun _ z => nomatch z) hw5
      refine ⟨_, rfl, _, rfl, pn, cl, 1 + n2, _, rfl, p6, by omega, by omega, fun mk ms H7 nmk b7 p7 hmk msP msR => ?_⟩
      have hw7 := b7 _ _ (p6.ne hw6 fun _ z => nomatch z) hw6
      have hta7 := b7 _ _ (p6.ne hta fun _ z => nomatch z) hta
      have tab7 : TabAt H7 ts T := tab.but b7 p6.nl
      refine ⟨_, rfl, _, rfl, pn, cl, _, _, rfl, p7, by omega, by omega, by omega, fun st H8 st0 st1 b8 p8 => ?_⟩
      have hw8 := b8 _ _ (p7.ne hw7 fun _ z => nomatch z) hw7
      have hta8 := b8 _ _ (p7.ne hta7 fun _ z => nomatch z) hta7
      have tab8 : TabAt H8 ts T := tab7.but b8 p7.nl
      have hmk8 := b8 _ _ (p7.ne hmk fun _ z => nomatch z) hmk
      have b28 : But pn H2 H8 := fun x o n z => b8 _ _ n (b7 _ _ n (b6 _ _ n (b25 _ _ n z)))
      have pt8 : PT Tb H8 pn cl (i * 300 + 133) := ⟨p8.mono (by omega), (pt2.but b28 p8).tabs⟩
      clear b25 b6 b7 b8 p5 p6 p7 p8 hw5 hw6 hw7 hta hta7 tab tab7 hmk pt2 b28 nta nmk
      refine ⟨by show 3 ≤ sizeLine; decide, fun t3 nt3 => ⟨t3, _, rfl, SqT.of upd_same, rfl, _, _, rfl, _, _, rfl, _, _, rfl, rfl, ?_⟩⟩
      have e8 := same_new (o := .tup [.ref ta, .ref mk, .int st]) nt3
      have pt8 := pt8.same e8
      have hw8 := e8 _ _ hw8
      have hta8 := e8 _ _ hta8
      have tab8 := tab8.same e8
      have hmk8 := e8 _ _ hmk8
      generalize upd H8 t3 (.tup [.ref ta, .ref mk, .int st]) = H8 at pt8 hw8 hta8 tab8 hmk8 ⊢
      clear e8 nt3
      dsimp only
      refine cutSeq (fun σ9 H9 => ∃ (mk : Addr) (ms : List Int), σ9 = [some (.ref a), some (.ref pn), some (.int (0 + ((i : Nat) : Int))), some (.ref wl), some (.int (1 + ((n2 : Nat) : Int))), some (.ref ta), some (.ref mk), some (.int st), none, o9, o10, o11, o12, o13, none, o15, o16, none, none, o19, none] ∧ PT Tb H9 pn cl (i * 300 + 134) ∧ H9 wl = some (.lst (ws.map wV)) ∧ H9 ta = some (.lst ts) ∧ TabAt H9 ts T ∧ H9 mk = some (.lst (ms.map V.int)) ∧ ms.Pairwise (· < ·) ∧ ∀ m ∈ ms, 0 ≤ m ∧ m ≤ ((1 + n2 : Nat) : Int) - 1) (fun nx hnx => ?_) ?_
      · refine ⟨_, rfl, pn, cl, 2, _, rfl, pt8.pen, by omega, by decide, by decide, fun r3 H9 r30 r31 b9 p9 => ?_⟩
        have hw9 := b9 _ _ (pt8.pen.ne hw8 fun _ z => nomatch z) hw8
        have hta9 := b9 _ _ (pt8.pen.ne hta8 fun _ z => nomatch z) hta8
        have tab9 : TabAt H9 ts T := tab8.but b9 pt8.pen.nl
        have hmk9 := b9 _ _ (pt8.pen.ne hmk8 fun _ z => nomatch z) hmk8
        have pt9 : PT Tb H9 pn cl (i * 300 + 134) := pt8.but b9 p9
        refine ⟨rfl, _, rfl, ?_⟩
        rw [dec_int]
        by_cases c : r3 = 0
        · rw [show (r3 == 0) = true by simpa using c]
          refine iteT ?_
          refine ⟨_, rfl, _, rfl, by omega, by omega, fun KD nKD => lcF (walk_range (lo := 0)) (fun k => !decide (((k : Nat) : Int) ∈ ms)) (fun k => V.int ((k : Nat) : Int)) (by omega) nKD (fun _ _ => True.intro) ?_ ?_⟩
          · rintro k x HA HB Q' N hk eA ⟨rfl, rfl⟩ yes no
            have ek : (0 : Int) + ((k : Nat) : Int) = ((k : Nat) : Int) := by omega
            dsimp only
            rw [ek]
            refine ⟨rfl, _, rfl, _, rfl, mk, _, rfl, .inl (SqL.of (eA _ _ hmk9)), rfl, flat_ints _, _, rfl, ?_⟩
            rw [show inV (V.int ((k : Nat) : Int)) (ms.map V.int) = decide (((k : Nat) : Int) ∈ ms) from inV_ints _ _]
            cases cm : decide (((k : Nat) : Int) ∈ ms) with
            | true =>
              rw [cm] at no
              exact iteF (no rfl _ (Same.refl _))
            | false =>
              rw [cm] at yes
              exact iteT ⟨_, rfl, yes rfl _ (Same.refl _)⟩
          · intro HA eA hKD
            have e1 : (((List.range ((1 : Int) + ((n2 : Nat) : Int)).toNat).filter fun k => !decide (((k : Nat) : Int) ∈ ms)).map fun k => V.int ((k : Nat) : Int)) = (selM (fun k => !decide (((k : Nat) : Int) ∈ ms)) (1 + n2)).map V.int := by
              unfold selM
              rw [List.map_map, show ((1 : Int) + ((n2 : Nat) : Int)).toNat = 1 + n2 by omega]
              rfl
            refine hnx _ _ ⟨KD, _, rfl, pt9.same eA, eA _ _ hw9, eA _ _ hta9, tab9.same eA, hKD.trans (by rw [← e1]), selM_up _ _, fun m hm => ?_⟩
            obtain ⟨j, rfl, lj, _⟩ := (selM_mem _ _).mp hm
            omega
        · rw [show (r3 == 0) = false by simpa using c]
          exact iteF (nextOf (hnx _ _ ⟨mk, ms, rfl, pt9, hw9, hta9, tab9, hmk9, msP, fun m hm => by have := msR m hm; omega⟩))
      rintro σ9 H9 ⟨mk, ms, rfl, pt9, hw9, hta9, tab9, hmk9, msP, msR⟩
      clear hmk8 hta8 tab8 hw8 pt8
      have O : OkMa ws.length T st ms := by
        refine ⟨by omega, by omega, by omega, by omega, fun L hL => ?_, st0, by omega, fun m hm => ?_, msP⟩
        · obtain ⟨h1, h2⟩ := okT L hL
          refine ⟨by omega, fun x hx => ?_⟩
          have := h2 x hx
          omega
        · have := msR m hm
          omega
      obtain ⟨L, L10, wd⟩ := fw.wd (by omega) (by omega)
      refine ⟨_, rfl, wl, ws, L, rfl, hw9, wd, pt9.tabs, fun q H10 nq e10 tabs10 cd => ?_⟩
      have pt10 := pt9.ext e10 tabs10
      have hw10 := e10 _ _ hw9 (fun _ z => nomatch z)
      have hta10 := e10 _ _ hta9 (fun _ z => nomatch z)
      have tab10 := tab9.ext e10
      have hmk10 := e10 _ _ hmk9 (fun _ z => nomatch z)
      refine ⟨_, rfl, _, rfl, _, rfl, ta, mk, st, ts, T, ws.length, ms, rfl, hta10, tab10, hmk10, O, fun m H11 nm e11 M => ?_⟩
      refine ⟨by show 2 ≤ sizeLine; decide, fun t4 nt4 => ⟨t4, _, rfl, SqT.of upd_same, rfl, _, _, rfl, _, _, rfl, rfl, ?_⟩⟩
      have S11 : LS C CR CMa Tb H11 pn cl (i * 300 + 134) wl ta mk q m ts ⟨ws, T, st, ms⟩ := ⟨pt10.same e11, e11 _ _ hw10, e11 _ _ hta10, tab10.same e11, e11 _ _ hmk10, cd.same e11, M⟩
      have S12 := S11.same (same_new (o := .tup [.ref q, .ref m]) nt4)
      generalize upd H11 t4 (.tup [.ref q, .ref m]) = H12 at S12 ⊢
      clear pt9 pt10 hw9 hw10 hta9 hta10 tab9 tab10 hmk9 hmk10 nq e10 tabs10 cd nm e11 M S11 nt4
      dsimp only
      have FU := S12.cd.ful
      have w5 : ∀ w ∈ ws, w.length ≤ 5 := fun w hw => by
        have := fw.hi w hw
        omega
      have small : ∀ t, (bfN ⟨ws, T, st, ms⟩ t).length ≤ 240 := sm_bfN FU O (by show T.length ≤ 4; omega) (by show ws.length ≤ 6; omega) w5
      refine ⟨_, rfl, _, rfl, q, m, ws, ws.length, T, st, ms, rfl, S12.cd, S12.ma, O, fun ne => absurd rfl ne, fun _ => ⟨fun N x H13 hN N2 nx e13 M13 => ?_, fun T0 a0 H13 hT _ => ?_⟩⟩
      case refine_2 =>
        have := small T0
        omega
      have S13 := S12.same e13
      have N240 : N ≤ 240 := by
        have := small N
        omega
      have O13 : OkMa 2 (rwN ⟨ws, T, st, ms⟩ N) 0 (mkN ⟨ws, T, st, ms⟩ N) := ok_rwG (fun z : Tri => z.2.2) hN N2
      obtain ⟨bq1, bq2⟩ := built_eqN hN (by omega)
      refine ⟨_, rfl, _, rfl, _, rfl, _, rfl, wl, ta, mk, ts, ⟨ws, T, st, ms⟩, rfl, S13.hw, S13.hta, S13.tab, S13.hmk, FU, O, by show ws.length ≤ 60; omega, fun r fo g fs H14 e14 hr14 hfo tbf hg => ⟨_, _, rfl, ?_⟩⟩
      rw [bq1] at tbf
      rw [bq2] at hg
      have S14 := S13.same e14
      have M14 := M13.same e14
      clear S12 S13 e13 e14 M13 bq1 bq2
      dsimp only
      have lsn : (rwN ⟨ws, T, st, ms⟩ N).length = N := by
        show (rws _ _ _).length = N
        unfold rws
        rw [List.length_map]
        exact hN
      obtain ⟨dx, tb, rw_, mk2, kd, ts2, us, h1, h2, h3, h4, h5, h6, h7⟩ := id M14
      refine ⟨_, rfl, x, CMa, dx, _, _, rfl, h1, Tx.cl, Tx.nR, mf_rows _ _ _ _ _ _, _, rfl, x, CMa, dx, _, _, rfl, h1, Tx.cl, Tx.nA, mf_start _ _ _ _ _ _, _, rfl, x, CMa, dx, _, _, rfl, h1, Tx.cl, Tx.nM, mf_marks _ _ _ _ _ _, by show 3 ≤ sizeLine; decide, fun t1 nt1 => ?_⟩
      have e15 := same_new (o := .tup [.ref rw_, .int 0, .ref mk2]) nt1
      have ht1 : upd H14 t1 (.tup [.ref rw_, .int 0, .ref mk2]) t1 = some (.tup [.ref rw_, .int 0, .ref mk2]) := upd_same
      generalize upd H14 t1 (.tup [.ref rw_, .int 0, .ref mk2]) = H15 at e15 ht1 ⊢
      refine ⟨_, rfl, r, _, _, _, rfl, rfl, SqT.of (e15 _ _ hr14), atI_nat (j := 0) rfl, fo, fs, rwN ⟨ws, T, st, ms⟩ N, rfl, e15 _ _ hfo, tbf.same e15, fun L hL => (O13.row L hL).1, by omega, fun r2 us2 H16 e16 hr2 kr2 => ?_⟩
      have e1416 := e15.trans e16
      have ht1 := e16 _ _ ht1
      refine ⟨_, rfl, r, _, _, _, rfl, rfl, SqT.of (e1416 _ _ hr14), atI_nat (j := 1) rfl, .inl ⟨g, _, rfl, SqL.of (e1416 _ _ hg), fun g2 ng2 => ?_⟩⟩
      have e17 := same_new (o := .tup ((mkN ⟨ws, T, st, ms⟩ N).map V.int)) ng2
      have hg2 : upd H16 g2 (.tup ((mkN ⟨ws, T, st, ms⟩ N).map V.int)) g2 = some (.tup ((mkN ⟨ws, T, st, ms⟩ N).map V.int)) := upd_same
      generalize upd H16 g2 (.tup ((mkN ⟨ws, T, st, ms⟩ N).map V.int)) = H17 at e17 hg2 ⊢
      refine ⟨by show 3 ≤ sizeLine; decide, fun t2 nt2 => ?_⟩
      have e18 := same_new (o := .tup [.ref r2, .int 0, .ref g2]) nt2
      have e1418 := e1416.trans (e17.trans e18)
      refine ⟨((rwN ⟨ws, T, st, ms⟩ N).map Kr, 0, mkN ⟨ws, T, st, ms⟩ N), ((rwN ⟨ws, T, st, ms⟩ N).map Kr, 0, mkN ⟨ws, T, st, ms⟩ N), .tup (SqT.of (e18 _ _ (e17 _ _ ht1))) (.cons (dp_rows (e1418 _ _ h4) (h5.same e1418)) (.cons (dp_flat (v := .int 0) True.intro) (.cons (dp_ints (e1418 _ _ h6)) .nil))), .tup (SqT.of upd_same) (.cons (dp_rows (e18 _ _ (e17 _ _ hr2)) ((kr2.same e17).same e18)) (.cons (dp_flat (v := .int 0) True.intro) (.cons (dp_ints (e18 _ _ hg2)) .nil))), _, rfl, ?_⟩
      rw [decide_eq_true rfl]
      refine iteF (nextOf ?_)
      have S18 := S14.same e1418
      have M18 := M14.same e1418
      generalize upd H17 t2 (.tup [.ref r2, .int 0, .ref g2]) = H18 at S18 M18 ⊢
      clear S14 M14 e15 e16 e17 e18 e1416 e1418 ht1 hg2 hr2 kr2 h1 h2 h3 h4 h5 h6 h7 hfo tbf hg hr14 nt1 ng2 nt2
      dsimp only
      refine ⟨_, rfl, pn, cl, 16, _, rfl, S18.pt.pen, by omega, by decide, by decide, fun r4 H19 r40 r41 b19 p19 => ?_⟩
      obtain ⟨n4, rfl⟩ := Int.eq_ofNat_of_zero_le r40
      have S19 := S18.but b19 p19
      have M19 := M18.kd (kd_pen S18.pt.pen b19)
      clear S18 M18 b19 p19
      refine ⟨_, rfl, by omega, by omega, fun tx ntx => lcP1 (s := 1) (walk_range (lo := 0)) (fun j acc => ∃ ox : List Nat, acc = ox.map (fun o : Nat => V.int (o : Nat)) ∧ ox.length = j ∧ ∀ o ∈ ox, o < ws.length) ⟨[], rfl, rfl, fun _ z => nomatch z⟩ (fun j acc ⟨xs, e, l, _⟩ => by rw [e, List.length_map, l]; exact Nat.le_refl _) (by omega) ntx S19.pt.pen (fun _ _ => True.intro) ?_ ?_⟩
      · rintro j x' acc HA HB Q' Nn hj ⟨ox, rfl, lx, ol⟩ bA pA ⟨rfl, rfl⟩ fin _
        refine ⟨rfl, ?_⟩
        unfold tYes
        have hwA := bA _ _ (S19.pt.pen.ne S19.hw fun _ z => nomatch z) S19.hw
        refine iteT ⟨_, rfl, _, rfl, wl, _, rfl, .inl (SqL.of hwA), pn, cl, ws.length, _, by rw [List.length_map]; rfl, pA, by omega, by omega, by omega, fun r5 HC r50 r51 bC pC => ?_⟩
        obtain ⟨n5, rfl⟩ := Int.eq_ofNat_of_zero_le r50
        refine fin _ _ ⟨ox ++ [n5], by rw [List.map_append]; rfl, by rw [List.length_append, lx]; rfl, fun o ho => ?_⟩ bC pC
        rcases List.mem_append.mp ho with h | h
        · exact ol o h
        · rw [List.mem_singleton.mp h]
          omega
      rintro acc H20 ⟨ox, rfl, lx, ol⟩ b20 p20 htx
      rw [Int.toNat_natCast] at lx p20
      have S20 : LS C CR CMa Tb H20 pn cl (i * 300 + 152) wl ta mk q m ts ⟨ws, T, st, ms⟩ := S19.but b20 (p20.mono (by omega))
      have M20 := M19.kd (kd_pen S19.pt.pen b20)
      clear S19 M19 b20 p20 ntx
      refine gN ?_
      dsimp only
      have hus : ∀ u0 ∈ ox.map (fun o => ws.getD o []), u0.length ≤ 5 := fun u0 hu0 => by
        obtain ⟨o, ho, rfl⟩ := List.mem_map.mp hu0
        have lo := ol o ho
        rw [List.getD_eq_getElem?_getD, List.getElem?_eq_getElem lo]
        exact w5 _ (List.getElem_mem lo)
      have lbit : (bitsOf ws ox).length ≤ 5 * ox.length := flat_le (fun o => ws.getD o []) 5 ox fun o ho => hus _ (List.mem_map_of_mem ho)
      have ox15 : ox.length ≤ 15 := by omega
      refine ⟨⟨_, rfl⟩, _, rfl, tx, _, rfl, .inl (SqL.of htx), fun J G wk hG KD nKD => lcM wk (fun k => wV (ws.getD (ox.getD k 0) [])) (by rw [List.length_map]; omega) nKD (fun H' e => hG H' fun o z => e _ _ z) ?_ ?_⟩
      · rintro k v HA HB Nn hk eA ⟨rfl, hv⟩ fin
        rw [List.getElem?_map] at hv
        cases hf : ox[k]? with
        | none => rw [hf] at hv; cases hv
        | some o =>
          rw [hf] at hv
          cases hv
          have lo := ol o (List.mem_of_getElem? hf)
          have hwo : ws[o]? = some ws[o] := List.getElem?_eq_getElem lo
          have fin := fin _ (Same.refl _)
          rw [show ox.getD k 0 = o by rw [List.getD_eq_getElem?_getD, hf]; rfl, List.getD_eq_getElem?_getD, hwo] at fin
          exact ⟨rfl, _, rfl, _, rfl, wl, _, _, wV ws[o], rfl, rfl, SqL.of (eA _ _ S20.hw), atI_nat (by rw [List.getElem?_map]; show Option.map wV ws[o]? = _; rw [hwo]; rfl), fin⟩
      intro H21 e21 hKD
      rw [List.length_map] at hKD
      have ekd : (List.range ox.length).map (fun k => wV (ws.getD (ox.getD k 0) [])) = ((ox.map fun o => ws.getD o []).map bS).map V.str := by
        rw [List.map_map, List.map_map]
        refine List.ext_getElem (by simp) fun k h1 h2 => ?_
        simp only [List.getElem_map, List.getElem_range]
        rw [show ox.getD k 0 = ox[k]'(by simpa using h2) by rw [List.getD_eq_getElem?_getD, List.getElem?_eq_getElem (by simpa using h2)]; rfl]
        rfl
      rw [ekd] at hKD
      refine ⟨"", KD, (ox.map fun o => ws.getD o []).map bS, rfl, rfl, .inl (SqL.of hKD), ?_, ?_⟩
      · have hsum : ∀ us : List W, (∀ u0 ∈ us, u0.length ≤ 5) → ((us.map bS).map fun z : Str => z.length).sum ≤ 5 * us.length := fun us => by
          induction us with
          | nil => exact fun _ => Nat.le_refl _
          | cons u0 us ih =>
            intro h
            have h1 := h u0 List.mem_cons_self
            have h2 := ih fun v hv => h v (List.mem_cons_of_mem _ hv)
            rw [List.map_cons, List.map_cons, List.sum_cons, bS_len, List.length_cons]
            omega
        have := hsum _ hus
        rw [List.length_map] at this
        show _ + _ * 0 ≤ 16777216
        omega
      rw [join_words]
      have S21 := S20.same e21
      have M21 := M20.same e21
      have htx21 := e21 _ _ htx
      clear S20 M20 htx e21 hKD nKD
      refine ⟨_, rfl, _, rfl, _, rfl, _, rfl, _, rfl, wl, ta, mk, tx, ts, ⟨ws, T, st, ms⟩, ox, rfl, S21.hw, S21.hta, S21.tab, S21.hmk, FU, O, by show ws.length ≤ 60; omega, htx21, ol, by omega, fun PR H22 ps s0 LL e22 hPR pr du lL => ⟨_, _, rfl, ?_⟩⟩
      have S22 := S21.same e22
      have M22 := M21.same e22
      clear S21 M21 htx21 e22
      dsimp only
      rw [show (ox.map fun o => ws.getD o []).flatten = bitsOf ws ox from rfl]
      generalize bitsOf ws ox = u at lbit du ⊢
      have u75 : u.length ≤ 75 := by omega
      have lpr := Paired.length pr
      -- the comprehension over the pairs
      have pick : ∀ (pj : Int × Int → Int) (HA : Hp) (KD : Addr), HA KD = some (.lst ((List.range ps.length).map fun k => V.int (pj (LL.getD k (0, 0))))) → HA KD = some (.lst ((LL.map pj).map V.int)) := fun pj HA KD h => by
        rw [h, lpr, List.map_map]
        refine congrArg (fun l => some (HO.lst l)) (List.ext_getElem (by simp) fun k h1 h2 => ?_)
        simp only [List.getElem_map, List.getElem_range]
        rw [show LL.getD k (0, 0) = LL[k]'(by simpa using h2) by rw [List.getD_eq_getElem?_getD, List.getElem?_eq_getElem (by simpa using h2)]; rfl]
        rfl
      obtain ⟨dx2, tb2, rw2, mk3, kd2, ts3, us3, g1, _⟩ := id M22
      refine ⟨_, rfl, x, dx2, _, rfl, g1, mf_no _ _ _ _ _ _ (by decide +kernel) (by decide +kernel) (by decide +kernel) (by decide +kernel) (by decide +kernel) (by decide +kernel), _, rfl, u, rfl, by omega, fun ND H23 e23 hND => ?_⟩
      refine ⟨x, ND, 2, rwN ⟨ws, T, st, ms⟩ N, 0, mkN ⟨ws, T, st, ms⟩ N, u.map iB, rfl, M22.same e23, O13, .inl hND, fun y hy => ?_, by rw [List.length_map]; omega, fun tm H24 e24 ntm htm => ?_⟩
      · obtain ⟨b, _, rfl⟩ := List.mem_map.mp hy
        cases b <;> decide
      rw [show plc (rwN ⟨ws, T, st, ms⟩ N) (mkN ⟨ws, T, st, ms⟩ N) 0 (u.map iB) (u.map iB).length = tldN ⟨ws, T, st, ms⟩ u from plc_tlG (fN ⟨ws, T, st, ms⟩) (stN ⟨ws, T, st, ms⟩) (fun z : Tri => z.2.2) hN u] at htm
      have e2224 := e23.trans e24
      have S24 := S22.same e2224
      have M24 := M22.same e2224
      have pr24 := pr.same e2224
      have hPR24 := e2224 _ _ hPR
      clear S22 M22 pr hPR e23 e24 e2224 g1 hND ntm
      refine ⟨_, rfl, PR, _, rfl, .inl (SqL.of hPR24), fun J G wk hG KD nKD => lcM wk (fun k => V.int (LL.getD k (0, 0)).1) (by omega) nKD (fun H' e => hG H' fun o z => e _ _ z) ?_ ?_⟩
      · rintro k v HA HB Nn hk eA ⟨rfl, hv⟩ fin
        obtain ⟨p0, hp0, a0, rfl, ha0⟩ := paired_at pr24 hv
        have fin := fin _ (Same.refl _)
        rw [show LL.getD k (0, 0) = p0 by rw [List.getD_eq_getElem?_getD, hp0]; rfl] at fin
        exact ⟨rfl, _, rfl, a0, _, _, _, rfl, rfl, SqT.of (eA _ _ ha0), atI_nat (j := 0) rfl, fin⟩
      intro H25 e25 hKD
      have hKD := pick (·.1) H25 KD hKD
      rw [du.f] at hKD
      refine .inl ⟨KD, _, rfl, SqL.of hKD, fun tt ntt => ?_⟩
      have e26 := same_new (o := .tup ((tldN ⟨ws, T, st, ms⟩ u).map V.int)) ntt
      refine ⟨tldN ⟨ws, T, st, ms⟩ u, tldN ⟨ws, T, st, ms⟩ u, dp_ints (e26 _ _ (e25 _ _ htm)), dp_ints upd_same, _, rfl, ?_⟩
      rw [decide_eq_true rfl]
      refine iteF (nextOf ?_)
      have e2426 := e25.trans e26
      have S26 := S24.same e2426
      have M26 := M24.same e2426
      have pr26 := pr24.same e2426
      have hPR26 := e2426 _ _ hPR24
      generalize upd H25 tt (.tup ((tldN ⟨ws, T, st, ms⟩ u).map V.int)) = H26 at S26 M26 pr26 hPR26 ⊢
      clear S24 M24 pr24 hPR24 e25 e26 e2426 htm hKD ntt nKD
      dsimp only
      -- the other searcher
      have smallS : ∀ t, (bfS ⟨ws, T, st, ms⟩ t).length ≤ 120 := sm_bfS FU O (by show T.length ≤ 4; omega) (by show ws.length ≤ 6; omega) w5
      refine ⟨_, rfl, _, rfl, q, m, ws, ws.length, T, st, ms, rfl, S26.cd, S26.ma, O, fun ne => absurd rfl ne, fun _ => ⟨fun N2' x2 H27 hN' N2'' nx2 e27 M27 => ?_, fun T0 a0 H27 hT _ => ?_⟩⟩
      case refine_2 =>
        have := smallS T0
        omega
      have O27 : OkMa 2 (rwD ⟨ws, T, st, ms⟩ N2') 0 (mkD ⟨ws, T, st, ms⟩ N2') := ok_rwG (mkS ⟨ws, T, st, ms⟩) hN' N2''
      obtain ⟨dx4, tb4, rw4, mk4, kd4, ts4, us4, g4, _⟩ := id M27
      refine ⟨x2, dx4, _, rfl, g4, mf_no _ _ _ _ _ _ (by decide +kernel) (by decide +kernel) (by decide +kernel) (by decide +kernel) (by decide +kernel) (by decide +kernel), _, rfl, u, rfl, by omega, fun ND H28 e28 hND => ?_⟩
      refine ⟨x2, ND, 2, rwD ⟨ws, T, st, ms⟩ N2', 0, mkD ⟨ws, T, st, ms⟩ N2', u.map iB, rfl, M27.same e28, O27, .inl hND, fun y hy => ?_, by rw [List.length_map]; omega, fun tm H29 e29 ntm htm => ?_⟩
      · obtain ⟨b, _, rfl⟩ := List.mem_map.mp hy
        cases b <;> decide
      rw [show plc (rwD ⟨ws, T, st, ms⟩ N2') (mkD ⟨ws, T, st, ms⟩ N2') 0 (u.map iB) (u.map iB).length = tldS ⟨ws, T, st, ms⟩ u from plc_tlG (st, ([] : W)) (stS ⟨ws, T, st, ms⟩) (mkS ⟨ws, T, st, ms⟩) hN' u] at htm
      have e2629 := (e27.trans e28).trans e29
      have S29 := S26.same e2629
      have M29 := M26.same e2629
      have pr29 := pr26.same e2629
      have hPR29 := e2629 _ _ hPR26
      clear S26 M26 pr26 hPR26 e27 e28 e29 e2629 g4 hND ntm M27 O27
      refine ⟨_, rfl, PR, _, rfl, .inl (SqL.of hPR29), fun J G wk hG KD nKD => lcM wk (fun k => V.int (LL.getD k (0, 0)).2) (by omega) nKD (fun H' e => hG H' fun o z => e _ _ z) ?_ ?_⟩
      · rintro k v HA HB Nn hk eA ⟨rfl, hv⟩ fin
        obtain ⟨p0, hp0, a0, rfl, ha0⟩ := paired_at pr29 hv
        have fin := fin _ (Same.refl _)
        rw [show LL.getD k (0, 0) = p0 by rw [List.getD_eq_getElem?_getD, hp0]; rfl] at fin
        exact ⟨rfl, _, rfl, a0, _, _, _, rfl, rfl, SqT.of (eA _ _ ha0), atI_nat (j := 1) rfl, fin⟩
      intro H30 e30 hKD
      have hKD := pick (·.2) H30 KD hKD
      rw [du.g] at hKD
      refine .inl ⟨KD, _, rfl, SqL.of hKD, fun tt ntt => ?_⟩
      have e31 := same_new (o := .tup ((tldS ⟨ws, T, st, ms⟩ u).map V.int)) ntt
      refine ⟨tldS ⟨ws, T, st, ms⟩ u, tldS ⟨ws, T, st, ms⟩ u, dp_ints (e31 _ _ (e30 _ _ htm)), dp_ints upd_same, _, rfl, ?_⟩
      rw [decide_eq_true rfl]
      refine iteF (nextOf ?_)
      have e2931 := e30.trans e31
      have S31 := S29.same e2931
      have M31 := M29.same e2931
      have pr31 := pr29.same e2931
      have hPR31 := e2931 _ _ hPR29
      generalize upd H30 tt (.tup ((tldS ⟨ws, T, st, ms⟩ u).map V.int)) = H31 at S31 M31 pr31 hPR31 ⊢
      clear S29 M29 pr29 hPR29 e30 e31 e2931 htm hKD ntt nKD
      dsimp only
      refine ⟨_, rfl, _, rfl, bS u, rfl, by rw [bS_len]; exact Nat.le_of_lt (small10 (by omega)), _, _, rfl, rfl, pn, cl, u.length + 1, _, by rw [bS_len]; rfl, S31.pt.pen, by omega, by omega, by omega, fun r6 H32 r60 r61 b32 p32 => ?_⟩
      obtain ⟨k6, rfl⟩ := Int.eq_ofNat_of_zero_le r60
      have S32 := S31.but b32 p32
      have M32 := M31.kd (kd_pen S31.pt.pen b32)
      have pr32 : PrAt H32 ps LL := pr31.kd (kd_pen S31.pt.pen b32)
      have hPR32 := b32 _ _ (S31.pt.pen.ne hPR31 fun _ z => nomatch z) hPR31
      clear S31 M31 pr31 hPR31 b32 p32
      have lk6 : k6 ≤ u.length := by omega
      refine gN ?_
      dsimp only
      obtain ⟨dx5, tb5, rw5, mk5, kd5, ts5, us5, g5, _⟩ := id M32
      refine ⟨_, rfl, x, dx5, _, rfl, g5, mf_no _ _ _ _ _ _ (by decide +kernel) (by decide +kernel) (by decide +kernel) (by decide +kernel) (by decide +kernel) (by decide +kernel), _, rfl, _, rfl, _, rfl, bS u, rfl, by rw [bS_len]; exact Nat.le_of_lt (small10 (by omega)), ?_⟩
      rw [cut_w u k6 lk6]
      have lt6 : (u.take k6).length = k6 := by rw [List.length_take]; omega
      refine ⟨u.take k6, rfl, by omega, fun ND H33 e33 hND => ?_⟩
      refine ⟨x, ND, 2, rwN ⟨ws, T, st, ms⟩ N, 0, mkN ⟨ws, T, st, ms⟩ N, (u.take k6).map iB, rfl, M32.same e33, O13, .inl hND, fun y hy => ?_, by rw [List.length_map]; omega, fun tm H34 e34 ntm htm => ?_⟩
      · obtain ⟨b, _, rfl⟩ := List.mem_map.mp hy
        cases b <;> decide
      rw [show plc (rwN ⟨ws, T, st, ms⟩ N) (mkN ⟨ws, T, st, ms⟩ N) 0 ((u.take k6).map iB) ((u.take k6).map iB).length = tldN ⟨ws, T, st, ms⟩ (u.take k6) from plc_tlG (fN ⟨ws, T, st, ms⟩) (stN ⟨ws, T, st, ms⟩) (fun z : Tri => z.2.2) hN (u.take k6)] at htm
      have e3234 := e33.trans e34
      have S34 := S32.same e3234
      have pr34 := pr32.same e3234
      have hPR34 := e3234 _ _ hPR32
      clear S32 M32 pr32 hPR32 e33 e34 e3234 g5 hND ntm
      have edue : tldN ⟨ws, T, st, ms⟩ (u.take k6) = (LL.map (·.1)).filter fun i => decide (i < (k6 : Int)) := by
        rw [du.f]
        exact tlG_take _ u k6 lk6
      refine ⟨_, rfl, PR, _, rfl, .inl (SqL.of hPR34), fun J G wk hG KD nKD => lcF wk (fun k => decide ((LL.getD k (0, 0)).1 < (k6 : Int))) (fun k => V.int (LL.getD k (0, 0)).1) (by omega) nKD (fun H' e => hG H' fun o z => e _ _ z) ?_ ?_⟩
      · rintro k v HA HB Q' Nn hk eA ⟨rfl, hv⟩ yes no
        obtain ⟨p0, hp0, a0, rfl, ha0⟩ := paired_at pr34 hv
        rw [show LL.getD k (0, 0) = p0 by rw [List.getD_eq_getElem?_getD, hp0]; rfl] at yes no
        refine ⟨rfl, _, rfl, a0, _, _, _, rfl, rfl, SqT.of (eA _ _ ha0), atI_nat (j := 0) rfl, _, rfl, _, _, rfl, rfl, _, rfl, ?_⟩
        by_cases c : p0.1 < (k6 : Int)
        · rw [decide_eq_true c] at yes ⊢
          exact iteT ⟨_, rfl, a0, _, _, _, rfl, rfl, SqT.of (eA _ _ ha0), atI_nat (j := 0) rfl, yes rfl _ (Same.refl _)⟩
        · rw [decide_eq_false c] at no ⊢
          exact iteF (no rfl _ (Same.refl _))
      intro H35 e35 hKD
      have hKD : H35 KD = some (.lst ((tldN ⟨ws, T, st, ms⟩ (u.take k6)).map V.int)) := by
        rw [hKD, edue, lpr]
        have e1 : LL.map (·.1) = (List.range LL.length).map fun k => (LL.getD k (0, 0)).1 := by
          refine List.ext_getElem (by simp) fun k h1 h2 => ?_
          simp only [List.getElem_map, List.getElem_range]
          rw [show LL.getD k (0, 0) = LL[k]'(by simpa using h1) by rw [List.getD_eq_getElem?_getD, List.getElem?_eq_getElem (by simpa using h1)]; rfl]
        rw [e1, List.filter_map, List.map_map]
        rfl
      refine .inl ⟨KD, _, rfl, SqL.of hKD, fun tt ntt => ?_⟩
      have e36 := same_new (o := .tup ((tldN ⟨ws, T, st, ms⟩ (u.take k6)).map V.int)) ntt
      refine ⟨tldN ⟨ws, T, st, ms⟩ (u.take k6), tldN ⟨ws, T, st, ms⟩ (u.take k6), dp_ints (e36 _ _ (e35 _ _ htm)), dp_ints upd_same, _, rfl, ?_⟩
      rw [decide_eq_true rfl]
      refine iteF ?_
      have S36 := S34.same (e35.trans e36)
      exact ⟨_, _, _, _, _, _, _, _, _, _, _, _, _, _, rfl, ⟨S36.pt.pen.mono (by omega), S36.pt.tabs⟩, fun _ => ⟨wl, q, ws, rfl, rfl, S36.hw, S36.cd, by omega⟩⟩
    · rintro σ H2 ⟨o2, o3, o4, o5, o6, o7, o9, o10, o11, o12, o13, o15, o16, o19, rfl, pt2, kk⟩
      obtain ⟨wl, q, ws, rfl, rfl, hw, cd, lws⟩ := kk (by decide)
      have tabs2 := pt2.tabs
      clear pt2 kk pt1 pen1
      dsimp only
      have lw : (ws.map wV).length = ws.length := List.length_map _
      have tw := cd.two
      refine ⟨_, rfl, wl, _, rfl, .inl (SqL.of hw), _, _, rfl, rfl, by show 0 ≤ sizeLine; decide, fun lu0 nlu0 => ⟨by show 2 ≤ sizeLine; decide, fun lt0 nlt0 => ⟨by show 1 ≤ sizeLine; decide, fun rl nrl => ⟨by show 0 ≤ sizeLine; decide, fun mp nmp => ?_⟩⟩⟩⟩
      have f1 := same_new (o := .lst []) nlu0
      have k1 : upd H2 lu0 (.lst []) lu0 = some (.lst []) := upd_same
      generalize upd H2 lu0 (.lst []) = G1 at f1 k1 nlt0 nrl nmp ⊢
      have f2 := same_new (o := .tup [.int 0, .ref lu0]) nlt0
      have k2 : upd G1 lt0 (.tup [.int 0, .ref lu0]) lt0 = some (.tup [.int 0, .ref lu0]) := upd_same
      have k1 := f2 _ _ k1
      generalize upd G1 lt0 (.tup [.int 0, .ref lu0]) = G2 at f2 k1 k2 nrl nmp ⊢
      have f3 := same_new (o := .lst [.ref lt0]) nrl
      have k3 : upd G2 rl (.lst [.ref lt0]) rl = some (.lst [.ref lt0]) := upd_same
      have k1 := f3 _ _ k1
      have k2 := f3 _ _ k2
      generalize upd G2 rl (.lst [.ref lt0]) = G3 at f3 k1 k2 k3 nmp ⊢
      have f4 := same_new (o := .lst []) nmp
      have k4 : upd G3 mp (.lst []) mp = some (.lst (([] : List Int).map V.int)) := upd_same
      have k1 := f4 _ _ k1
      have k2 := f4 _ _ k2
      have k3 := f4 _ _ k3
      generalize upd G3 mp (.lst []) = G4 at f4 k1 k2 k3 k4 ⊢
      have f14 := (f1.trans f2).trans (f3.trans f4)
      have cd4 := cd.same f14
      have tabs4 := tabs2.ext f14
      clear f1 f2 f3 f4 f14 cd tabs2 nlu0 nlt0 nrl nmp
      have Oo : OkMa (ws.length + 1) [List.replicate (ws.length + 1) (0 : Int)] 0 [] := by
        refine ⟨by omega, by omega, by show 1 ≤ 1; decide, by show 1 ≤ 2000; decide, fun L hL => ?_, by decide, by show (0 : Int) ≤ ((1 : Nat) : Int) - 1; decide, (fun m' hm => nomatch hm), .nil⟩
        rw [List.mem_singleton.mp hL]
        refine ⟨List.length_replicate, fun y hy => ?_⟩
        rw [List.eq_of_mem_replicate hy]
        show (0 : Int) ≤ 0 ∧ (0 : Int) ≤ ((1 : Nat) : Int) - 1
        decide
      have rows : RowsAt G4 (ws.length + 1) (([List.replicate (ws.length + 1) (0 : Int)].length : Nat) : Int) [.ref lt0] [List.replicate (ws.length + 1) (0 : Int)] := by
        refine .cons ⟨0, [], ⟨lt0, lu0, [], rfl, k2, .inl k1, .nil⟩, okM_nil, by decide, ?_, rfl⟩ .nil
        show (0 : Int) ≤ ((1 : Nat) : Int) - 1
        decide
      rw [lw]
      refine mk_ok2 (n := ws.length + 1) (ms := []) (.inl k3) rows (.inl k4) Oo fun mo H25 nmo e25 Mo => ?_
      have cd5 := cd4.same e25
      have tabs5 := tabs4.ext e25
      clear k1 k2 k3 k4 rows nmo e25 cd4 tabs4
      refine gN ?_
      dsimp only
      refine ⟨tabs5, fun H26 e26 tab26 => ?_⟩
      refine ⟨_, rfl, _, rfl, q, mo, ws, ws.length + 1, _, 0, [], rfl, cd5.ext e26, Mo.ext e26, Oo, fun _ H27 e27 => .inl ⟨rfl, fun t nt => ⟨by show 3 ≤ sizeLine; decide, fun t2 nt2 => ?_⟩⟩, fun e => absurd e (by omega)⟩
      exact rSmE_of nt nt2 (fl_sii (by decide +kernel) _ _) fun H28 e28 => qq H28
end
end K61
set_option Elab.async false
set_option linter.all false
set_option maxRecDepth 100001
set_option maxHeartbeats 3999999
namespace K61
open PySem L2
/-! ### what the top leaves -/
/-- an own exception class as the rules want it -/
def oexB (K : PySem.W.Frag) (C : Addr) : Bool := (match K.lookup C with
  | some ⟨.type "type", _, .cls cd, sl⟩ => (match sl.toList, cd.mro with
    | [_, _, _, _, some (.builtin nw), _], .ref D :: bm => decide (D = C) && (decide (nw = "ValueError.__new__") && (!cd.hasDel && (cd.hasDict && PySem.HandSPX.refsVE bm)))
    | _, _ => false)
  | _ => false) && (He.eqO (PySem.W.findIn K (.ref C) "__setattr__") (some (some (.builtin "object.__setattr__"))) && (decide (PySem.W.subIn K (.ref C) (.type "BaseException") = some true) && (decide (PySem.W.typeIn K (.ref C) = some (.type "type")) && PySem.W.keepIn K (.ref C))))
theorem oexB_ok {K : PySem.W.Frag} {C : Addr} (h : oexB K C = true) : OexC K C := by
  obtain ⟨h1, h⟩ := He.ba h
  obtain ⟨h2, h⟩ := He.ba h
  obtain ⟨h3, h⟩ := He.ba h
  obtain ⟨h4, h5⟩ := He.ba h
  refine ⟨?_, He.eqO_ok h2, of_decide_eq_true h3, of_decide_eq_true h4, h5⟩
  split at h1
  · rename_i dd cd sl ho
    split at h1
    · rename_i x0 x1 x2 x3 nw x5 D bm hs hm
      obtain ⟨g1, g⟩ := He.ba h1
      obtain ⟨g2, g⟩ := He.ba g
      obtain ⟨g3, g⟩ := He.ba g
      obtain ⟨g4, g5⟩ := He.ba g
      have e1 := of_decide_eq_true g1
      have e2 := of_decide_eq_true g2
      subst e1 e2
      obtain ⟨nm, bs, mro, ns, qn, hd, sn, sub, ab, col, del⟩ := cd
      dsimp only at hm g3 g4
      subst hm g4
      have e3 : del = false := by
        cases del with
        | false => rfl
        | true => cases g3
      subst e3
      have hsl : sl = #[x0, x1, x2, x3, some (.builtin "ValueError.__new__"), x5] := by
        obtain ⟨l⟩ := sl
        have h' : l = _ := hs
        rw [h']
      subst hsl
      exact ⟨nm, qn, ns, bs, bm, sn, sub, ab, col, dd, x0, x1, x2, x3, x5, ho, g5⟩
    · cases h1
  · cases h1
def fa0 : List He.Fa := [.glo "is_whole", .glo "is_between", .glo "copied", .glo "first_wrong_bit", .glo "first_one", .glo "check_words", .glo "canonical_words", .glo "is_list", .glo "is_tuple_of", .glo "is_row", .glo "put_stretch", .glo "stretch_row", .glo "told_row", .glo "target_of", .glo "first_wrong_sign", .glo "machine_of", .glo "stretched", .glo "laid_out", .glo "soonest_search", .glo "node_or_sign", .glo "standing_behind", .glo "check_code_machine", .glo "searcher_of", .glo "bit_search", .glo "_law_pen_of", .glo "_law_draw", .glo "_law_words_of", .glo "_law_code", .glo "_law_by_word", .glo "_law_read"]
def fa1 : List He.Fa := [.glo "_law_table", .glo "_law_marks", .glo "_law_machine", .glo "_law_row", .glo "_law_rows_kept", .glo "_law_numbers", .glo "_law_is_sure", .glo "_law_soonest", .glo "_law_due", .glo "_law_refused", .glo "law", .glo "TooMany", .glo "BadBits", .glo "BadLength", .glo "NotFull", .glo "Begins", .glo "OtherSigns", .glo "Tree", .glo "Code", .glo "Machine", .glo "Standings", .glo "Soonest", .free "isinstance", .free "int", .free "bool", .free "tuple", .free "list", .free "dict", .free "len", .free "enumerate"]
def fa2 : List He.Fa := [.free "range", .free "abs", .free "max", .free "min", .free "str", .free "all", .free "any", .free "sum", .free "zip", .free "sorted", .int "MOST_SIGNS_codes" 2000, .int "MOST_LENGTH" 1999, .int "MOST_SIGNS_machines" 2000, .int "MOST_STATES_machines" 2000, .int "MOST_STATES_standings" 2000, .cls "Tree", .mkr "Tree", .cls "Code", .mkr "Code", .cls "Machine", .mkr "Machine", .cls "Standings", .mkr "Standings", .cls "Soonest", .mkr "Soonest", .noat "TooMany" "what", .noat "TooMany" "many", .noat "TooMany" "most", .noat "BadBits" "index", .noat "BadLength" "index"]
def fa3 : List He.Fa := [.noat "Begins" "index", .noat "Begins" "other", .noat "Tree" "names", .noat "Tree" "zeros", .noat "Tree" "ones", .noat "Tree" "numbers", .noat "Code" "longest", .noat "Code" "lengths", .noat "Code" "words", .noat "Code" "size", .noat "Code" "tree", .noat "Machine" "signs", .noat "Machine" "table", .noat "Machine" "rows", .noat "Machine" "start", .noat "Machine" "marks", .noat "Machine" "kinds", .noat "Standings" "code", .noat "Standings" "machine", .noat "Standings" "first", .noat "Soonest" "code", .noat "Soonest" "machine", .noat "Soonest" "first", .noat "Soonest" "known", .meth "TooMany" "__init__", .meth "BadBits" "__init__", .meth "BadLength" "__init__", .meth "NotFull" "__init__", .meth "Begins" "__init__", .meth "OtherSigns" "__init__"]
def fa4 : List He.Fa := [.meth "Tree" "__init__", .meth "Tree" "behind", .meth "Code" "__init__", .meth "Machine" "__init__", .meth "Machine" "marked_in", .meth "Machine" "_check_row", .meth "Standings" "__init__", .meth "Standings" "state_behind", .meth "Standings" "is_marked", .meth "Tree" "nodes_over", .meth "Soonest" "__init__", .meth "Soonest" "is_sure", .meth "Soonest" "state_behind", .meth "Soonest" "is_marked", .exm "OtherSigns" "OtherSigns" true, .exm "TooMany" "TooMany" true, .exm "TooMany" "OtherSigns" false, .str "BITS" "01"]
def faA : List He.Fa := fa0 ++ fa1 ++ fa2 ++ fa3 ++ fa4
def dd0 : He.DefD := ⟨("is_whole", none), "is_whole", "is_whole", defArgs sWhole, defBody sWhole, defScope sWhole, [], []⟩
def dd1 : He.DefD := ⟨("is_between", none), "is_between", "is_between", defArgs sBetween, defBody sBetween, defScope sBetween, [], []⟩
def dd2 : He.DefD := ⟨("copied", none), "copied", "copied", defArgs sCopied, defBody sCopied, defScope sCopied, [], []⟩
def dd3 : He.DefD := ⟨("first_wrong_bit", none), "first_wrong_bit", "first_wrong_bit", defArgs sFwb, defBody sFwb, defScope sFwb, [], []⟩
def dd4 : He.DefD := ⟨("first_one", none), "first_one", "first_one", defArgs sFo, defBody sFo, defScope sFo, [], []⟩
def dd5 : He.DefD := ⟨("check_words", none), "check_words", "check_words", defArgs sChW, defBody sChW, defScope sChW, [], []⟩
def dd6 : He.DefD := ⟨("canonical_words", none), "canonical_words", "canonical_words", defArgs sCan, defBody sCan, defScope sCan, [], []⟩
def dd7 : He.DefD := ⟨("is_list", none), "is_list", "is_list", defArgs sList, defBody sList, defScope sList, [], []⟩
def dd8 : He.DefD := ⟨("is_tuple_of", none), "is_tuple_of", "is_tuple_of", defArgs sTupOf, defBody sTupOf, defScope sTupOf, [], []⟩
def dd9 : He.DefD := ⟨("is_row", none), "is_row", "is_row", defArgs sIsRow, defBody sIsRow, defScope sIsRow, [], []⟩
def dd10 : He.DefD := ⟨("put_stretch", none), "put_stretch", "put_stretch", defArgs sPut, defBody sPut, defScope sPut, [], []⟩
def dd11 : He.DefD := ⟨("stretch_row", none), "stretch_row", "stretch_row", defArgs sStr, defBody sStr, defScope sStr, [], []⟩
def dd12 : He.DefD := ⟨("told_row", none), "told_row", "told_row", defArgs sTold, defBody sTold, defScope sTold, [], []⟩
def dd13 : He.DefD := ⟨("target_of", none), "target_of", "target_of", defArgs sTarget, defBody sTarget, defScope sTarget, [], []⟩
def dd14 : He.DefD := ⟨("first_wrong_sign", none), "first_wrong_sign", "first_wrong_sign", defArgs sWrongS, defBody sWrongS, defScope sWrongS, [], []⟩
def dd15 : He.DefD := ⟨("machine_of", none), "machine_of", "machine_of", defArgs sMof, defBody sMof, defScope sMof, [], []⟩
def dd16 : He.DefD := ⟨("stretched", none), "stretched", "stretched", defArgs sStd, defBody sStd, defScope sStd, [], []⟩
def dd17 : He.DefD := ⟨("laid_out", none), "laid_out", "laid_out", defArgs sLo, defBody sLo, defScope sLo, [], []⟩
def dd18 : He.DefD := ⟨("soonest_search", none), "soonest_search", "soonest_search", defArgs sSs, defBody sSs, defScope sSs, [], []⟩
def dd19 : He.DefD := ⟨("node_or_sign", none), "node_or_sign", "node_or_sign", defArgs sNoS, defBody sNoS, defScope sNoS, [], []⟩
def dd20 : He.DefD := ⟨("standing_behind", none), "standing_behind", "standing_behind", defArgs sStB, defBody sStB, defScope sStB, [], []⟩
def dd21 : He.DefD := ⟨("check_code_machine", none), "check_code_machine", "check_code_machine", defArgs sCCM, defBody sCCM, defScope sCCM, [], []⟩
def dd22 : He.DefD := ⟨("searcher_of", none), "searcher_of", "searcher_of", defArgs sSe, defBody sSe, defScope sSe, [], []⟩
def dd23 : He.DefD := ⟨("bit_search", none), "bit_search", "bit_search", defArgs sBSe, defBody sBSe, defScope sBSe, [], []⟩
def dd24 : He.DefD := ⟨("_law_pen_of", none), "_law_pen_of", "_law_pen_of", defArgs sPen, defBody sPen, defScope sPen, [], []⟩
def dd25 : He.DefD := ⟨("_law_draw", none), "_law_draw", "_law_draw", defArgs sDraw, defBody sDraw, defScope sDraw, [], []⟩
def dd26 : He.DefD := ⟨("_law_words_of", none), "_law_words_of", "_law_words_of", defArgs sWOf, defBody sWOf, defScope sWOf, [], []⟩
def dd27 : He.DefD := ⟨("_law_code", none), "_law_code", "_law_code", defArgs sLC, defBody sLC, defScope sLC, [], []⟩
def dd28 : He.DefD := ⟨("_law_by_word", none), "_law_by_word", "_law_by_word", defArgs sBW, defBody sBW, defScope sBW, [], []⟩
def dd29 : He.DefD := ⟨("_law_read", none), "_law_read", "_law_read", defArgs sLR, defBody sLR, defScope sLR, [], []⟩
def dd30 : He.DefD := ⟨("_law_table", none), "_law_table", "_law_table", defArgs sLT, defBody sLT, defScope sLT, [], []⟩
def dd31 : He.DefD := ⟨("_law_marks", none), "_law_marks", "_law_marks", defArgs sLM, defBody sLM, defScope sLM, [], []⟩
def dd32 : He.DefD := ⟨("_law_machine", none), "_law_machine", "_law_machine", defArgs sLMa, defBody sLMa, defScope sLMa, [], []⟩
def dd33 : He.DefD := ⟨("_law_row", none), "_law_row", "_law_row", defArgs sLRo, defBody sLRo, defScope sLRo, [], []⟩
def dd34 : He.DefD := ⟨("_law_rows_kept", none), "_law_rows_kept", "_law_rows_kept", defArgs sLRK, defBody sLRK, defScope sLRK, [], []⟩
def dd35 : He.DefD := ⟨("_law_numbers", none), "_law_numbers", "_law_numbers", defArgs sLN, defBody sLN, defScope sLN, [], []⟩
def dd36 : He.DefD := ⟨("_law_is_sure", none), "_law_is_sure", "_law_is_sure", defArgs sLis, defBody sLis, defScope sLis, [], []⟩
def dd37 : He.DefD := ⟨("_law_soonest", none), "_law_soonest", "_law_soonest", defArgs sLso, defBody sLso, defScope sLso, [], []⟩
def dd38 : He.DefD := ⟨("_law_due", none), "_law_due", "_law_due", defArgs sDu, defBody sDu, defScope sDu, [], []⟩
def dd39 : He.DefD := ⟨("_law_refused", none), "_law_refused", "_law_refused", defArgs sRd, defBody sRd, defScope sRd, [], []⟩
def dd40 : He.DefD := ⟨("law", none), "law", "law", defArgs sLaw, defBody sLaw, defScope sLaw, [], []⟩
def dd41 : He.DefD := ⟨("TooMany", some "__init__"), "__init__", "TooMany.__init__", defArgs sTMany, defBody sTMany, defScope sTMany, [], []⟩
def dd42 : He.DefD := ⟨("BadBits", some "__init__"), "__init__", "BadBits.__init__", defArgs sBBits, defBody sBBits, defScope sBBits, [], []⟩
def dd43 : He.DefD := ⟨("BadLength", some "__init__"), "__init__", "BadLength.__init__", defArgs sBLen, defBody sBLen, defScope sBLen, [], []⟩
def dd44 : He.DefD := ⟨("NotFull", some "__init__"), "__init__", "NotFull.__init__", defArgs sNFull, defBody sNFull, defScope sNFull, [], []⟩
def dd45 : He.DefD := ⟨("Begins", some "__init__"), "__init__", "Begins.__init__", defArgs sBegins, defBody sBegins, defScope sBegins, [], []⟩
def dd46 : He.DefD := ⟨("OtherSigns", some "__init__"), "__init__", "OtherSigns.__init__", defArgs sOSigns, defBody sOSigns, defScope sOSigns, [], []⟩
def dd47 : He.DefD := ⟨("Tree", some "__init__"), "__init__", "Tree.__init__", defArgs sTrI, defBody sTrI, defScope sTrI, [], []⟩
def dd48 : He.DefD := ⟨("Tree", some "behind"), "behind", "Tree.behind", defArgs sTrB, defBody sTrB, defScope sTrB, [], []⟩
def dd49 : He.DefD := ⟨("Code", some "__init__"), "__init__", "Code.__init__", defArgs sCoI, defBody sCoI, defScope sCoI, [.non], []⟩
def dd50 : He.DefD := ⟨("Machine", some "__init__"), "__init__", "Machine.__init__", defArgs sInit, defBody sInit, defScope sInit, [], []⟩
def dd51 : He.DefD := ⟨("Machine", some "marked_in"), "marked_in", "Machine.marked_in", defArgs sMkd, defBody sMkd, defScope sMkd, [], []⟩
def dd52 : He.DefD := ⟨("Machine", some "_check_row"), "_check_row", "Machine._check_row", defArgs sCkR, defBody sCkR, defScope sCkR, [], []⟩
def dd53 : He.DefD := ⟨("Standings", some "__init__"), "__init__", "Standings.__init__", defArgs sSI, defBody sSI, defScope sSI, [], []⟩
def dd54 : He.DefD := ⟨("Standings", some "state_behind"), "state_behind", "Standings.state_behind", defArgs sSSb, defBody sSSb, defScope sSSb, [], []⟩
def dd55 : He.DefD := ⟨("Standings", some "is_marked"), "is_marked", "Standings.is_marked", defArgs sSIm, defBody sSIm, defScope sSIm, [], []⟩
def dd56 : He.DefD := ⟨("Tree", some "nodes_over"), "nodes_over", "Tree.nodes_over", defArgs sNO, defBody sNO, defScope sNO, [], []⟩
def dd57 : He.DefD := ⟨("Soonest", some "__init__"), "__init__", "Soonest.__init__", defArgs sNI, defBody sNI, defScope sNI, [], []⟩
def dd58 : He.DefD := ⟨("Soonest", some "is_sure"), "is_sure", "Soonest.is_sure", defArgs sSur, defBody sSur, defScope sSur, [], []⟩
def dd59 : He.DefD := ⟨("Soonest", some "state_behind"), "state_behind", "Soonest.state_behind", defArgs sNB, defBody sNB, defScope sNB, [], []⟩
def dd60 : He.DefD := ⟨("Soonest", some "is_marked"), "is_marked", "Soonest.is_marked", defArgs sNm, defBody sNm, defScope sNm, [], []⟩
def fnA : List He.DefD := [dd0, dd1, dd2, dd3, dd4, dd5, dd6, dd7, dd8, dd9, dd10, dd11, dd12, dd13, dd14, dd15, dd16, dd17, dd18, dd19, dd20, dd21, dd22, dd23, dd24, dd25, dd26, dd27, dd28, dd29, dd30, dd31, dd32, dd33, dd34, dd35, dd36, dd37, dd38, dd39, dd40, dd41, dd42, dd43, dd44, dd45, dd46, dd47, dd48, dd49, dd50, dd51, dd52, dd53, dd54, dd55, dd56, dd57, dd58, dd59, dd60]
abbrev treD : Str × Option Str := ("Tree", some "__init__")
abbrev canD : Str × Option Str := ("canonical_words", none)
abbrev lawD : Str × Option Str := ("law", none)
/-- what else is asked of K, and of the tables ts -/
def exA (K : PySem.W.Frag) (ts : List Addr) : Bool := ((oexB K (He.ga K "TooMany") && xfB K (He.ga K "TooMany")) && ((oexB K (He.ga K "BadBits") && xfB K (He.ga K "BadBits")) && ((oexB K (He.ga K "BadLength") && xfB K (He.ga K "BadLength")) && ((oexB K (He.ga K "NotFull") && xfB K (He.ga K "NotFull")) && ((oexB K (He.ga K "Begins") && xfB K (He.ga K "Begins")) && ((oexB K (He.ga K "OtherSigns") && xfB K (He.ga K "OtherSigns")) && (decide ((He.cT K treD).2 ∈ ts) && (decide ((He.cT K canD).2 ∈ ts) && (decide ((He.cT K lawD).2 ∈ ts) && (decide ((He.cT K treD).2 ≠ (He.cT K canD).2) && (decide ((He.cT K treD).2 ≠ (He.cT K lawD).2) && (decide ((He.cT K canD).2 ≠ (He.cT K lawD).2) && (PySem.W.codeHdIn K (He.cT K treD).1 (He.cT K treD).2 && (PySem.W.codeHdIn K (He.cT K canD).1 (He.cT K canD).2 && (PySem.W.codeHdIn K (He.cT K lawD).1 (He.cT K lawD).2 && ((K.lookup (He.cT K treD).2).isNone && ((K.lookup (He.cT K canD).2).isNone && (K.lookup (He.cT K lawD).2).isNone)))))))))))))))))
theorem fun_ofD {K : PySem.W.Frag} {x qual : Str} {st : Stmt} {f : Addr} {fd : FuncData} (F : FunD K x qual (defArgs st) (defBody st) (defScope st) [] [] f fd) : Fun K x qual st f fd := by
  obtain ⟨oc, od, dV, kV, doc, pm, an, cdv, ct, osl, e, lk, hcd, dv, _⟩ := F.ex
  rcases dv with ⟨_, rfl⟩ | ⟨h, _⟩
  · exact ⟨⟨oc, od, kV, doc, pm, an, cdv, ct, osl, e, lk, hcd⟩, F.kp⟩
  · exact absurd rfl h
theorem funW_ofD {K : PySem.W.Frag} {x qual : Str} {st : Stmt} {f : Addr} {fd : FuncData} {dvs : List V} (F : FunD K x qual (defArgs st) (defBody st) (defScope st) dvs [] f fd) : FunW K x qual st f fd := by
  obtain ⟨oc, od, dV, kV, doc, pm, an, cdv, ct, osl, e, lk, hcd, _, _⟩ := F.ex
  exact ⟨⟨oc, od, dV, kV, doc, pm, an, cdv, ct, osl, e, lk, hcd⟩⟩
theorem funL_of {K : PySem.W.Frag} {base : Heap} {mg : Str → Option Value} {x q : Str} {kq : Str × Option Str} {st : Stmt} {fd : FuncData} (F : Fun K x q st (He.fAd K kq) fd) (T : LamX.TabB base mg (He.cT K kq).1 (He.cT K kq).2) :
    FunL K base mg x q st (He.fAd K kq) (He.cT K kq).1 (He.cT K kq).2 fd := by
  obtain ⟨oc, od, kV, doc, pm, an, cdv, ct, osl, e, lk, hcd⟩ := F.ex
  obtain ⟨c, rfl⟩ := He.codeIn_ref hcd
  have e2 : (He.cT K kq).1 = c := by
    refine He.codeOf_eq lk ?_
    rw [e] <;> rfl
  exact ⟨⟨oc, od, kV, doc, pm, an, ct, osl, by rw [e2]; exact e, lk, by rw [e2]; exact hcd⟩, T⟩
theorem isNone_of {α : Type} {o : Option α} (h : o.isNone = true) : o = none := by
  cases o with
  | none => rfl
  | some _ => cases h
abbrev TbK (K : PySem.W.Frag) : List (Addr × Str) := [((He.cT K treD).2, (("Tree.__init__.<locals>.<lambda>" : String) : Str)), ((He.cT K canD).2, (("canonical_words.<locals>.<lambda>" : String) : Str)), ((He.cT K lawD).2, (("law.<locals>.<lambda>" : String) : Str))]
/-- the law's promise, of what the top leaves -/
theorem at_law {l : PySem.W.OpenLaw} {w : World} {K : PySem.W.Frag} {h : Heap} {mg : Str → Option Value} {fl : Addr} {ts : List Addr} (KX : K.In h) (G : h.Ns mainGlobals mg) (hfl : mg ("law" : Str) = some (.ref fl)) (c : He.SaysD faA fnA K) (ex : exA K ts = true) (hT : ∀ P ∈ ts, h.get? P = some { cls := .none, data := .fields #[] }) :
    LamX.LawAtS l w K CX0 13 63 "_law_script" mg fl h := by
  obtain ⟨x0, ex⟩ := He.ba ex
  obtain ⟨x1, ex⟩ := He.ba ex
  obtain ⟨x2, ex⟩ := He.ba ex
  obtain ⟨x3, ex⟩ := He.ba ex
  obtain ⟨x4, ex⟩ := He.ba ex
  obtain ⟨x5, ex⟩ := He.ba ex
  obtain ⟨x6, ex⟩ := He.ba ex
  obtain ⟨x7, ex⟩ := He.ba ex
  obtain ⟨x8, ex⟩ := He.ba ex
  obtain ⟨x9, ex⟩ := He.ba ex
  obtain ⟨x10, ex⟩ := He.ba ex
  obtain ⟨x11, ex⟩ := He.ba ex
  obtain ⟨x12, ex⟩ := He.ba ex
  obtain ⟨x13, ex⟩ := He.ba ex
  obtain ⟨x14, ex⟩ := He.ba ex
  obtain ⟨x15, ex⟩ := He.ba ex
  obtain ⟨x16, ex⟩ := He.ba ex
  have x17 := ex
  obtain ⟨o0, f0⟩ := He.ba x0
  obtain ⟨o1, f1⟩ := He.ba x1
  obtain ⟨o2, f2⟩ := He.ba x2
  obtain ⟨o3, f3⟩ := He.ba x3
  obtain ⟨o4, f4⟩ := He.ba x4
  obtain ⟨o5, f5⟩ := He.ba x5
  have B : Bi mg := ⟨He.free_ok KX G (c.fact 52 (f := .free "isinstance") rfl), He.free_ok KX G (c.fact 53 (f := .free "int") rfl), He.free_ok KX G (c.fact 54 (f := .free "bool") rfl), He.free_ok KX G (c.fact 55 (f := .free "tuple") rfl), He.free_ok KX G (c.fact 56 (f := .free "list") rfl), He.free_ok KX G (c.fact 57 (f := .free "dict") rfl), He.free_ok KX G (c.fact 58 (f := .free "len") rfl), He.free_ok KX G (c.fact 59 (f := .free "enumerate") rfl), He.free_ok KX G (c.fact 60 (f := .free "range") rfl), He.free_ok KX G (c.fact 61 (f := .free "abs") rfl), He.free_ok KX G (c.fact 62 (f := .free "max") rfl), He.free_ok KX G (c.fact 63 (f := .free "min") rfl)⟩
  have Bz : Bs mg := ⟨He.free_ok KX G (c.fact 64 (f := .free "str") rfl), He.free_ok KX G (c.fact 65 (f := .free "all") rfl), He.free_ok KX G (c.fact 66 (f := .free "any") rfl), He.free_ok KX G (c.fact 67 (f := .free "sum") rfl), He.free_ok KX G (c.fact 68 (f := .free "zip") rfl), He.free_ok KX G (c.fact 69 (f := .free "sorted") rfl)⟩
  obtain ⟨u0, g0⟩ := He.int_ok KX G (c.fact 70 (f := .int "MOST_SIGNS_codes" 2000) rfl)
  obtain ⟨u1, g1⟩ := He.int_ok KX G (c.fact 71 (f := .int "MOST_LENGTH" 1999) rfl)
  obtain ⟨u2, g2⟩ := He.int_ok KX G (c.fact 72 (f := .int "MOST_SIGNS_machines" 2000) rfl)
  obtain ⟨u3, g3⟩ := He.int_ok KX G (c.fact 73 (f := .int "MOST_STATES_machines" 2000) rfl)
  obtain ⟨u4, g4⟩ := He.int_ok KX G (c.fact 74 (f := .int "MOST_STATES_standings" 2000) rfl)
  obtain ⟨d0, D0⟩ := c.def_ 0 (d := dd0) rfl
  have F0 : Fun K "is_whole" "is_whole" sWhole (He.ga K "is_whole") d0 := fun_ofD D0
  have b0 : Binds K d0 ["value"] [] := F0.binds fun _ _ _ _ _ _ us hl => match us, hl with | [_], _ => rfl
  obtain ⟨d1, D1⟩ := c.def_ 1 (d := dd1) rfl
  have F1 : Fun K "is_between" "is_between" sBetween (He.ga K "is_between") d1 := fun_ofD D1
  have b1 : Binds K d1 ["value", "low", "high"] [] := F1.binds fun _ _ _ _ _ _ us hl => match us, hl with | [_, _, _], _ => rfl
  obtain ⟨d2, D2⟩ := c.def_ 2 (d := dd2) rfl
  have F2 : Fun K "copied" "copied" sCopied (He.ga K "copied") d2 := fun_ofD D2
  have b2 : Binds K d2 ["value"] [] := F2.binds fun _ _ _ _ _ _ us hl => match us, hl with | [_], _ => rfl
  obtain ⟨d3, D3⟩ := c.def_ 3 (d := dd3) rfl
  have F3 : Fun K "first_wrong_bit" "first_wrong_bit" sFwb (He.ga K "first_wrong_bit") d3 := fun_ofD D3
  have b3 : Binds K d3 ["value"] [] := F3.binds fun _ _ _ _ _ _ us hl => match us, hl with | [_], _ => rfl
  obtain ⟨d4, D4⟩ := c.def_ 4 (d := dd4) rfl
  have F4 : Fun K "first_one" "first_one" sFo (He.ga K "first_one") d4 := fun_ofD D4
  have b4 : Binds K d4 ["words", "order", "depth", "first", "behind"] [] := F4.binds fun _ _ _ _ _ _ us hl => match us, hl with | [_, _, _, _, _], _ => rfl
  obtain ⟨d5, D5⟩ := c.def_ 5 (d := dd5) rfl
  have F5 : Fun K "check_words" "check_words" sChW (He.ga K "check_words") d5 := fun_ofD D5
  have b5 : Binds K d5 ["lengths", "words"] [] := F5.binds fun _ _ _ _ _ _ us hl => match us, hl with | [_, _], _ => rfl
  obtain ⟨d6, D6⟩ := c.def_ 6 (d := dd6) rfl
  have F6 : Fun K "canonical_words" "canonical_words" sCan (He.ga K "canonical_words") d6 := fun_ofD D6
  have b6 : Binds K d6 ["lengths"] [] := F6.binds fun _ _ _ _ _ _ us hl => match us, hl with | [_], _ => rfl
  obtain ⟨d7, D7⟩ := c.def_ 7 (d := dd7) rfl
  have F7 : Fun K "is_list" "is_list" sList (He.ga K "is_list") d7 := fun_ofD D7
  have b7 : Binds K d7 ["value"] [] := F7.binds fun _ _ _ _ _ _ us hl => match us, hl with | [_], _ => rfl
  obtain ⟨d8, D8⟩ := c.def_ 8 (d := dd8) rfl
  have F8 : Fun K "is_tuple_of" "is_tuple_of" sTupOf (He.ga K "is_tuple_of") d8 := fun_ofD D8
  have b8 : Binds K d8 ["value", "size"] [] := F8.binds fun _ _ _ _ _ _ us hl => match us, hl with | [_, _], _ => rfl
  obtain ⟨d9, D9⟩ := c.def_ 9 (d := dd9) rfl
  have F9 : Fun K "is_row" "is_row" sIsRow (He.ga K "is_row") d9 := fun_ofD D9
  have b9 : Binds K d9 ["row", "signs", "states"] [] := F9.binds fun _ _ _ _ _ _ us hl => match us, hl with | [_, _, _], _ => rfl
  obtain ⟨d10, D10⟩ := c.def_ 10 (d := dd10) rfl
  have F10 : Fun K "put_stretch" "put_stretch" sPut (He.ga K "put_stretch") d10 := fun_ofD D10
  have b10 : Binds K d10 ["told", "first", "state"] [] := F10.binds fun _ _ _ _ _ _ us hl => match us, hl with | [_, _, _], _ => rfl
  obtain ⟨d11, D11⟩ := c.def_ 11 (d := dd11) rfl
  have F11 : Fun K "stretch_row" "stretch_row" sStr (He.ga K "stretch_row") d11 := fun_ofD D11
  have b11 : Binds K d11 ["away", "moves", "signs"] [] := F11.binds fun _ _ _ _ _ _ us hl => match us, hl with | [_, _, _], _ => rfl
  obtain ⟨d12, D12⟩ := c.def_ 12 (d := dd12) rfl
  have F12 : Fun K "told_row" "told_row" sTold (He.ga K "told_row") d12 := fun_ofD D12
  have b12 : Binds K d12 ["row", "signs"] [] := F12.binds fun _ _ _ _ _ _ us hl => match us, hl with | [_, _], _ => rfl
  obtain ⟨d13, D13⟩ := c.def_ 13 (d := dd13) rfl
  have F13 : Fun K "target_of" "target_of" sTarget (He.ga K "target_of") d13 := fun_ofD D13
  have b13 : Binds K d13 ["row", "sign"] [] := F13.binds fun _ _ _ _ _ _ us hl => match us, hl with | [_, _], _ => rfl
  obtain ⟨d14, D14⟩ := c.def_ 14 (d := dd14) rfl
  have F14 : Fun K "first_wrong_sign" "first_wrong_sign" sWrongS (He.ga K "first_wrong_sign") d14 := fun_ofD D14
  have b14 : Binds K d14 ["row", "signs"] [] := F14.binds fun _ _ _ _ _ _ us hl => match us, hl with | [_, _], _ => rfl
  obtain ⟨d15, D15⟩ := c.def_ 15 (d := dd15) rfl
  have F15 : Fun K "machine_of" "machine_of" sMof (He.ga K "machine_of") d15 := fun_ofD D15
  have b15 : Binds K d15 ["signs", "table", "start", "kinds"] [] := F15.binds fun _ _ _ _ _ _ us hl => match us, hl with | [_, _, _, _], _ => rfl
  obtain ⟨d16, D16⟩ := c.def_ 16 (d := dd16) rfl
  have F16 : Fun K "stretched" "stretched" sStd (He.ga K "stretched") d16 := fun_ofD D16
  have b16 : Binds K d16 ["targets"] [] := F16.binds fun _ _ _ _ _ _ us hl => match us, hl with | [_], _ => rfl
  obtain ⟨d17, D17⟩ := c.def_ 17 (d := dd17) rfl
  have F17 : Fun K "laid_out" "laid_out" sLo (He.ga K "laid_out") d17 := fun_ofD D17
  have b17 : Binds K d17 ["row", "signs"] [] := F17.binds fun _ _ _ _ _ _ us hl => match us, hl with | [_, _], _ => rfl
  obtain ⟨d18, D18⟩ := c.def_ 18 (d := dd18) rfl
  have F18 : Fun K "soonest_search" "soonest_search" sSs (He.ga K "soonest_search") d18 := fun_ofD D18
  have b18 : Binds K d18 ["code", "machine"] [] := F18.binds fun _ _ _ _ _ _ us hl => match us, hl with | [_, _], _ => rfl
  obtain ⟨d19, D19⟩ := c.def_ 19 (d := dd19) rfl
  have F19 : Fun K "node_or_sign" "node_or_sign" sNoS (He.ga K "node_or_sign") d19 := fun_ofD D19
  have b19 : Binds K d19 ["code", "node", "bit"] [] := F19.binds fun _ _ _ _ _ _ us hl => match us, hl with | [_, _, _], _ => rfl
  obtain ⟨d20, D20⟩ := c.def_ 20 (d := dd20) rfl
  have F20 : Fun K "standing_behind" "standing_behind" sStB (He.ga K "standing_behind") d20 := fun_ofD D20
  have b20 : Binds K d20 ["code", "machine", "standing", "bit"] [] := F20.binds fun _ _ _ _ _ _ us hl => match us, hl with | [_, _, _, _], _ => rfl
  obtain ⟨d21, D21⟩ := c.def_ 21 (d := dd21) rfl
  have F21 : Fun K "check_code_machine" "check_code_machine" sCCM (He.ga K "check_code_machine") d21 := fun_ofD D21
  have b21 : Binds K d21 ["code", "machine"] [] := F21.binds fun _ _ _ _ _ _ us hl => match us, hl with | [_, _], _ => rfl
  obtain ⟨d22, D22⟩ := c.def_ 22 (d := dd22) rfl
  have F22 : Fun K "searcher_of" "searcher_of" sSe (He.ga K "searcher_of") d22 := fun_ofD D22
  have b22 : Binds K d22 ["states"] [] := F22.binds fun _ _ _ _ _ _ us hl => match us, hl with | [_], _ => rfl
  obtain ⟨d23, D23⟩ := c.def_ 23 (d := dd23) rfl
  have F23 : Fun K "bit_search" "bit_search" sBSe (He.ga K "bit_search") d23 := fun_ofD D23
  have b23 : Binds K d23 ["code", "machine"] [] := F23.binds fun _ _ _ _ _ _ us hl => match us, hl with | [_, _], _ => rfl
  obtain ⟨d24, D24⟩ := c.def_ 24 (d := dd24) rfl
  have F24 : Fun K "_law_pen_of" "_law_pen_of" sPen (He.ga K "_law_pen_of") d24 := fun_ofD D24
  have b24 : Binds K d24 ["_law_script"] [] := F24.binds fun _ _ _ _ _ _ us hl => match us, hl with | [_], _ => rfl
  obtain ⟨d25, D25⟩ := c.def_ 25 (d := dd25) rfl
  have F25 : Fun K "_law_draw" "_law_draw" sDraw (He.ga K "_law_draw") d25 := fun_ofD D25
  have b25 : Binds K d25 ["_law_pen", "_law_many"] [] := F25.binds fun _ _ _ _ _ _ us hl => match us, hl with | [_, _], _ => rfl
  obtain ⟨d26, D26⟩ := c.def_ 26 (d := dd26) rfl
  have F26 : Fun K "_law_words_of" "_law_words_of" sWOf (He.ga K "_law_words_of") d26 := fun_ofD D26
  have b26 : Binds K d26 ["_law_pen", "_law_many"] [] := F26.binds fun _ _ _ _ _ _ us hl => match us, hl with | [_, _], _ => rfl
  obtain ⟨d27, D27⟩ := c.def_ 27 (d := dd27) rfl
  have F27 : Fun K "_law_code" "_law_code" sLC (He.ga K "_law_code") d27 := fun_ofD D27
  have b27 : Binds K d27 ["_law_words"] [] := F27.binds fun _ _ _ _ _ _ us hl => match us, hl with | [_], _ => rfl
  obtain ⟨d28, D28⟩ := c.def_ 28 (d := dd28) rfl
  have F28 : Fun K "_law_by_word" "_law_by_word" sBW (He.ga K "_law_by_word") d28 := fun_ofD D28
  have b28 : Binds K d28 ["_law_words"] [] := F28.binds fun _ _ _ _ _ _ us hl => match us, hl with | [_], _ => rfl
  obtain ⟨d29, D29⟩ := c.def_ 29 (d := dd29) rfl
  have F29 : Fun K "_law_read" "_law_read" sLR (He.ga K "_law_read") d29 := fun_ofD D29
  have b29 : Binds K d29 ["_law_by_word_here", "_law_node", "_law_bit"] [] := F29.binds fun _ _ _ _ _ _ us hl => match us, hl with | [_, _, _], _ => rfl
  obtain ⟨d30, D30⟩ := c.def_ 30 (d := dd30) rfl
  have F30 : Fun K "_law_table" "_law_table" sLT (He.ga K "_law_table") d30 := fun_ofD D30
  have b30 : Binds K d30 ["_law_pen", "_law_signs", "_law_states"] [] := F30.binds fun _ _ _ _ _ _ us hl => match us, hl with | [_, _, _], _ => rfl
  obtain ⟨d31, D31⟩ := c.def_ 31 (d := dd31) rfl
  have F31 : Fun K "_law_marks" "_law_marks" sLM (He.ga K "_law_marks") d31 := fun_ofD D31
  have b31 : Binds K d31 ["_law_pen", "_law_states"] [] := F31.binds fun _ _ _ _ _ _ us hl => match us, hl with | [_, _], _ => rfl
  obtain ⟨d32, D32⟩ := c.def_ 32 (d := dd32) rfl
  have F32 : Fun K "_law_machine" "_law_machine" sLMa (He.ga K "_law_machine") d32 := fun_ofD D32
  have b32 : Binds K d32 ["_law_table_here", "_law_start", "_law_marks_here"] [] := F32.binds fun _ _ _ _ _ _ us hl => match us, hl with | [_, _, _], _ => rfl
  obtain ⟨d33, D33⟩ := c.def_ 33 (d := dd33) rfl
  have F33 : Fun K "_law_row" "_law_row" sLRo (He.ga K "_law_row") d33 := fun_ofD D33
  have b33 : Binds K d33 ["_law_low", "_law_high"] [] := F33.binds fun _ _ _ _ _ _ us hl => match us, hl with | [_, _], _ => rfl
  obtain ⟨d34, D34⟩ := c.def_ 34 (d := dd34) rfl
  have F34 : Fun K "_law_rows_kept" "_law_rows_kept" sLRK (He.ga K "_law_rows_kept") d34 := fun_ofD D34
  have b34 : Binds K d34 ["_law_table_here"] [] := F34.binds fun _ _ _ _ _ _ us hl => match us, hl with | [_], _ => rfl
  obtain ⟨d35, D35⟩ := c.def_ 35 (d := dd35) rfl
  have F35 : Fun K "_law_numbers" "_law_numbers" sLN (He.ga K "_law_numbers") d35 := fun_ofD D35
  have b35 : Binds K d35 ["_law_bits"] [] := F35.binds fun _ _ _ _ _ _ us hl => match us, hl with | [_], _ => rfl
  obtain ⟨d36, D36⟩ := c.def_ 36 (d := dd36) rfl
  have F36 : Fun K "_law_is_sure" "_law_is_sure" sLis (He.ga K "_law_is_sure") d36 := fun_ofD D36
  have b36 : Binds K d36 ["_law_words", "_law_table_here", "_law_marks_here", "_law_state", "_law_node"] [] := F36.binds fun _ _ _ _ _ _ us hl => match us, hl with | [_, _, _, _, _], _ => rfl
  obtain ⟨d37, D37⟩ := c.def_ 37 (d := dd37) rfl
  have F37 : Fun K "_law_soonest" "_law_soonest" sLso (He.ga K "_law_soonest") d37 := fun_ofD D37
  have b37 : Binds K d37 ["_law_words", "_law_table_here", "_law_start", "_law_marks_here"] [] := F37.binds fun _ _ _ _ _ _ us hl => match us, hl with | [_, _, _, _], _ => rfl
  obtain ⟨d38, D38⟩ := c.def_ 38 (d := dd38) rfl
  have F38 : Fun K "_law_due" "_law_due" sDu (He.ga K "_law_due") d38 := fun_ofD D38
  have b38 : Binds K d38 ["_law_words", "_law_table_here", "_law_start", "_law_marks_here", "_law_text"] [] := F38.binds fun _ _ _ _ _ _ us hl => match us, hl with | [_, _, _, _, _], _ => rfl
  obtain ⟨d39, D39⟩ := c.def_ 39 (d := dd39) rfl
  have F39 : Fun K "_law_refused" "_law_refused" sRd (He.ga K "_law_refused") d39 := fun_ofD D39
  have b39 : Binds K d39 ["_law_call"] [] := F39.binds fun _ _ _ _ _ _ us hl => match us, hl with | [_], _ => rfl
  obtain ⟨d40, D40⟩ := c.def_ 40 (d := dd40) rfl
  have F40 : Fun K "law" "law" sLaw (He.ga K "law") d40 := fun_ofD D40
  have b40 : Binds K d40 ["_law_script"] [] := F40.binds fun _ _ _ _ _ _ us hl => match us, hl with | [_], _ => rfl
  obtain ⟨d41, D41⟩ := c.def_ 41 (d := dd41) rfl
  have F41 : Fun K "__init__" "TooMany.__init__" sTMany (He.ma K (He.ga K "TooMany") "__init__") d41 := fun_ofD D41
  have b41 : Binds K d41 ["self", "what", "many", "most"] [] := F41.binds fun _ _ _ _ _ _ us hl => match us, hl with | [_, _, _, _], _ => rfl
  have m41 : Meth K (He.ga K "TooMany") "__init__" (He.ma K (He.ga K "TooMany") "__init__") := He.meth_ok (c.fact 114 (f := .meth "TooMany" "__init__") rfl)
  obtain ⟨d42, D42⟩ := c.def_ 42 (d := dd42) rfl
  have F42 : Fun K "__init__" "BadBits.__init__" sBBits (He.ma K (He.ga K "BadBits") "__init__") d42 := fun_ofD D42
  have b42 : Binds K d42 ["self", "index"] [] := F42.binds fun _ _ _ _ _ _ us hl => match us, hl with | [_, _], _ => rfl
  have m42 : Meth K (He.ga K "BadBits") "__init__" (He.ma K (He.ga K "BadBits") "__init__") := He.meth_ok (c.fact 115 (f := .meth "BadBits" "__init__") rfl)
  obtain ⟨d43, D43⟩ := c.def_ 43 (d := dd43) rfl
  have F43 : Fun K "__init__" "BadLength.__init__" sBLen (He.ma K (He.ga K "BadLength") "__init__") d43 := fun_ofD D43
  have b43 : Binds K d43 ["self", "index"] [] := F43.binds fun _ _ _ _ _ _ us hl => match us, hl with | [_, _], _ => rfl
  have m43 : Meth K (He.ga K "BadLength") "__init__" (He.ma K (He.ga K "BadLength") "__init__") := He.meth_ok (c.fact 116 (f := .meth "BadLength" "__init__") rfl)
  obtain ⟨d44, D44⟩ := c.def_ 44 (d := dd44) rfl
  have F44 : Fun K "__init__" "NotFull.__init__" sNFull (He.ma K (He.ga K "NotFull") "__init__") d44 := fun_ofD D44
  have b44 : Binds K d44 ["self"] [] := F44.binds fun _ _ _ _ _ _ us hl => match us, hl with | [_], _ => rfl
  have m44 : Meth K (He.ga K "NotFull") "__init__" (He.ma K (He.ga K "NotFull") "__init__") := He.meth_ok (c.fact 117 (f := .meth "NotFull" "__init__") rfl)
  obtain ⟨d45, D45⟩ := c.def_ 45 (d := dd45) rfl
  have F45 : Fun K "__init__" "Begins.__init__" sBegins (He.ma K (He.ga K "Begins") "__init__") d45 := fun_ofD D45
  have b45 : Binds K d45 ["self", "index", "other"] [] := F45.binds fun _ _ _ _ _ _ us hl => match us, hl with | [_, _, _], _ => rfl
  have m45 : Meth K (He.ga K "Begins") "__init__" (He.ma K (He.ga K "Begins") "__init__") := He.meth_ok (c.fact 118 (f := .meth "Begins" "__init__") rfl)
  obtain ⟨d46, D46⟩ := c.def_ 46 (d := dd46) rfl
  have F46 : Fun K "__init__" "OtherSigns.__init__" sOSigns (He.ma K (He.ga K "OtherSigns") "__init__") d46 := fun_ofD D46
  have b46 : Binds K d46 ["self"] [] := F46.binds fun _ _ _ _ _ _ us hl => match us, hl with | [_], _ => rfl
  have m46 : Meth K (He.ga K "OtherSigns") "__init__" (He.ma K (He.ga K "OtherSigns") "__init__") := He.meth_ok (c.fact 119 (f := .meth "OtherSigns" "__init__") rfl)
  obtain ⟨d47, D47⟩ := c.def_ 47 (d := dd47) rfl
  have F47 : Fun K "__init__" "Tree.__init__" sTrI (He.ma K (He.ga K "Tree") "__init__") d47 := fun_ofD D47
  have b47 : Binds K d47 ["self", "words"] [] := F47.binds fun _ _ _ _ _ _ us hl => match us, hl with | [_, _], _ => rfl
  have m47 : Meth K (He.ga K "Tree") "__init__" (He.ma K (He.ga K "Tree") "__init__") := He.meth_ok (c.fact 120 (f := .meth "Tree" "__init__") rfl)
  obtain ⟨d48, D48⟩ := c.def_ 48 (d := dd48) rfl
  have F48 : Fun K "behind" "Tree.behind" sTrB (He.ma K (He.ga K "Tree") "behind") d48 := fun_ofD D48
  have b48 : Binds K d48 ["self", "node", "bit"] [] := F48.binds fun _ _ _ _ _ _ us hl => match us, hl with | [_, _, _], _ => rfl
  have m48 : Meth K (He.ga K "Tree") "behind" (He.ma K (He.ga K "Tree") "behind") := He.meth_ok (c.fact 121 (f := .meth "Tree" "behind") rfl)
  obtain ⟨d49, D49⟩ := c.def_ 49 (d := dd49) rfl
  have F49 : FunW K "__init__" "Code.__init__" sCoI (He.ma K (He.ga K "Code") "__init__") d49 := funW_ofD D49
  have b49 : Binds K d49 ["self", "lengths", "words"] [] := by
    obtain ⟨ds, vd, bd⟩ := FunD.binds1 (ps := ["self", "lengths", "words"]) D49 3 1 (by show [V.non] ≠ []; simp) rfl fun T kV doc pm an cdv ct us its hu hi => match us, hu, its, hi with | [_, _, _], _, [_], _ => ⟨_, rfl, rfl⟩
    have vd : Vals [] ds := vd
    cases vd
    exact bd
  have bn49 : Binds K d49 ["self", "lengths", "words"] [.none] := by
    obtain ⟨ds, vd, bd⟩ := FunD.binds1 (ps := ["self", "lengths", "words"]) D49 2 0 (by show [V.non] ≠ []; simp) rfl fun T kV doc pm an cdv ct us its hu hi => match us, hu, its, hi with | [_, _], _, [_], _ => ⟨_, rfl, rfl⟩
    have vd : Vals [.non] ds := vd
    obtain ⟨u, rfl, ru⟩ := vals1 vd
    cases ru
    exact bd
  have m49 : Meth K (He.ga K "Code") "__init__" (He.ma K (He.ga K "Code") "__init__") := He.meth_ok (c.fact 122 (f := .meth "Code" "__init__") rfl)
  obtain ⟨d50, D50⟩ := c.def_ 50 (d := dd50) rfl
  have F50 : Fun K "__init__" "Machine.__init__" sInit (He.ma K (He.ga K "Machine") "__init__") d50 := fun_ofD D50
  have b50 : Binds K d50 ["self", "signs", "rows", "start", "marks"] [] := F50.binds fun _ _ _ _ _ _ us hl => match us, hl with | [_, _, _, _, _], _ => rfl
  have m50 : Meth K (He.ga K "Machine") "__init__" (He.ma K (He.ga K "Machine") "__init__") := He.meth_ok (c.fact 123 (f := .meth "Machine" "__init__") rfl)
  obtain ⟨d51, D51⟩ := c.def_ 51 (d := dd51) rfl
  have F51 : Fun K "marked_in" "Machine.marked_in" sMkd (He.ma K (He.ga K "Machine") "marked_in") d51 := fun_ofD D51
  have b51 : Binds K d51 ["self", "row"] [] := F51.binds fun _ _ _ _ _ _ us hl => match us, hl with | [_, _], _ => rfl
  have m51 : Meth K (He.ga K "Machine") "marked_in" (He.ma K (He.ga K "Machine") "marked_in") := He.meth_ok (c.fact 124 (f := .meth "Machine" "marked_in") rfl)
  obtain ⟨d52, D52⟩ := c.def_ 52 (d := dd52) rfl
  have F52 : Fun K "_check_row" "Machine._check_row" sCkR (He.ma K (He.ga K "Machine") "_check_row") d52 := fun_ofD D52
  have b52 : Binds K d52 ["self", "row"] [] := F52.binds fun _ _ _ _ _ _ us hl => match us, hl with | [_, _], _ => rfl
  have m52 : Meth K (He.ga K "Machine") "_check_row" (He.ma K (He.ga K "Machine") "_check_row") := He.meth_ok (c.fact 125 (f := .meth "Machine" "_check_row") rfl)
  obtain ⟨d53, D53⟩ := c.def_ 53 (d := dd53) rfl
  have F53 : Fun K "__init__" "Standings.__init__" sSI (He.ma K (He.ga K "Standings") "__init__") d53 := fun_ofD D53
  have b53 : Binds K d53 ["self", "code", "machine"] [] := F53.binds fun _ _ _ _ _ _ us hl => match us, hl with | [_, _, _], _ => rfl
  have m53 : Meth K (He.ga K "Standings") "__init__" (He.ma K (He.ga K "Standings") "__init__") := He.meth_ok (c.fact 126 (f := .meth "Standings" "__init__") rfl)
  obtain ⟨d54, D54⟩ := c.def_ 54 (d := dd54) rfl
  have F54 : Fun K "state_behind" "Standings.state_behind" sSSb (He.ma K (He.ga K "Standings") "state_behind") d54 := fun_ofD D54
  have b54 : Binds K d54 ["self", "standing", "bit"] [] := F54.binds fun _ _ _ _ _ _ us hl => match us, hl with | [_, _, _], _ => rfl
  have m54 : Meth K (He.ga K "Standings") "state_behind" (He.ma K (He.ga K "Standings") "state_behind") := He.meth_ok (c.fact 127 (f := .meth "Standings" "state_behind") rfl)
  obtain ⟨d55, D55⟩ := c.def_ 55 (d := dd55) rfl
  have F55 : Fun K "is_marked" "Standings.is_marked" sSIm (He.ma K (He.ga K "Standings") "is_marked") d55 := fun_ofD D55
  have b55 : Binds K d55 ["self", "standing"] [] := F55.binds fun _ _ _ _ _ _ us hl => match us, hl with | [_, _], _ => rfl
  have m55 : Meth K (He.ga K "Standings") "is_marked" (He.ma K (He.ga K "Standings") "is_marked") := He.meth_ok (c.fact 128 (f := .meth "Standings" "is_marked") rfl)
  obtain ⟨d56, D56⟩ := c.def_ 56 (d := dd56) rfl
  have F56 : Fun K "nodes_over" "Tree.nodes_over" sNO (He.ma K (He.ga K "Tree") "nodes_over") d56 := fun_ofD D56
  have b56 : Binds K d56 ["self", "good", "every"] [] := F56.binds fun _ _ _ _ _ _ us hl => match us, hl with | [_, _, _], _ => rfl
  have m56 : Meth K (He.ga K "Tree") "nodes_over" (He.ma K (He.ga K "Tree") "nodes_over") := He.meth_ok (c.fact 129 (f := .meth "Tree" "nodes_over") rfl)
  obtain ⟨d57, D57⟩ := c.def_ 57 (d := dd57) rfl
  have F57 : Fun K "__init__" "Soonest.__init__" sNI (He.ma K (He.ga K "Soonest") "__init__") d57 := fun_ofD D57
  have b57 : Binds K d57 ["self", "code", "machine"] [] := F57.binds fun _ _ _ _ _ _ us hl => match us, hl with | [_, _, _], _ => rfl
  have m57 : Meth K (He.ga K "Soonest") "__init__" (He.ma K (He.ga K "Soonest") "__init__") := He.meth_ok (c.fact 130 (f := .meth "Soonest" "__init__") rfl)
  obtain ⟨d58, D58⟩ := c.def_ 58 (d := dd58) rfl
  have F58 : Fun K "is_sure" "Soonest.is_sure" sSur (He.ma K (He.ga K "Soonest") "is_sure") d58 := fun_ofD D58
  have b58 : Binds K d58 ["self", "state", "node"] [] := F58.binds fun _ _ _ _ _ _ us hl => match us, hl with | [_, _, _], _ => rfl
  have m58 : Meth K (He.ga K "Soonest") "is_sure" (He.ma K (He.ga K "Soonest") "is_sure") := He.meth_ok (c.fact 131 (f := .meth "Soonest" "is_sure") rfl)
  obtain ⟨d59, D59⟩ := c.def_ 59 (d := dd59) rfl
  have F59 : Fun K "state_behind" "Soonest.state_behind" sNB (He.ma K (He.ga K "Soonest") "state_behind") d59 := fun_ofD D59
  have b59 : Binds K d59 ["self", "told", "bit"] [] := F59.binds fun _ _ _ _ _ _ us hl => match us, hl with | [_, _, _], _ => rfl
  have m59 : Meth K (He.ga K "Soonest") "state_behind" (He.ma K (He.ga K "Soonest") "state_behind") := He.meth_ok (c.fact 132 (f := .meth "Soonest" "state_behind") rfl)
  obtain ⟨d60, D60⟩ := c.def_ 60 (d := dd60) rfl
  have F60 : Fun K "is_marked" "Soonest.is_marked" sNm (He.ma K (He.ga K "Soonest") "is_marked") d60 := fun_ofD D60
  have b60 : Binds K d60 ["self", "told"] [] := F60.binds fun _ _ _ _ _ _ us hl => match us, hl with | [_, _], _ => rfl
  have m60 : Meth K (He.ga K "Soonest") "is_marked" (He.ma K (He.ga K "Soonest") "is_marked") := He.meth_ok (c.fact 133 (f := .meth "Soonest" "is_marked") rfl)
  have q_TooMany_what : PySem.W.findIn K (.ref (He.ga K "TooMany")) "what" = some none := He.noat_ok (c.fact 85 (f := .noat "TooMany" "what") rfl)
  have q_TooMany_many : PySem.W.findIn K (.ref (He.ga K "TooMany")) "many" = some none := He.noat_ok (c.fact 86 (f := .noat "TooMany" "many") rfl)
  have q_TooMany_most : PySem.W.findIn K (.ref (He.ga K "TooMany")) "most" = some none := He.noat_ok (c.fact 87 (f := .noat "TooMany" "most") rfl)
  have q_BadBits_index : PySem.W.findIn K (.ref (He.ga K "BadBits")) "index" = some none := He.noat_ok (c.fact 88 (f := .noat "BadBits" "index") rfl)
  have q_BadLength_index : PySem.W.findIn K (.ref (He.ga K "BadLength")) "index" = some none := He.noat_ok (c.fact 89 (f := .noat "BadLength" "index") rfl)
  have q_Begins_index : PySem.W.findIn K (.ref (He.ga K "Begins")) "index" = some none := He.noat_ok (c.fact 90 (f := .noat "Begins" "index") rfl)
  have q_Begins_other : PySem.W.findIn K (.ref (He.ga K "Begins")) "other" = some none := He.noat_ok (c.fact 91 (f := .noat "Begins" "other") rfl)
  have q_Tree_names : PySem.W.findIn K (.ref (He.ga K "Tree")) "names" = some none := He.noat_ok (c.fact 92 (f := .noat "Tree" "names") rfl)
  have q_Tree_zeros : PySem.W.findIn K (.ref (He.ga K "Tree")) "zeros" = some none := He.noat_ok (c.fact 93 (f := .noat "Tree" "zeros") rfl)
  have q_Tree_ones : PySem.W.findIn K (.ref (He.ga K "Tree")) "ones" = some none := He.noat_ok (c.fact 94 (f := .noat "Tree" "ones") rfl)
  have q_Tree_numbers : PySem.W.findIn K (.ref (He.ga K "Tree")) "numbers" = some none := He.noat_ok (c.fact 95 (f := .noat "Tree" "numbers") rfl)
  have q_Code_longest : PySem.W.findIn K (.ref (He.ga K "Code")) "longest" = some none := He.noat_ok (c.fact 96 (f := .noat "Code" "longest") rfl)
  have q_Code_lengths : PySem.W.findIn K (.ref (He.ga K "Code")) "lengths" = some none := He.noat_ok (c.fact 97 (f := .noat "Code" "lengths") rfl)
  have q_Code_words : PySem.W.findIn K (.ref (He.ga K "Code")) "words" = some none := He.noat_ok (c.fact 98 (f := .noat "Code" "words") rfl)
  have q_Code_size : PySem.W.findIn K (.ref (He.ga K "Code")) "size" = some none := He.noat_ok (c.fact 99 (f := .noat "Code" "size") rfl)
  have q_Code_tree : PySem.W.findIn K (.ref (He.ga K "Code")) "tree" = some none := He.noat_ok (c.fact 100 (f := .noat "Code" "tree") rfl)
  have q_Machine_signs : PySem.W.findIn K (.ref (He.ga K "Machine")) "signs" = some none := He.noat_ok (c.fact 101 (f := .noat "Machine" "signs") rfl)
  have q_Machine_table : PySem.W.findIn K (.ref (He.ga K "Machine")) "table" = some none := He.noat_ok (c.fact 102 (f := .noat "Machine" "table") rfl)
  have q_Machine_rows : PySem.W.findIn K (.ref (He.ga K "Machine")) "rows" = some none := He.noat_ok (c.fact 103 (f := .noat "Machine" "rows") rfl)
  have q_Machine_start : PySem.W.findIn K (.ref (He.ga K "Machine")) "start" = some none := He.noat_ok (c.fact 104 (f := .noat "Machine" "start") rfl)
  have q_Machine_marks : PySem.W.findIn K (.ref (He.ga K "Machine")) "marks" = some none := He.noat_ok (c.fact 105 (f := .noat "Machine" "marks") rfl)
  have q_Machine_kinds : PySem.W.findIn K (.ref (He.ga K "Machine")) "kinds" = some none := He.noat_ok (c.fact 106 (f := .noat "Machine" "kinds") rfl)
  have q_Standings_code : PySem.W.findIn K (.ref (He.ga K "Standings")) "code" = some none := He.noat_ok (c.fact 107 (f := .noat "Standings" "code") rfl)
  have q_Standings_machine : PySem.W.findIn K (.ref (He.ga K "Standings")) "machine" = some none := He.noat_ok (c.fact 108 (f := .noat "Standings" "machine") rfl)
  have q_Standings_first : PySem.W.findIn K (.ref (He.ga K "Standings")) "first" = some none := He.noat_ok (c.fact 109 (f := .noat "Standings" "first") rfl)
  have q_Soonest_code : PySem.W.findIn K (.ref (He.ga K "Soonest")) "code" = some none := He.noat_ok (c.fact 110 (f := .noat "Soonest" "code") rfl)
  have q_Soonest_machine : PySem.W.findIn K (.ref (He.ga K "Soonest")) "machine" = some none := He.noat_ok (c.fact 111 (f := .noat "Soonest" "machine") rfl)
  have q_Soonest_first : PySem.W.findIn K (.ref (He.ga K "Soonest")) "first" = some none := He.noat_ok (c.fact 112 (f := .noat "Soonest" "first") rfl)
  have q_Soonest_known : PySem.W.findIn K (.ref (He.ga K "Soonest")) "known" = some none := He.noat_ok (c.fact 113 (f := .noat "Soonest" "known") rfl)
  have MK_Tree : Mk K (He.ga K "Tree") (He.ma K (He.ga K "Tree") "__init__") := He.mkr_ok (c.fact 76 (f := .mkr "Tree") rfl)
  have MK_Code : Mk K (He.ga K "Code") (He.ma K (He.ga K "Code") "__init__") := He.mkr_ok (c.fact 78 (f := .mkr "Code") rfl)
  have MK_Machine : Mk K (He.ga K "Machine") (He.ma K (He.ga K "Machine") "__init__") := He.mkr_ok (c.fact 80 (f := .mkr "Machine") rfl)
  have MK_Standings : Mk K (He.ga K "Standings") (He.ma K (He.ga K "Standings") "__init__") := He.mkr_ok (c.fact 82 (f := .mkr "Standings") rfl)
  have MK_Soonest : Mk K (He.ga K "Soonest") (He.ma K (He.ga K "Soonest") "__init__") := He.mkr_ok (c.fact 84 (f := .mkr "Soonest") rfl)
  have ct_OtherSigns : Ct K mg "OtherSigns" (He.ga K "OtherSigns") := ⟨(He.glo_ok KX G (c.fact 46 (f := .glo "OtherSigns") rfl)), xfB_ok f5, He.exm_ok (c.fact 134 (f := .exm "OtherSigns" "OtherSigns" true) rfl)⟩
  have ct_TooMany : Ct K mg "TooMany" (He.ga K "TooMany") := ⟨(He.glo_ok KX G (c.fact 41 (f := .glo "TooMany") rfl)), xfB_ok f0, He.exm_ok (c.fact 135 (f := .exm "TooMany" "TooMany" true) rfl)⟩
  obtain ⟨uB, gB⟩ := He.str_ok KX G (c.fact 137 (f := .str "BITS" "01") rfl)
  have MM : Cm mg := ⟨⟨_, g0, ⟨_, rfl⟩⟩, ⟨_, g1, ⟨_, rfl⟩⟩, He.free_ok KX G (c.fact 62 (f := .free "max") rfl)⟩
  have ZZ : Cs mg := ⟨⟨_, g2, ⟨_, rfl⟩⟩, ⟨_, g3, ⟨_, rfl⟩⟩⟩
  have MS : CmS mg := ⟨⟨_, g4, ⟨_, rfl⟩⟩, ⟨_, gB, ⟨_, rfl⟩⟩⟩
  have TX : TxC K (He.ga K "Code") := ⟨He.cls_ok (c.fact 77 (f := .cls "Code") rfl), q_Code_longest, q_Code_lengths, q_Code_words, q_Code_size, q_Code_tree⟩
  have TR : TxR K (He.ga K "Tree") := ⟨He.cls_ok (c.fact 75 (f := .cls "Tree") rfl), q_Tree_names, q_Tree_zeros, q_Tree_ones, q_Tree_numbers⟩
  have TM : Txt K (He.ga K "Machine") := ⟨He.cls_ok (c.fact 79 (f := .cls "Machine") rfl), q_Machine_signs, q_Machine_table, q_Machine_rows, q_Machine_start, q_Machine_marks, q_Machine_kinds⟩
  have TS : TxS K (He.ga K "Standings") := ⟨He.cls_ok (c.fact 81 (f := .cls "Standings") rfl), q_Standings_code, q_Standings_machine, q_Standings_first⟩
  have TN : TxN K (He.ga K "Soonest") := ⟨He.cls_ok (c.fact 83 (f := .cls "Soonest") rfl), q_Soonest_code, q_Soonest_machine, q_Soonest_first, q_Soonest_known⟩
  have Ts : Ctd K mg (He.ga K "OtherSigns") (He.ga K "TooMany") := ⟨ct_OtherSigns, ct_TooMany, q_TooMany_what, q_TooMany_many, q_TooMany_most, He.exm_ok (c.fact 136 (f := .exm "TooMany" "OtherSigns" false) rfl)⟩
  have el : fl = He.ga K "law" := by
    have e := hfl.symm.trans (He.glo_ok KX G (c.fact 40 (f := .glo "law") rfl))
    cases e
    rfl
  subst el
  have n01 : (He.cT K treD).2 ≠ (He.cT K canD).2 := of_decide_eq_true x9
  have n02 : (He.cT K treD).2 ≠ (He.cT K lawD).2 := of_decide_eq_true x10
  have n12 : (He.cT K canD).2 ≠ (He.cT K lawD).2 := of_decide_eq_true x11
  refine ⟨d40, [He.cT K treD, He.cT K canD, He.cT K lawD], spLaw K (TbK K), ?_, ?_, ?_, ?_, ?_, ?_⟩
  · intro p hp
    simp only [List.mem_cons, List.not_mem_nil, or_false] at hp
    rcases hp with rfl | rfl | rfl
    · exact hT _ (of_decide_eq_true x6)
    · exact hT _ (of_decide_eq_true x7)
    · exact hT _ (of_decide_eq_true x8)
  · intro p hp
    simp only [List.mem_cons, List.not_mem_nil, or_false] at hp
    rcases hp with rfl | rfl | rfl
    · exact isNone_of x15
    · exact isNone_of x16
    · exact isNone_of x17
  · intro p hp
    simp only [List.mem_cons, List.not_mem_nil, or_false] at hp
    rcases hp with rfl | rfl | rfl
    · exact PySem.W.codeHd_of_K KX x12
    · exact PySem.W.codeHd_of_K KX x13
    · exact PySem.W.codeHd_of_K KX x14
  · exact fun s u => FunD.bindsA (ps := ["_law_script"]) D40 (fun _ _ _ _ _ _ us hl => match us, hl with | [_], _ => rfl) s [u] rfl
  · intro H a ns hl hb hH hS
    refine ⟨a, ns, rfl, hS, fun p hp => ?_, fun _ => rfl⟩
    simp only [List.mem_cons, List.not_mem_nil, or_false] at hp
    rcases hp with rfl | rfl | rfl
    · exact LamX.TabS.nil (hH (He.cT K treD) List.mem_cons_self)
    · exact LamX.TabS.nil (hH (He.cT K canD) (List.mem_cons_of_mem _ List.mem_cons_self))
    · exact LamX.TabS.nil (hH (He.cT K lawD) (List.mem_cons_of_mem _ (List.mem_cons_of_mem _ List.mem_cons_self)))
  · intro base KB GB TB
    have hu0 : ∀ p ∈ TbK K, p.1 = (He.cT K treD).2 → p.2 = (("Tree.__init__.<locals>.<lambda>" : String) : Str) := fun p hp e => by
      simp only [List.mem_cons, List.not_mem_nil, or_false] at hp
      rcases hp with rfl | rfl | rfl
      · exact rfl
      · exact absurd e.symm n01
      · exact absurd e.symm n02
    have LF0 : FunL K base mg "__init__" "Tree.__init__" sTrI (He.ma K (He.ga K "Tree") "__init__") (He.cT K treD).1 (He.cT K treD).2 d47 := funL_of (kq := treD) F47 (TB _ List.mem_cons_self)
    have hu1 : ∀ p ∈ TbK K, p.1 = (He.cT K canD).2 → p.2 = (("canonical_words.<locals>.<lambda>" : String) : Str) := fun p hp e => by
      simp only [List.mem_cons, List.not_mem_nil, or_false] at hp
      rcases hp with rfl | rfl | rfl
      · exact absurd e n01
      · exact rfl
      · exact absurd e.symm n12
    have LF1 : FunL K base mg "canonical_words" "canonical_words" sCan (He.ga K "canonical_words") (He.cT K canD).1 (He.cT K canD).2 d6 := funL_of (kq := canD) F6 (TB _ (List.mem_cons_of_mem _ List.mem_cons_self))
    have hu2 : ∀ p ∈ TbK K, p.1 = (He.cT K lawD).2 → p.2 = (("law.<locals>.<lambda>" : String) : Str) := fun p hp e => by
      simp only [List.mem_cons, List.not_mem_nil, or_false] at hp
      rcases hp with rfl | rfl | rfl
      · exact absurd e n02
      · exact absurd e n12
      · exact rfl
    have LF2 : FunL K base mg "law" "law" sLaw (He.ga K "law") (He.cT K lawD).1 (He.cT K lawD).2 d40 := funL_of (kq := lawD) F40 (TB _ (List.mem_cons_of_mem _ (List.mem_cons_of_mem _ List.mem_cons_self)))
    have cWh : Cal CX0 l.prog w K mg base 1 "is_whole" spWhole := ⟨_, d0, _, ok_whole F0 B, (He.glo_ok KX G (c.fact 0 (f := .glo "is_whole") rfl)), F0.kp, b0⟩
    have cB : Cal CX0 l.prog w K mg base 2 "is_between" spBetween := ⟨_, d1, _, ok_between F1 cWh, (He.glo_ok KX G (c.fact 1 (f := .glo "is_between") rfl)), F1.kp, b1⟩
    have cC1 : Cal CX0 l.prog w K mg base 1 "copied" spCopied := ⟨_, d2, _, ok_copied F2 B, (He.glo_ok KX G (c.fact 2 (f := .glo "copied") rfl)), F2.kp, b2⟩
    have xTooMany : Xc l.prog w K mg base 2 "TooMany" (He.ga K "TooMany") (spX3 K "what" "many" "most") := ⟨oexB_ok o0, (He.glo_ok KX G (c.fact 41 (f := .glo "TooMany") rfl)), _, d41, _, m41.at_, beq_iff_eq.mp m41.fn, ok_TMany F41 cC1, b41⟩
    have xBadLength : Xc l.prog w K mg base 2 "BadLength" (He.ga K "BadLength") (spX1 K "index") := ⟨oexB_ok o2, (He.glo_ok KX G (c.fact 43 (f := .glo "BadLength") rfl)), _, d43, _, m43.at_, beq_iff_eq.mp m43.fn, ok_BLen F43 cC1, b43⟩
    have xNotFull : Xc l.prog w K mg base 1 "NotFull" (He.ga K "NotFull") spX0 := ⟨oexB_ok o3, (He.glo_ok KX G (c.fact 44 (f := .glo "NotFull") rfl)), _, d44, _, m44.at_, beq_iff_eq.mp m44.fn, ok_NFull F44, b44⟩
    have xBadBits : Xc l.prog w K mg base 2 "BadBits" (He.ga K "BadBits") (spX1 K "index") := ⟨oexB_ok o1, (He.glo_ok KX G (c.fact 42 (f := .glo "BadBits") rfl)), _, d42, _, m42.at_, beq_iff_eq.mp m42.fn, ok_BBits F42 cC1, b42⟩
    have xBegins : Xc l.prog w K mg base 2 "Begins" (He.ga K "Begins") (spX2 K "index" "other") := ⟨oexB_ok o4, (He.glo_ok KX G (c.fact 45 (f := .glo "Begins") rfl)), _, d45, _, m45.at_, beq_iff_eq.mp m45.fn, ok_Begins F45 cC1, b45⟩
    have xOtherSigns : Xc l.prog w K mg base 1 "OtherSigns" (He.ga K "OtherSigns") spX0 := ⟨oexB_ok o5, (He.glo_ok KX G (c.fact 46 (f := .glo "OtherSigns") rfl)), _, d46, _, m46.at_, beq_iff_eq.mp m46.fn, ok_OSigns F46, b46⟩
    have cFo : Cal CX0 l.prog w K mg base 1 "first_one" (spFo K) := ⟨_, d4, _, ok_fo F4, (He.glo_ok KX G (c.fact 4 (f := .glo "first_one") rfl)), F4.kp, b4⟩
    have mkT : Mak CX0 l.prog w K mg base 6 "Tree" (He.ga K "Tree") (spTrI (He.ga K "Tree") (TbK K)) := ⟨_, d47, _, MK_Tree, ok_trI LF0 B Bz TR cFo List.mem_cons_self hu0, (He.glo_ok KX G (c.fact 47 (f := .glo "Tree") rfl)), b47⟩
    have cFwb : Cal CX0 l.prog w K mg base 1 "first_wrong_bit" spFwb := ⟨_, d3, _, ok_fwb F3 B Bz, (He.glo_ok KX G (c.fact 3 (f := .glo "first_wrong_bit") rfl)), F3.kp, b3⟩
    have cChW : Cal (L2.CX l.prog w) l.prog w K mg base 4 "check_words" (spChW (He.ga K "BadBits") (He.ga K "Begins")) := ⟨_, d5, _, ok_chW F5 B Bz cFwb xBadBits q_BadBits_index xBegins ⟨q_Begins_index, q_Begins_other⟩, (He.glo_ok KX G (c.fact 5 (f := .glo "check_words") rfl)), F5.kp, b5⟩
    have cCan : Cal CX0 l.prog w K mg base 6 "canonical_words" (spCa (TbK K)) := ⟨_, d6, _, ok_can LF1 B Bz (List.mem_cons_of_mem _ List.mem_cons_self) hu1, (He.glo_ok KX G (c.fact 6 (f := .glo "canonical_words") rfl)), F6.kp, b6⟩
    have mC : Mak (L2.CX l.prog w) l.prog w K mg base 8 "Code" (He.ga K "Code") (spCoI (He.ga K "Code") (He.ga K "Tree") (He.ga K "TooMany") (He.ga K "BadLength") (He.ga K "NotFull") (He.ga K "BadBits") (He.ga K "Begins") (TbK K)) := ⟨_, d49, _, MK_Code, ok_coI F49 B Bz MM TX ⟨q_TooMany_what, q_TooMany_many, q_TooMany_most, q_BadLength_index⟩ cB xTooMany xBadLength xNotFull cChW cCan mkT, (He.glo_ok KX G (c.fact 48 (f := .glo "Code") rfl)), b49⟩
    have cIL : Cal CX0 l.prog w K mg base 1 "is_list" spList := ⟨_, d7, _, ok_list F7 B, (He.glo_ok KX G (c.fact 7 (f := .glo "is_list") rfl)), F7.kp, b7⟩
    have cTO : Cal CX0 l.prog w K mg base 1 "is_tuple_of" spTupOf := ⟨_, d8, _, ok_tupOf F8 B, (He.glo_ok KX G (c.fact 8 (f := .glo "is_tuple_of") rfl)), F8.kp, b8⟩
    have cIR : Cal CX0 l.prog w K mg base 3 "is_row" spIsRow := ⟨_, d9, _, ok_isRow F9 B cTO cB cIL, (He.glo_ok KX G (c.fact 9 (f := .glo "is_row") rfl)), F9.kp, b9⟩
    have cPS : Cal CX0 l.prog w K mg base 1 "put_stretch" spPut := ⟨_, d10, _, ok_put F10, (He.glo_ok KX G (c.fact 10 (f := .glo "put_stretch") rfl)), F10.kp, b10⟩
    have cSR : Cal CX0 l.prog w K mg base 2 "stretch_row" spStr := ⟨_, d11, _, ok_str F11 B cPS, (He.glo_ok KX G (c.fact 11 (f := .glo "stretch_row") rfl)), F11.kp, b11⟩
    have cTR : Cal CX0 l.prog w K mg base 1 "told_row" spTold := ⟨_, d12, _, ok_told F12 B, (He.glo_ok KX G (c.fact 12 (f := .glo "told_row") rfl)), F12.kp, b12⟩
    have cTg : Cal CX0 l.prog w K mg base 1 "target_of" spTarget := ⟨_, d13, _, ok_target F13 B, (He.glo_ok KX G (c.fact 13 (f := .glo "target_of") rfl)), F13.kp, b13⟩
    have cFS : Cal CX0 l.prog w K mg base 3 "first_wrong_sign" spFws := ⟨_, d14, _, ok_fws F14 B cB, (He.glo_ok KX G (c.fact 14 (f := .glo "first_wrong_sign") rfl)), F14.kp, b14⟩
    have mM : Mak CX0 l.prog w K mg base 4 "Machine" (He.ga K "Machine") (spInit (He.ga K "Machine")) := ⟨_, d50, _, MK_Machine, ok_init F50 B TM ZZ cB cIR cSR cTR, (He.glo_ok KX G (c.fact 49 (f := .glo "Machine") rfl)), b50⟩
    have mCR : Met CX0 l.prog w K mg base 4 (He.ga K "Machine") "_check_row" (spCkR (He.ga K "Machine")) := ⟨_, d52, _, TM.cl, m52, ok_ckR F52 B TM cFS, b52⟩
    have mMk : Met CX0 l.prog w K mg base 5 (He.ga K "Machine") "marked_in" (spMkd (He.ga K "Machine")) := ⟨_, d51, _, TM.cl, m51, ok_mkd F51 B TM mCR cTg, b51⟩
    have cMo : Cal CX0 l.prog w K mg base 6 "machine_of" (spMof (He.ga K "Machine")) := ⟨_, d15, _, ok_mof F15 B cTR mM, (He.glo_ok KX G (c.fact 15 (f := .glo "machine_of") rfl)), F15.kp, b15⟩
    have cSt : Cal CX0 l.prog w K mg base 1 "stretched" spStd := ⟨_, d16, _, ok_Std F16 B, (He.glo_ok KX G (c.fact 16 (f := .glo "stretched") rfl)), F16.kp, b16⟩
    have mTB : Met CX0 l.prog w K mg base 1 (He.ga K "Tree") "behind" (spTrB (He.ga K "Tree")) := ⟨_, d48, _, TR.cl, m48, ok_TrB F48 TR, b48⟩
    have cNS : Cal CX0 l.prog w K mg base 2 "node_or_sign" (spNoS (He.ga K "Code") (He.ga K "Tree")) := ⟨_, d19, _, ok_NoS F19 TX TR mTB, (He.glo_ok KX G (c.fact 19 (f := .glo "node_or_sign") rfl)), F19.kp, b19⟩
    have cSB : Cal CX0 l.prog w K mg base 3 "standing_behind" (spStB (He.ga K "Code") (He.ga K "Tree") (He.ga K "Machine")) := ⟨_, d20, _, ok_StB F20 TM cNS cTg, (He.glo_ok KX G (c.fact 20 (f := .glo "standing_behind") rfl)), F20.kp, b20⟩
    have cCM : Cal (L2.CX l.prog w) l.prog w K mg base 3 "check_code_machine" (spCCM (He.ga K "Code") (He.ga K "Tree") (He.ga K "Machine") (He.ga K "OtherSigns")) := ⟨_, d21, _, ok_CCM F21 TX TM xOtherSigns, (He.glo_ok KX G (c.fact 21 (f := .glo "check_code_machine") rfl)), F21.kp, b21⟩
    have mS : Mak CX0 l.prog w K mg base 1 "Standings" (He.ga K "Standings") (spSI (He.ga K "Code") (He.ga K "Tree") (He.ga K "Machine") (He.ga K "Standings")) := ⟨_, d53, _, MK_Standings, ok_SI F53 TS TM, (He.glo_ok KX G (c.fact 50 (f := .glo "Standings") rfl)), b53⟩
    have mSb : Met CX0 l.prog w K mg base 4 (He.ga K "Standings") "state_behind" (spSb (IsS (He.ga K "Code") (He.ga K "Tree") (He.ga K "Machine") (He.ga K "Standings")) encS stS vS) := ⟨_, d54, _, TS.cl, m54, ok_SSb F54 TS cSB, b54⟩
    have mSm : Met CX0 l.prog w K mg base 4 (He.ga K "Standings") "is_marked" (spIm (IsS (He.ga K "Code") (He.ga K "Tree") (He.ga K "Machine") (He.ga K "Standings")) encS mkS vS) := ⟨_, d55, _, TS.cl, m55, ((ok_SIm F55 TS TM).mono (by omega)), b55⟩
    have cSe : Cal (L2.CX l.prog w) l.prog w K mg base 8 "searcher_of" (spSe (He.ga K "Machine") (He.ga K "TooMany") (IsS (He.ga K "Code") (He.ga K "Tree") (He.ga K "Machine") (He.ga K "Standings")) (fun d => (d.st, ([] : W))) stS mkS) := ⟨_, d22, _, ok_Se F22 B MS (stC TS) q_TooMany_what q_TooMany_many q_TooMany_most mSb mSm cSt cMo xTooMany, (He.glo_ok KX G (c.fact 22 (f := .glo "searcher_of") rfl)), F22.kp, b22⟩
    have cBS : Cal (L2.CX l.prog w) l.prog w K mg base 9 "bit_search" (spBSe (He.ga K "Code") (He.ga K "Tree") (He.ga K "Machine") (He.ga K "OtherSigns") (He.ga K "TooMany")) := ⟨_, d23, _, ok_BSe F23 cCM mS cSe, (He.glo_ok KX G (c.fact 23 (f := .glo "bit_search") rfl)), F23.kp, b23⟩
    have cLo : Cal CX0 l.prog w K mg base 1 "laid_out" spLo := ⟨_, d17, _, ok_Lo F17 B, (He.glo_ok KX G (c.fact 17 (f := .glo "laid_out") rfl)), F17.kp, b17⟩
    have mNO : Met CX0 l.prog w K mg base 1 (He.ga K "Tree") "nodes_over" (spNO (He.ga K "Tree")) := ⟨_, d56, _, TR.cl, m56, ok_NO F56 B Bz TR, b56⟩
    have mSn : Mak CX0 l.prog w K mg base 1 "Soonest" (He.ga K "Soonest") (spNI (He.ga K "Code") (He.ga K "Tree") (He.ga K "Machine") (He.ga K "Soonest")) := ⟨_, d57, _, MK_Soonest, ok_NI F57 TN TM, (He.glo_ok KX G (c.fact 51 (f := .glo "Soonest") rfl)), b57⟩
    have mSu : Met CX0 l.prog w K mg base 2 (He.ga K "Soonest") "is_sure" (spSur (He.ga K "Code") (He.ga K "Tree") (He.ga K "Machine") (He.ga K "Soonest")) := ⟨_, d58, _, TN.cl, m58, ok_Sur F58 TX TR TN TM cLo mNO, b58⟩
    have mNB : Met CX0 l.prog w K mg base 4 (He.ga K "Soonest") "state_behind" (spNB (He.ga K "Code") (He.ga K "Tree") (He.ga K "Machine") (He.ga K "Soonest")) := ⟨_, d59, _, TN.cl, m59, ok_NB F59 TN TM cSB mSu, b59⟩
    have mNm : Met CX0 l.prog w K mg base 1 (He.ga K "Soonest") "is_marked" (spNm (He.ga K "Code") (He.ga K "Tree") (He.ga K "Machine") (He.ga K "Soonest")) := ⟨_, d60, _, TN.cl, m60, ok_Nm F60, b60⟩
    have cSeN : Cal (L2.CX l.prog w) l.prog w K mg base 8 "searcher_of" (spSeN (He.ga K "Code") (He.ga K "Tree") (He.ga K "Machine") (He.ga K "TooMany") (He.ga K "Soonest")) := ⟨_, d22, _, ok_SeN F22 B MS TN q_TooMany_what q_TooMany_many q_TooMany_most mNB mNm cSt cMo xTooMany, (He.glo_ok KX G (c.fact 22 (f := .glo "searcher_of") rfl)), F22.kp, b22⟩
    have cSo : Cal (L2.CX l.prog w) l.prog w K mg base 9 "soonest_search" (spSs (He.ga K "Code") (He.ga K "Tree") (He.ga K "Machine") (He.ga K "OtherSigns") (He.ga K "TooMany")) := ⟨_, d18, _, ok_Ss F18 cCM mSn cSeN, (He.glo_ok KX G (c.fact 18 (f := .glo "soonest_search") rfl)), F18.kp, b18⟩
    have cPn : Cal CX0 l.prog w K mg base 1 "_law_pen_of" (spPen K) := ⟨_, d24, _, ok_pen F24 B, (He.glo_ok KX G (c.fact 24 (f := .glo "_law_pen_of") rfl)), F24.kp, b24⟩
    have cD : Cal CX0 l.prog w K mg base 1 "_law_draw" spDraw := ⟨_, d25, _, ok_draw F25 B, (He.glo_ok KX G (c.fact 25 (f := .glo "_law_draw") rfl)), F25.kp, b25⟩
    have cWO : Cal CX0 l.prog w K mg base 2 "_law_words_of" spWOf := ⟨_, d26, _, ok_WOf F26 B cD, (He.glo_ok KX G (c.fact 26 (f := .glo "_law_words_of") rfl)), F26.kp, b26⟩
    have cLC : Cal CX0 l.prog w K mg base 10 "_law_code" (spLC (He.ga K "Code") (He.ga K "Tree") (TbK K)) := ⟨_, d27, _, ok_LC F27 B mC, (He.glo_ok KX G (c.fact 27 (f := .glo "_law_code") rfl)), F27.kp, b27⟩
    have cBW : Cal CX0 l.prog w K mg base 1 "_law_by_word" spBW := ⟨_, d28, _, ok_BW F28 B, (He.glo_ok KX G (c.fact 28 (f := .glo "_law_by_word") rfl)), F28.kp, b28⟩
    have cLR : Cal CX0 l.prog w K mg base 1 "_law_read" spLR := ⟨_, d29, _, ok_LR F29, (He.glo_ok KX G (c.fact 29 (f := .glo "_law_read") rfl)), F29.kp, b29⟩
    have cLT : Cal CX0 l.prog w K mg base 2 "_law_table" spLT := ⟨_, d30, _, ok_LT F30 B cD, (He.glo_ok KX G (c.fact 30 (f := .glo "_law_table") rfl)), F30.kp, b30⟩
    have cLM : Cal CX0 l.prog w K mg base 2 "_law_marks" spLM := ⟨_, d31, _, ok_LM F31 B cD, (He.glo_ok KX G (c.fact 31 (f := .glo "_law_marks") rfl)), F31.kp, b31⟩
    have cLRo : Cal CX0 l.prog w K mg base 1 "_law_row" spLRo := ⟨_, d33, _, ok_LRo F33, (He.glo_ok KX G (c.fact 33 (f := .glo "_law_row") rfl)), F33.kp, b33⟩
    have cRK : Cal CX0 l.prog w K mg base 2 "_law_rows_kept" spLRK := ⟨_, d34, _, ok_LRK F34 B cLRo, (He.glo_ok KX G (c.fact 34 (f := .glo "_law_rows_kept") rfl)), F34.kp, b34⟩
    have cLN : Cal CX0 l.prog w K mg base 1 "_law_numbers" spLN := ⟨_, d35, _, ok_LN F35 B, (He.glo_ok KX G (c.fact 35 (f := .glo "_law_numbers") rfl)), F35.kp, b35⟩
    have cMa : Cal CX0 l.prog w K mg base 6 "_law_machine" (spLMa (He.ga K "Machine")) := ⟨_, d32, _, ok_LMa F32 B mM, (He.glo_ok KX G (c.fact 32 (f := .glo "_law_machine") rfl)), F32.kp, b32⟩
    have cIs : Cal CX0 l.prog w K mg base 1 "_law_is_sure" spLis := ⟨_, d36, _, ok_Lis F36 B Bz, (He.glo_ok KX G (c.fact 36 (f := .glo "_law_is_sure") rfl)), F36.kp, b36⟩
    have cLs : Cal CX0 l.prog w K mg base 2 "_law_soonest" spLso := ⟨_, d37, _, ok_Lso F37 B cBW cLR cIs, (He.glo_ok KX G (c.fact 37 (f := .glo "_law_soonest") rfl)), F37.kp, b37⟩
    have cDu : Cal CX0 l.prog w K mg base 2 "_law_due" spDu := ⟨_, d38, _, ok_Du F38 B cIs, (He.glo_ok KX G (c.fact 38 (f := .glo "_law_due") rfl)), F38.kp, b38⟩
    exact ok_law ⟨LF2, B, TM, cPn, cD, cWO, cLT, cLM, cLC, cMa, cSo, cBS, cLs, cRK, cDu, cLN, mMk, mM, F39, b39, (He.glo_ok KX G (c.fact 39 (f := .glo "_law_refused") rfl)), Ts, (List.mem_cons_of_mem _ (List.mem_cons_of_mem _ List.mem_cons_self)), hu2⟩
end K61
set_option Elab.async false
open PySem.W PySem PyProof.Rows in
set_option maxRecDepth 100001 in
set_option maxHeartbeats 0 in
theorem PySem.Challenge.cw_wordvault_k61_whole_tells_as_soon_as_it_holds : PySem.Challenge.rw_wordvault_k61_whole_tells_as_soon_as_it.Holds := by
  w_on; o_law
  k_head
  case hw => w_witness2
  k_fill
  refine LamX.walk_ofTs (l := PySem.Challenge.rw_wordvault_k61_whole_tells_as_soon_as_it) (n := 63) (k := 13) (x := "_law_script") (CX := fun _ => L2.CX0) rfl (by decide) rfl ⟨rfl, by decide, by decide⟩ (fun w h Y => PySem.W.km_in_of Y) ?F (fun _ _ _ _ _ z => z)
  case F =>
    intro w mg fa h Y KX G hmg
    refine K61.at_law KX G hmg ?c ?e (PySem.W.km_tabs_of Y)
    case c =>
      show He.obsD K61.faA K61.fnA _ = He.valD K61.fnA
      kernel_rfl
    case e => kernel_rfl
