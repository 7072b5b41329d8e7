import PyProof.Rows.All
import Wide.All
import OpenK.AllK
import Wide.FinOn
import KE.GoesEnum
import HandS.ForMost
import HandS.Walk
import HandS.DictComp
import HandS.NoneIn
import HandS.IsInst
import HandS.Conv
import HandS.Flow
import HandS.Deep
import HandS.Codes
import HandS.Wide
import HandS.TupAny
import HandS.ListItems
import KE.KDictList
import HandS.Small
import HandS.SetFor
import HandS.Style
import HandS.HeadHook4
import HandS.EndTab
import KE.KNestM
import PySem.Challenge.RW_wordvault_k17_machines_in_one_form
set_option Elab.async false
set_option maxRecDepth 100001
set_option maxHeartbeats 1999999
/-! enumerate over a tuple. -/
namespace PySem
theorem enumT_new {v : Value} {o : Obj} {G : Heap → Prop} (B : Begins v o G) : Meets (Builtin.«enumerate.__new__» ⟨[.type "enumerate", v], []⟩)
    (fun _ R z => G z.heap ∧ R (.ok (.ret (.ref (z.heap.push o).objs.size)))
      { z with heap := (z.heap.push o).push { cls := .type "enumerate", data := .fields #[.none, .bool false, .ref z.heap.objs.size, rawInt 0, .none, .none] } }) :=
  .of_wp fun P W A R z hz => by
    obtain ⟨hp, gs, dr, tk, os⟩ := z
    obtain ⟨g0, r0⟩ := hz
    have su := sub_enumerate
    have it0 : ∀ {A' : Around} {E : Value → Shared → Prop} {Q : Value → Shared → Prop}, Q (.ref hp.objs.size) ⟨hp.push o, gs, dr, tk, os⟩ → wpAny (model P W) A' (pyIter v) Q E ⟨hp, gs, dr, tk, os⟩ :=
      fun q => B.iter P W _ _ ⟨hp, gs, dr, tk, os⟩ _ g0 q
    wp_walk using it0
    refine wpAny_stack_any fun sk => wpAny_pure ?_
    split
    next c _ _ _ _ _ =>
      cases (c == Value.type "enumerate") <;> (wp_walk using it0; exact ⟨_, rfl, r0⟩)
    next => wp_walk using it0; exact ⟨_, rfl, r0⟩
theorem enumT_call {P : Program} {W : World} {A : Around} {E : Value → Shared → Prop} {z : Shared} {v : Value} {o : Obj} {G : Heap → Prop} {Q : Value → Shared → Prop} (B : Begins v o G) (g0 : G z.heap)
    (k : ∀ h2, IsEnum h2 (z.heap.objs.size + 1) z.heap.objs.size 0 .none → h2.get? z.heap.objs.size = some o → (∀ b u, z.heap.get? b = some u → h2.get? b = some u) → Q (.ref (z.heap.objs.size + 1)) { z with heap := h2 }) :
    wpAny (model P W) A (call (.type "enumerate") [v]) Q E z := by
  refine callType_new F.called_enumerate (by decide) (F.typeCall_enumerate_1 _) (F.newCall_enumerate_1 _) (fun ob => F.args_object_init_2 ob _) F.entry_enumerate_new (enumT_new B) ⟨g0, ?_⟩
  have sz : (z.heap.push o).objs.size = z.heap.objs.size + 1 := Heap.size_push ..
  show _ ∧ _
  rw [sz]
  have en : IsEnum ((z.heap.push o).push { cls := .type "enumerate", data := .fields #[.none, .bool false, .ref z.heap.objs.size, rawInt 0, .none, .none] }) (z.heap.objs.size + 1) z.heap.objs.size 0 .none := by
    have q := Heap.get?_push_size (z.heap.push o) (o := { cls := .type "enumerate", data := .fields #[.none, .bool false, .ref z.heap.objs.size, rawInt 0, .none, .none] }) rfl
    rw [sz] at q
    exact q
  exact ⟨⟨_, en, rfl⟩, k _ en (Heap.get?_push_of_some _ (Heap.get?_push_size _ B.free)) fun b u e => Heap.get?_push_of_some _ (Heap.get?_push_of_some _ e)⟩
end PySem
namespace L2
open PySem.Spec PySem PyProof.Rows
/-- the tuple at a, each item in a new pair behind its number -/
def ItEnT (K : PySem.W.Frag) (a : Addr) : It where
  go := fun i H => ∃ (xs : List V) (x : V), SqT K H a xs ∧ xs[i]? = some x
  yld := fun i H v H2 => ∃ p x, v = .ref p ∧ H p = none ∧ H2 = upd H p (.tup [.int (i : Nat), x]) ∧ ∀ xs, SqT K H a xs → xs[i]? = some x
  stop := fun i H => ∃ xs : List V, SqT K H a xs ∧ xs.length ≤ i
theorem two_of {b e d : Addr} (h : b ∈ [e, d]) : b = e ∨ b = d := by simpa using h
theorem turn_enT {P : Program} {W : World} {K : PySem.W.Frag} {es : List Expr} {kk : Nat} {tp : Pos} (a e d : Addr) :
    Turn P W K (.Tuple es kk tp) (ItEnT K a) [e, d] e (fun i h => (∃ was, IsEnum h e d ((i : Nat) : Int) was) ∧ h.IsTupleIter d a i ∧ e ≠ d) where
  mem := List.mem_cons_self
  obj := fun i h st b hb => by
    obtain ⟨⟨was, he⟩, ⟨o, ho, hc, hd⟩, _⟩ := st
    rcases two_of hb with rfl | rfl
    · exact ⟨_, he, fun _ q => nomatch q⟩
    · exact ⟨o, ho, fun _ q => by rw [hd] at q; cases q⟩
  keep := fun i h h2 st k => ⟨let ⟨was, he⟩ := st.1; ⟨was, k e (by simp) _ he⟩, st.2.1.at fun o q => k d (by simp) o q, st.2.2⟩
  item := by
    intro X hP hW hK hc i pins s σ H E I hf st hg
    subst hP hW hK
    obtain ⟨⟨was, he⟩, hit, hne⟩ := st
    obtain ⟨xs, x, hq, hx⟩ := hg
    obtain ⟨its, rv, p, hz⟩ := I.tuple hq
    obtain ⟨u, hu, ru⟩ := rv.get hx
    have le : e < s.heap.objs.size := Heap.lt_size he
    have ld : d < s.heap.objs.size := let ⟨_, q, _⟩ := hit; Heap.lt_size q
    have la : a < s.heap.objs.size := p.lt
    have had : a ≠ d := fun z => by
      obtain ⟨o1, h1, c1, _⟩ := hit
      obtain ⟨o2, h2, c2, _⟩ := p
      rw [z, h1] at h2
      have := Option.some.inj h2
      subst this
      rw [c1] at c2
      exact absurd c2 (by decide)
    have hae : a ≠ e := fun z => by
      obtain ⟨o2, h2, c2, _⟩ := p
      have h1 : s.heap.get? e = some _ := he
      rw [z, h1] at h2
      have := Option.some.inj h2
      subst this
      exact absurd (show Value.type "enumerate" = Value.type "tuple" from c2) (by decide)
    have hi : i < its.toArray.size := by
      have := (List.getElem?_eq_some_iff.mp hu).1
      simpa using this
    have D := Draws.tuple (prog := X.prog) (w := X.w) (A := X.A.in1) (I.ok.hd hc) d a had its.toArray
    refine wpAny_pyNext_enum_itemD (n := its.toArray.size) (i := i) D he ⟨hit, p⟩ hi hne (fun m => ?_) fun y h2 tk hy ho hs2 hT hsz hk => ?_
    · rcases two_of m with z | z
      · exact hne z
      · exact hae z.symm
    have ey : y = u := by
      have q : its.toArray[i]? = some u := by simpa using hu
      rw [hy] at q
      exact Option.some.inj q
    subst ey
    refine ⟨_, rfl, wpAny_letOwnedTupleGo_enum (s := { s with heap := h2, toks := tk + 1 }) ho fun h3 he3 sb => ?_⟩
    have hT3 : h3.get? s.heap.objs.size = some { cls := .type "tuple", data := .seq #[.int i tk, y] } := (sb.2 _ (Nat.ne_of_gt le)).trans hT
    have new : ObjOk X.prog X.w (upd H s.heap.objs.size (.tup [.int (i : Nat), x])) h3 s.heap.objs.size (.tup [.int (i : Nat), x]) :=
      ⟨by show 2 ≤ sizeLine; decide, [.int i tk, y], .cons ⟨_, rfl⟩ (.cons ru .nil), ⟨_, hT3, rfl, _, rfl⟩⟩
    have J : Inv X pins σ (upd H s.heap.objs.size (.tup [.int (i : Nat), x])) { s with heap := h3, toks := tk + 1 } :=
      I.turnedNew (ch := [e, d]) (fun b o hb q => (sb.2 b fun z => hb (by simp [z])).trans (hk b o (fun z => hb (by simp [z])) (fun z => hb (by simp [z])) q)) hf (Nat.le_refl _) new
    refine ⟨.ref s.heap.objs.size, _, J, rfl, ⟨_, x, rfl, I.hok.fresh (Nat.le_refl _), rfl, fun ys hy2 => by rw [I.tuple_inj hy2 hq]; exact hx⟩, ⟨⟨y, ?_⟩, hs2.1.at fun o q => (sb.2 d (Ne.symm hne)).trans q, hne⟩, fun b hb => ?_⟩
    · have e1 : ((i + 1 : Nat) : Int) = (i : Int) + 1 := by omega
      rw [e1]
      exact he3
    · have lb : b < s.heap.objs.size := by
        rcases two_of hb with z | z
        · rw [z]; exact le
        · rw [z]; exact ld
      rw [upd_ne (Nat.ne_of_lt lb)]
      exact (hf b hb).1
  done := by
    intro X hP hW hK hc i pins s σ H E I hf st hg
    subst hP hW hK
    obtain ⟨⟨was, he⟩, hit, hne⟩ := st
    obtain ⟨xs, hq, hx⟩ := hg
    obtain ⟨its, rv, p, hz⟩ := I.tuple hq
    obtain ⟨f0, f1, f2, f3, f4, f5⟩ := hf d (by simp)
    have hl := rv.length
    unfold pyNext
    refine wpAny_bind (wpAny_attempt (wpAny_callSpecial?_slot (name := Str.ofString "__next__") ⟨_, he, rfl⟩ F.slot_enumerate_next
      (wpAny_call_entry F.slot_enumerate_next ⟨_, he, rfl⟩ F.entry_enumerate_next ?_ (F.args_enumerate_next_1 _))))
    show wpAny _ _ (field (.ref e) 2 >>= _) _ _ _
    refine wpAny_bind (wpAny_field he rfl (x := .ref d) rfl ?_)
    refine wpAny_bind (wpAny_nextOf_tuple_end (I.ok.hd hc) hit p (by simp; omega) fun h2 x eb hx2 => ?_)
    obtain ⟨o, ho, hcl⟩ := hx2
    refine wpAny_bind (wpAny_isInstance (T := "StopIteration") (b := true) ⟨o, ho, hcl⟩ isSubtype_stop ?_)
    exact wpAny_pure ⟨rfl, I.turned (t' := s.toks) (fun b o hb q => eb b o hb q) f0 f1 f3 f4 f5⟩
  self := fun A i s Q E st h => let ⟨⟨_, he⟩, _⟩ := st; wpAny_pyIter_enum he h
def iEnT (K : PySem.W.Frag) (ta : TA) : TI := fun σ H R => ta σ H fun vs H1 => ∃ a xs, vs = [.ref a] ∧ SqT K H1 a xs ∧ R (ItEnT K a) H1
theorem pi_enT {X : Cx} {e : Expr} {ta : TA} {p pos tp : Pos} {es : List Expr} {kk : Nat} (hg : Gl X "enumerate") (hm : X.mg "enumerate" = none) (ha : PA X [e] ta) (hs : starEach [e] X.env = [(false, eval e X.env)] := by rfl) :
    PI X (.Tuple es kk tp) (.Call (.Name "enumerate" p) [e] [] pos) (iEnT X.K ta) := by
  constructor
  intro pins s σ H R I h
  refine Call_ (ld_blt I hg hm boot_enumerate (PyProof.Rows.callWith_type1 (thn (ha.run pos pins s σ H _ I h) fun us s1 hh => ?_) hs rfl))
  obtain ⟨vs, H1, I1, r1, a, xs, ex, hq, q⟩ := hh
  subst ex
  cases r1 with
  | cons r rr =>
    cases rr
    cases r
    obtain ⟨its, rv, p2, hz⟩ := I1.tuple hq
    refine enumT_call (begins_tuple a its.toArray) p2 fun h2 he hd hk => wpAny_pyIter_enum he ?_
    have I2 : Inv X pins σ H1 { s1 with heap := h2 } := I1.kept (t' := s1.toks) hk
    refine ⟨s1.heap.objs.size + 1, [s1.heap.objs.size + 1, s1.heap.objs.size], _, _, H1, rfl, I2, turn_enT a (s1.heap.objs.size + 1) s1.heap.objs.size, ⟨⟨.none, he⟩, ⟨_, hd, rfl, rfl⟩, Nat.succ_ne_self _⟩, fun b hb => ?_, q⟩
    have ge : s1.heap.objs.size ≤ b := by
      rcases two_of hb with z | z
      · rw [z]; exact Nat.le_add_right _ _
      · rw [z]; exact Nat.le_refl _
    exact I1.fpOk ge (I1.hok.fresh ge)
theorem walk_enT {K : PySem.W.Frag} {a : Addr} {xs : List V} : Walk (ItEnT K a) xs.length (fun H => SqT K H a xs) (YPair (fun i => some (.int (i : Nat))) (fun i => xs[i]?)) where
  goes := fun i _ hi q => ⟨xs, xs[i], q, by simp [hi]⟩
  stops := fun _ q => ⟨xs, q, Nat.le_refl _⟩
  yields := fun i H v H2 _ q y => let ⟨p, x, h1, h2, h3, h4⟩ := y; ⟨p, .int (i : Nat), x, h1, h2, h3, rfl, h4 xs q⟩
end L2
set_option Elab.async false
set_option linter.all false
set_option maxRecDepth 100001
set_option maxHeartbeats 3999999
namespace K17
open PySem L2
def topS (i : Nat) : Stmt := PySem.Challenge.pw_wordvault_k17_machines_in_one_form.main.body.getD i (.Pass ⟨0, 0, 0, 0⟩)
abbrev sWhole : Stmt := topS 1
abbrev sBetween : Stmt := topS 2
abbrev sList : Stmt := topS 3
abbrev sTupOf : Stmt := topS 4
abbrev sWrongS : Stmt := topS 5
abbrev sPen : Stmt := topS 29
abbrev sDraw : Stmt := topS 30
abbrev sPick : Stmt := topS 31
/-! what kinds of values are met -/
inductive Kn (H : Hp) : V → Prop where
  | non : Kn H .non
  | bl (b : Bool) : Kn H (.bl b)
  | int (i : Int) : Kn H (.int i)
  | str (x : Str) : Kn H (.str x)
  | lst {a : Addr} {xs : List V} (e : H a = some (.lst xs)) : Kn H (.ref a)
  | tup {a : Addr} {xs : List V} (e : H a = some (.tup xs)) : Kn H (.ref a)
theorem Kn.same {H H2 : Hp} {v : V} (k : Kn H v) (s : Same H H2) : Kn H2 v := by
  cases k with
  | non => exact .non
  | bl b => exact .bl b
  | int i => exact .int i
  | str x => exact .str x
  | lst e => exact .lst (s _ _ e)
  | tup e => exact .tup (s _ _ e)
def isI : V → Bool
  | .int _ => true
  | _ => false
def isB : V → Bool
  | .bl _ => true
  | _ => false
def isT (H : Hp) : V → Bool
  | .ref a => match H a with
    | some (.tup _) => true
    | _ => false
  | _ => false
def isL (H : Hp) : V → Bool
  | .ref a => match H a with
    | some (.lst _) => true
    | _ => false
  | _ => false
theorem isT_lst {H : Hp} {a : Addr} {xs : List V} (e : H a = some (.lst xs)) : isT H (.ref a) = false := by simp only [isT, e]
theorem isT_tup {H : Hp} {a : Addr} {xs : List V} (e : H a = some (.tup xs)) : isT H (.ref a) = true := by simp only [isT, e]
theorem isL_lst {H : Hp} {a : Addr} {xs : List V} (e : H a = some (.lst xs)) : isL H (.ref a) = true := by simp only [isL, e]
theorem isL_tup {H : Hp} {a : Addr} {xs : List V} (e : H a = some (.tup xs)) : isL H (.ref a) = false := by simp only [isL, e]
def KT (K : PySem.W.Frag) (t : String) (bi bb bt bl : Bool) : Prop := PySem.W.kitOne K (.type t) (.type "int") = some bi ∧ PySem.W.kitOne K (.type t) (.type "bool") = some bb ∧
    PySem.W.kitOne K (.type t) (.type "tuple") = some bt ∧ PySem.W.kitOne K (.type t) (.type "list") = some bl ∧ PySem.W.kitOne K (.type t) (.type "dict") = some false
theorem kt_of {K : PySem.W.Frag} {t : String} {bi bb bt bl : Bool} (h : kitB t "int" = some bi ∧ kitB t "bool" = some bb ∧ kitB t "tuple" = some bt ∧ kitB t "list" = some bl ∧ kitB t "dict" = some false) : KT K t bi bb bt bl := h
theorem kt_non {K : PySem.W.Frag} : KT K "NoneType" false false false false := kt_of (by decide +kernel)
theorem kt_bl {K : PySem.W.Frag} : KT K "bool" true true false false := kt_of (by decide +kernel)
theorem kt_int {K : PySem.W.Frag} : KT K "int" true false false false := kt_of (by decide +kernel)
theorem kt_str {K : PySem.W.Frag} : KT K "str" false false false false := kt_of (by decide +kernel)
theorem kt_lst {K : PySem.W.Frag} : KT K "list" false false false true := kt_of (by decide +kernel)
theorem kt_tup {K : PySem.W.Frag} : KT K "tuple" false false true false := kt_of (by decide +kernel)
/-- a known value's type, and what isinstance says of it -/
theorem Kn.kinds (K : PySem.W.Frag) {H : Hp} {v : V} (k : Kn H v) : ∃ t : String, TyX K H v (.type t) ∧ KT K t (isI v || isB v) (isB v) (isT H v) (isL H v) := by
  cases k with
  | non => exact ⟨_, .base .non, kt_non⟩
  | bl b => exact ⟨_, .base (.bl b), kt_bl⟩
  | int i => exact ⟨_, .base (.int i), kt_int⟩
  | str x => exact ⟨_, .base (.str x), kt_str⟩
  | lst e =>
    rw [isT_lst e, isL_lst e]
    exact ⟨_, .base (.lst e), kt_lst⟩
  | tup e =>
    rw [isT_tup e, isL_tup e]
    exact ⟨_, .base (.tup e), kt_tup⟩
def spWhole : Sp := fun vs H Q _ => ∃ v, vs = [v] ∧ Kn H v ∧ Q (.bl (isI v)) H
def btw : V → Int → Int → Bool
  | .int i, lo, hi => decide (lo ≤ i ∧ i ≤ hi)
  | _, _, _ => false
def spBetween : Sp := fun vs H Q _ => ∃ v lo hi, vs = [v, .int lo, .int hi] ∧ Kn H v ∧ Q (.bl (btw v lo hi)) H
/-- how many items a known tuple has -/
def isTn (H : Hp) (v : V) (n : Int) : Bool := match v with
  | .ref a => match H a with
    | some (.tup xs) => decide ((xs.length : Int) = n)
    | _ => false
  | _ => false
def spTupOf : Sp := fun vs H Q _ => ∃ v n, vs = [v, .int n] ∧ Kn H v ∧ Q (.bl (isTn H v n)) H
section
variable {P : Program} {w : World} {K : PySem.W.Frag} {mg : Str → Option Value} {base : Heap}
/-- a def of the top that may be called by its name; CX: what it may let out -/
structure Cal (CX : CXT) (P : Program) (w : World) (K : PySem.W.Frag) (mg : Str → Option Value) (base : Heap) (k : Nat) (x : Str) (sp : Sp) : Prop where
  ex : ∃ (f : Addr) (fd : FuncData) (ps : List Str), FnOk P w K mg base CX k f fd ps sp ∧ mg x = some (.ref f) ∧ PySem.W.keepIn K (.ref f) = true ∧ Binds K fd ps []
/-- a method of the class at C -/
structure Met (CX : CXT) (P : Program) (w : World) (K : PySem.W.Frag) (mg : Str → Option Value) (base : Heap) (k : Nat) (C : Addr) (m : Str) (sp : Sp) : Prop where
  ex : ∃ (f : Addr) (fd : FuncData) (ps : List Str), Cls K C ∧ Meth K C m f ∧ FnOk P w K mg base CX k f fd ps sp ∧ Binds K fd ps []
/-- a class that may be made by its name -/
structure Mak (CX : CXT) (P : Program) (w : World) (K : PySem.W.Frag) (mg : Str → Option Value) (base : Heap) (k : Nat) (x : Str) (C : Addr) (sp : Sp) : Prop where
  ex : ∃ (f : Addr) (fd : FuncData) (ps : List Str), Mk K C f ∧ FnOk P w K mg base CX k f fd ps sp ∧ mg x = some (.ref C) ∧ Binds K fd ps []
section
variable {X : Cx} {CX : CXT} {k j : Nat} {C : Addr} {x m : Str} {sp : Sp} {p pos apos : Pos} {e o : Expr} {es : List Expr} {ta : TE} {t : TA} {E : XK}
theorem pe_c (c : Cal CX X.prog X.w X.K X.mg X.base k x sp) (hr : Room j X.A) (hx : Passes CX X E) (ha : PA X (e :: es) t) (hk : k ≤ j := by decide) (hg : Gl X x := by rfl) (hdb : (x == ("__debug__" : Str)) = false := by decide)
    (he : starEach (e :: es) X.env = (false, eval e X.env) :: starEach es X.env := by rfl) (hpl : (backTo pos (starEach es X.env)).any (·.1) = false := by rfl) : PE X (.Call (.Name x p) (e :: es) [] pos) (tCall sp [] E t) := by
  obtain ⟨f, fd, ps, F, hm, kp, b⟩ := c.ex
  exact pe_call F (hr.mono hk) hg hm kp b .nil hx ha hdb he hpl
theorem pe_mt (c : Met CX X.prog X.w X.K X.mg X.base k C m sp) (hr : Room j X.A) (hx : Passes CX X E) (he : PE X o ta) (ha : PA X (e :: es) t) (hk : k ≤ j := by decide) {pl : Sem Bool}
    (hst : starEach (e :: es) X.env = (false, eval e X.env) :: starEach es X.env := by rfl) (hpl : (backTo pos (starEach es X.env)).any (·.1) = false := by rfl)
    (hc : eval (.Call (.Attribute o m apos) (e :: es) [] pos) X.env = (do
      let ov ← eval o X.env
      standAt apos.atName
      let (f, first) ← holding [ov] (getMethod ov m pl)
      callWith pos f first (backTo pos (starEach (e :: es) X.env)) (backToKw pos (keywordEach [] X.env))) := by rfl) :
    PE X (.Call (.Attribute o m apos) (e :: es) [] pos) (tMeth C m sp [] E ta t) := by
  obtain ⟨f, fd, ps, cc, hm, F, b⟩ := c.ex
  exact pe_meth he cc hm F (hr.mono hk) b .nil hx ha hst hpl hc
theorem pe_mt0 (c : Met CX X.prog X.w X.K X.mg X.base k C m sp) (hr : Room j X.A) (hx : Passes CX X E) (he : PE X o ta) (hk : k ≤ j := by decide) {pl : Sem Bool}
    (hc : eval (.Call (.Attribute o m apos) [] [] pos) X.env = (do
      let ov ← eval o X.env
      standAt apos.atName
      let (f, first) ← holding [ov] (getMethod ov m pl)
      callWith pos f first (backTo pos (starEach [] X.env)) (backToKw pos (keywordEach [] X.env))) := by rfl) :
    PE X (.Call (.Attribute o m apos) [] [] pos) (tMeth C m sp [] E ta tNil) := by
  obtain ⟨f, fd, ps, cc, hm, F, b⟩ := c.ex
  exact pe_meth0 he cc hm F (hr.mono hk) b .nil hx hc
theorem pe_mk (c : Mak CX X.prog X.w X.K X.mg X.base k x C sp) (hr : Room j X.A) (hx : Passes CX X E) (ha : PA X (e :: es) t) (hk : k + 1 ≤ j := by decide) (hg : Gl X x := by rfl) (hdb : (x == ("__debug__" : Str)) = false := by decide)
    (he : starEach (e :: es) X.env = (false, eval e X.env) :: starEach es X.env := by rfl) (hpl : (backTo pos (starEach es X.env)).any (·.1) = false := by rfl) : PE X (.Call (.Name x p) (e :: es) [] pos) (tMake C sp [] E t) := by
  obtain ⟨f, fd, ps, M, F, hm, b⟩ := c.ex
  exact pe_make M F (hr.mono hk) hg hm b .nil hx ha hdb he hpl
end
/-- the built-in names that the module leaves as they are -/
structure Bi (mg : Str → Option Value) : Prop where
  isi : mg "isinstance" = none
  int : mg "int" = none
  bool : mg "bool" = none
  tuple : mg "tuple" = none
  list : mg "list" = none
  dict : mg "dict" = none
  len : mg "len" = none
  enum : mg "enumerate" = none
  range : mg "range" = none
  abs : mg "abs" = none
  max : mg "max" = none
  min : mg "min" = none
section
variable {X : Cx}
theorem pe_isi {a : Expr} {es : List Expr} {t : TA} {p pos : Pos} (hm : X.mg "isinstance" = none) (ha : PA X (a :: es) t) (hg : Gl X "isinstance" := by rfl)
    (he : starEach (a :: es) X.env = (false, eval a X.env) :: starEach es X.env := by rfl) (hpl : (backTo pos (starEach es X.env)).any (·.1) = false := by rfl) :
    PE X (.Call (.Name "isinstance" p) (a :: es) [] pos) (tCB (rIsi X.K) t) := pe_callB call_isi hg hm PyProof.Rows.boot_isinstance ha (he := he) (hpl := hpl)
theorem pe_ty (n : String) {x : Str} {p : Pos} (hm : X.mg x = none) (hv : bootBuiltins x = some (.type n) := by decide +kernel) (hg : Gl X x := by rfl) (h1 : x ≠ "__name__" := by decide) (h2 : (x == ("__debug__" : Str)) = false := by decide) : PE X (.Name x p) (tC (.ty n)) :=
  pe_bltn (v := .ty n) hg hm hv rfl h1 h2
theorem pe_len {a : Expr} {es : List Expr} {t : TA} {p pos : Pos} (hm : X.mg "len" = none) (ha : PA X (a :: es) t) (hg : Gl X "len" := by rfl) (he : starEach (a :: es) X.env = (false, eval a X.env) :: starEach es X.env := by rfl)
    (hpl : (backTo pos (starEach es X.env)).any (·.1) = false := by rfl) :
    PE X (.Call (.Name "len" p) (a :: es) [] pos) (tCB (fun xs H Q => ∃ p ys, xs = [.ref p] ∧ (SqL X.K H p ys ∨ SqT X.K H p ys) ∧ Q (.int ys.length) H) t) := pe_callB call_len_seq hg hm PySem.boot_len ha (he := he) (hpl := hpl)
theorem pa1 {a : Expr} {ta : TE} (ha : PE X a ta) (hs : starEach (a :: []) X.env = (false, eval a X.env) :: starEach [] X.env := by rfl) : PA X [a] (tCons ta tNil) := pa_cons ha pa_nil hs
end
theorem scWhole : FnScope ["value"] ["value"] (defScope sWhole) := ⟨rfl, rfl, rfl, by decide +kernel, rfl, by decide +kernel, by decide +kernel⟩
theorem ok_whole {f : Addr} {fd : FuncData} (F : Fun K "is_whole" "is_whole" sWhole f fd) (B : Bi mg) : FnOk P w K mg base CX0 1 f fd ["value"] spWhole := by
  refine F.ok scWhole (fun vs H Q E h => ?_) (fun cdv A outer s H vs Q E hr h => ?_)
  · obtain ⟨v, rfl, _⟩ := h
    rfl
  · obtain ⟨v, rfl, k, q⟩ := h
    refine ⟨_, pss_one (ps_ret (pe_and (pe_isi B.isi (pa_cons (pv 0) (pa_cons (pe_ty "int" B.int) pa_nil))) (pe_one (pe_not (pe_isi B.isi (pa_cons (pv 0) (pa_cons (pe_ty "bool" B.bool) pa_nil))))))), ?_⟩
    obtain ⟨t, ty, k1, k2, _⟩ := k.kinds K
    refine ⟨v, rfl, v, _, _, _, _, rfl, .ty "int", ty, k1, _, rfl, ?_⟩
    cases v with
    | bl b => exact ⟨_, rfl, _, _, _, _, _, rfl, .ty "bool", ty, k2, _, rfl, q⟩
    | int i => exact ⟨_, rfl, _, _, _, _, _, rfl, .ty "bool", ty, k2, _, rfl, q⟩
    | _ => exact q
theorem scBetween : FnScope ["value", "low", "high"] ["value", "low", "high"] (defScope sBetween) := ⟨rfl, rfl, rfl, by decide +kernel, rfl, by decide +kernel, by decide +kernel⟩
theorem ok_between {f : Addr} {fd : FuncData} (F : Fun K "is_between" "is_between" sBetween f fd) (cW : Cal CX0 P w K mg base 1 "is_whole" spWhole) : FnOk P w K mg base CX0 2 f fd ["value", "low", "high"] spBetween := by
  refine F.ok scBetween (fun vs H Q E h => ?_) (fun cdv A outer s H vs Q E hr h => ?_)
  · obtain ⟨v, lo, hi, rfl, _⟩ := h
    rfl
  · obtain ⟨v, lo, hi, rfl, k, q⟩ := h
    refine ⟨_, pss_one (ps_ret (pe_and (pe_c cW hr pass0 (pa_cons (pv 0) pa_nil)) (pe_one (pe_chain op_le op_le (pv 1) (pv 0) (pv 2))))), ?_⟩
    refine ⟨v, rfl, v, rfl, k, _, rfl, ?_⟩
    cases v with
    | int i =>
      refine ⟨_, rfl, _, rfl, _, _, rfl, rfl, _, rfl, ?_⟩
      by_cases c : lo ≤ i
      · rw [decide_eq_true c]
        refine ⟨_, rfl, _, _, rfl, rfl, ?_⟩
        have e : decide (i ≤ hi) = btw (.int i) lo hi := by
          show decide (i ≤ hi) = decide (lo ≤ i ∧ i ≤ hi)
          exact decide_eq_decide.mpr ⟨fun h => ⟨c, h⟩, fun h => h.2⟩
        show Q (.bl (decide (i ≤ hi))) H
        rw [e]
        exact q
      · rw [decide_eq_false c]
        have e : false = btw (.int i) lo hi := (decide_eq_false fun h => c h.1).symm
        show Q (.bl false) H
        rw [e]
        exact q
    | _ => exact q
theorem scTupOf : FnScope ["value", "size"] ["value", "size"] (defScope sTupOf) := ⟨rfl, rfl, rfl, by decide +kernel, rfl, by decide +kernel, by decide +kernel⟩
theorem ok_tupOf {f : Addr} {fd : FuncData} (F : Fun K "is_tuple_of" "is_tuple_of" sTupOf f fd) (B : Bi mg) : FnOk P w K mg base CX0 1 f fd ["value", "size"] spTupOf := by
  refine F.ok scTupOf (fun vs H Q E h => ?_) (fun cdv A outer s H vs Q E hr h => ?_)
  · obtain ⟨v, n, rfl, _⟩ := h
    rfl
  · obtain ⟨v, n, rfl, k, q⟩ := h
    refine ⟨_, pss_one (ps_ret (pe_and (pe_isi B.isi (pa_cons (pv 0) (pa_cons (pe_ty "tuple" B.tuple) pa_nil))) (pe_one (pe_cmpR op_eq (pe_len B.len (pa_cons (pv 0) pa_nil)) (pv 1) (nomark _))))), ?_⟩
    obtain ⟨t, ty, _, _, k3, _⟩ := k.kinds K
    refine ⟨v, rfl, v, _, _, _, _, rfl, .ty "tuple", ty, k3, _, rfl, ?_⟩
    cases k with
    | tup e =>
      rw [isT_tup e]
      refine ⟨_, rfl, _, _, rfl, .inr (SqT.of e), _, rfl, rfl, ?_⟩
      simp only [isTn, e] at q
      rw [dec_int]
      have e2 : ∀ i j : Int, (i == j) = decide (i = j) := fun i j => by rw [Bool.eq_iff_iff]; simp
      rw [e2]
      exact q
    | lst e =>
      rw [isT_lst e]
      simp only [isTn, e] at q
      exact q
    | _ => exact q
end
theorem Same.seqT {K : PySem.W.Frag} {H H' : Hp} {a : Addr} {xs : List V} (e : Same H H') (h : SqT K H a xs) : SqT K H' a xs := by
  rcases h with (h | ⟨o, h⟩) | h
  · exact .inl (.inl (e _ _ h))
  · exact .inl (.inr ⟨o, e _ _ h⟩)
  · exact .inr h
theorem same_new {H : Hp} {p : Addr} {o : HO} (n : H p = none) : Same H (upd H p o) := fun b u e => by
  rw [upd_ne (ne_of_none e n)]
  exact e
/-- a list or a tuple of these items -/
def Sq (K : PySem.W.Frag) (H : Hp) (a : Addr) (xs : List V) : Prop := SqL K H a xs ∨ SqT K H a xs
theorem Sq.same {K : PySem.W.Frag} {H H' : Hp} {a : Addr} {xs : List V} (q : Sq K H a xs) (e : Same H H') : Sq K H' a xs := q.imp (fun h => e.seq h) fun h => Same.seqT e h
section
variable {X : Cx} {tg e : Expr} {w1 w2 : TI}
/-- a list or a tuple, item by item -/
def iSqS (K : PySem.W.Frag) (te : TE) : TI := fun σ H R => te σ H fun x H1 => ∃ a xs, x = .ref a ∧ Sq K H1 a xs ∧ ∀ (J : It) (G : Hp → Prop), Walk J xs.length G (YAt xs) → (∀ H', Same H1 H' → G H') → R J H1
open PySem.Spec PyProof.Rows in
theorem pi_sq {te : TE} (he : PE X e te) : PI X tg e (iSqS X.K te) := by
  constructor
  intro pins s σ H R I h
  refine thn (he.run pins s σ H _ I h) fun u s1 hh => ?_
  obtain ⟨v, H1, I1, r1, a, xs, ev, sq, k⟩ := hh
  subst ev
  cases r1
  have near : ∀ b ∈ [s1.heap.objs.size], FpOk X pins H1 b := fun b hb => by
    rw [List.mem_singleton.mp hb]
    exact I1.fpOk (Nat.le_refl _) (I1.hok.fresh (Nat.le_refl _))
  have J1 : ∀ o : Obj, Inv X pins σ H1 { s1 with heap := s1.heap.push o } := fun o => I1.kept (t' := s1.toks) fun b u z => Heap.get?_push_of_some _ z
  rcases sq with hq | hq
  · obtain ⟨its, rv, p1, hz⟩ := I1.list hq
    exact wpAny_pyIter_list p1.isList ⟨s1.heap.objs.size, _, _, _, H1, rfl, J1 _, turn_list a _, ⟨_, Heap.get?_push_size _ rfl, rfl, rfl⟩, near, k _ _ walk_list fun H' z => z.seq hq⟩
  · obtain ⟨its, rv, p2, hz⟩ := I1.tuple hq
    exact wpAny_pyIter_tuple (show s1.heap.IsTuple a its.toArray from p2) ⟨s1.heap.objs.size, _, _, _, H1, rfl, J1 _, turn_tuple a _, ⟨_, Heap.get?_push_size _ rfl, rfl, rfl⟩, near, k _ _ walk_tup fun H' z => Same.seqT z hq⟩
end
/-! ### None or an int -/
def Num (v : V) : Prop := v = .non ∨ ∃ i, v = .int i
def dOf : V → PyData
  | .int i => .int i
  | .bl b => .bool b
  | .str x => .str x
  | _ => .none
theorem eqv_num {a b : V} (ha : Num a) (hb : Num b) : PyData.eqv (dOf a) (dOf b) = decide (a = b) := by
  rcases ha with rfl | ⟨i, rfl⟩ <;> rcases hb with rfl | ⟨j, rfl⟩
  · simp [dOf, PyData.eqv]
  · simp [dOf, PyData.eqv]
  · simp [dOf, PyData.eqv]
  · rw [dec_int]
    simp [dOf, PyData.eqv]
theorem eqvAll_num : ∀ {xs ys : List V}, (∀ v ∈ xs, Num v) → (∀ v ∈ ys, Num v) → PyData.eqvAll (xs.map dOf) (ys.map dOf) = decide (xs = ys)
  | [], [], _, _ => by simp [PyData.eqvAll]
  | [], _ :: _, _, _ => by simp [PyData.eqvAll]
  | _ :: _, [], _, _ => by simp [PyData.eqvAll]
  | x :: xs, y :: ys, hx, hy => by
    have ih := eqvAll_num (fun v m => hx v (List.mem_cons_of_mem _ m)) fun v m => hy v (List.mem_cons_of_mem _ m)
    have e : PyData.eqvAll ((x :: xs).map dOf) ((y :: ys).map dOf) = (PyData.eqv (dOf x) (dOf y) && PyData.eqvAll (xs.map dOf) (ys.map dOf)) := by simp only [List.map_cons, PyData.eqvAll]
    rw [e, ih, eqv_num (hx x List.mem_cons_self) (hy y List.mem_cons_self)]
    by_cases h1 : x = y
    · by_cases h2 : xs = ys
      · simp [h1, h2]
      · simp [h1, h2]
    · simp [h1]
theorem dp_num {K : PySem.W.Frag} {H : Hp} {v : V} (h : Num v) : Dp K H v (dOf v) := by
  rcases h with rfl | ⟨i, rfl⟩
  · exact .non
  · exact .int i
theorem dpAll_num {K : PySem.W.Frag} {H : Hp} : ∀ {xs : List V}, (∀ v ∈ xs, Num v) → DpAll K H xs (xs.map dOf)
  | [], _ => .nil
  | x :: xs, h => .cons (dp_num (h x List.mem_cons_self)) (dpAll_num fun v m => h v (List.mem_cons_of_mem _ m))
theorem lay_num : ∀ {xs : List V}, (∀ v ∈ xs, Num v) → PyData.canLayAll0 (xs.map dOf) = true
  | [], _ => by simp [PyData.canLayAll0]
  | x :: xs, h => by
    have ih := lay_num fun v m => h v (List.mem_cons_of_mem x m)
    rw [List.map_cons, PyData.canLayAll0, ih, Bool.and_true]
    rcases h x List.mem_cons_self with rfl | ⟨i, rfl⟩ <;> simp [dOf, PyData.canLay0]
theorem depth_num : ∀ {xs : List V}, (∀ v ∈ xs, Num v) → PyData.depthAll (xs.map dOf) ≤ 1
  | [], _ => by simp [PyData.depthAll]
  | x :: xs, h => by
    have ih := depth_num fun v m => h v (List.mem_cons_of_mem x m)
    simp only [List.map_cons, PyData.depthAll]
    rcases h x List.mem_cons_self with rfl | ⟨i, rfl⟩ <;> simp only [dOf, PyData.depth] <;> omega
theorem shL_num {xs : List V} (h : ∀ v ∈ xs, Num v) : SeqAt.shaped (.list (xs.map dOf)) = true := by
  have h1 := lay_num h
  have h2 := depth_num h
  show (PyData.canLay0 (.list (xs.map dOf)) && decide (PyData.depth (.list (xs.map dOf)) ≤ 64)) = true
  rw [Bool.and_eq_true]
  refine ⟨by simp only [PyData.canLay0]; exact h1, decide_eq_true ?_⟩
  simp only [PyData.depth]
  omega
theorem shT_num {xs : List V} (h : ∀ v ∈ xs, Num v) : SeqAt.shaped (.tuple (xs.map dOf)) = true := by
  have h1 := lay_num h
  have h2 := depth_num h
  show (PyData.canLay0 (.tuple (xs.map dOf)) && decide (PyData.depth (.tuple (xs.map dOf)) ≤ 64)) = true
  rw [Bool.and_eq_true]
  refine ⟨by simp only [PyData.canLay0]; exact h1, decide_eq_true ?_⟩
  simp only [PyData.depth]
  omega
/-- two lists, or two tuples, of None and ints -/
def rEqN (K : PySem.W.Frag) (neg : Bool) : R2 := fun x y H Q => ∃ a b xs ys, x = .ref a ∧ y = .ref b ∧ ((SqL K H a xs ∧ SqL K H b ys) ∨ (SqT K H a xs ∧ SqT K H b ys)) ∧ (∀ v ∈ xs, Num v) ∧ (∀ v ∈ ys, Num v) ∧ Q (.bl (if neg then !decide (xs = ys) else decide (xs = ys))) H
section
variable {X : Cx}
theorem op_eqN (hu : X.A.units + 64 < cLine) : OpR X (compareOp .Eq) (rEqN X.K false) := by
  intro pins s σ H x y v u Q I rx ry h
  obtain ⟨a, b, xs, ys, rfl, rfl, d, nx, ny, q⟩ := h
  rcases d with ⟨d1, d2⟩ | ⟨d1, d2⟩
  · refine op_eqD hu pins s σ H _ _ v u Q I rx ry ⟨.list (xs.map dOf), .list (ys.map dOf), .lst d1 (dpAll_num nx), .lst d2 (dpAll_num ny), shL_num nx, shL_num ny, ?_⟩
    rw [show PyData.eqv (.list (xs.map dOf)) (.list (ys.map dOf)) = decide (xs = ys) by rw [← eqvAll_num nx ny]; simp only [PyData.eqv]]
    exact q
  · refine op_eqD hu pins s σ H _ _ v u Q I rx ry ⟨.tuple (xs.map dOf), .tuple (ys.map dOf), .tup d1 (dpAll_num nx), .tup d2 (dpAll_num ny), shT_num nx, shT_num ny, ?_⟩
    rw [show PyData.eqv (.tuple (xs.map dOf)) (.tuple (ys.map dOf)) = decide (xs = ys) by rw [← eqvAll_num nx ny]; simp only [PyData.eqv]]
    exact q
theorem op_neN (hu : X.A.units + 64 < cLine) : OpR X (compareOp .NotEq) (rEqN X.K true) := by
  intro pins s σ H x y v u Q I rx ry h
  obtain ⟨a, b, xs, ys, rfl, rfl, d, nx, ny, q⟩ := h
  rcases d with ⟨d1, d2⟩ | ⟨d1, d2⟩
  · refine op_neD hu pins s σ H _ _ v u Q I rx ry ⟨.list (xs.map dOf), .list (ys.map dOf), .lst d1 (dpAll_num nx), .lst d2 (dpAll_num ny), shL_num nx, shL_num ny, ?_⟩
    rw [show PyData.eqv (.list (xs.map dOf)) (.list (ys.map dOf)) = decide (xs = ys) by rw [← eqvAll_num nx ny]; simp only [PyData.eqv]]
    exact q
  · refine op_neD hu pins s σ H _ _ v u Q I rx ry ⟨.tuple (xs.map dOf), .tuple (ys.map dOf), .tup d1 (dpAll_num nx), .tup d2 (dpAll_num ny), shT_num nx, shT_num ny, ?_⟩
    rw [show PyData.eqv (.tuple (xs.map dOf)) (.tuple (ys.map dOf)) = decide (xs = ys) by rw [← eqvAll_num nx ny]; simp only [PyData.eqv]]
    exact q
/-- x == y, x an instance of the class at C with an own __eq__ -/
def rOwnEq (K : PySem.W.Frag) (C : Addr) (sp : Sp) : R2 := fun x y H Q => ∃ a dx fs tb, x = .ref a ∧ H a = some (.ins C dx fs) ∧ TyX K H y tb ∧ PySem.W.notFirst K C tb = true ∧ sp [x, y] H (fun v H' => (∃ b, v = .bl b) ∧ Q v H') E0
theorem op_ownEq {CX : CXT} {n j : Nat} {C f : Addr} {fd : FuncData} {ps : List Str} {sp : Sp} (F : FnOk X.prog X.w X.K X.mg X.base CX n f fd ps sp) (hs : PySem.W.findIn X.K (.ref C) "__eq__" = some (some (.ref f))) (hf : PySem.W.isFn X.K (.ref f) = true) (hb : Binds X.K fd ps [])
    (hx : Passes CX X E0) (hr : Room j X.A) (hj : n ≤ j) : OpR X (compareOp .Eq) (rOwnEq X.K C sp) := by
  intro pins s σ H x y v u Q I rx ry h
  obtain ⟨a, dx, fs, tb, rfl, ha, ty, nf, h⟩ := h
  have hr := hr.mono hj
  cases (show v = Value.ref a from rx)
  obtain ⟨mA, J, _⟩ := ins_get I.hok ha
  obtain ⟨od, J, _⟩ := J.look
  obtain ⟨Pz, Z, p, _⟩ := kit_of I ry ty
  obtain ⟨m, hF⟩ := I.fr
  show wpAny (model X.prog X.w) X.A (richCompare .Eq (.ref a) u) (EP X pins σ Q) X.xe s
  have hu : X.A.units < cLine := by have := hr.un; omega
  refine PySem.W.cmp_K (op := .Eq) (tb := tb) hu hF I.ok.mod.kin J (Z.ty _ _ I.kIn p) nf hs hf ?_
  have hl := F.len _ _ _ _ h
  have r2 : Vals [V.ref a, y] [Value.ref a, u] := .cons rfl (.cons ry .nil)
  refine wpAny_call (codeAny_mono (F.run X.A X.stack s H ⟨[.ref a, u], []⟩ [.ref a, u] [.ref a, y] _ E0 hr I.env0 (by
    have := hb s [.ref a, u] I.kIn (by simpa using hl)
    simpa using this) r2 h) fun r s' hq => ?_)
  cases r with
  | error e => exact hx pins σ H s e s' I hq
  | ok fl =>
    cases fl with
    | ret w =>
      obtain ⟨z, H', I', rz, ⟨b, ez⟩, q⟩ := I.after hq
      subst ez
      cases rz
      exact ⟨.bl b, H', I', rfl, q⟩
    | next => exact False.elim hq
    | brk => exact False.elim hq
    | cont => exact False.elim hq
end
theorem kit_self {K : PySem.W.Frag} {C : Addr} : PySem.W.kitOne K (.ref C) (.ref C) = some true := by
  unfold PySem.W.kitOne
  rw [if_pos (by simp)]

theorem hu64 {A : Around} {k : Nat} (hr : Room k A) : A.units + 64 < cLine := by have := hr.un; omega
theorem hu65 {A : Around} {k : Nat} (hr : Room k A) : A.units + 65 < cLine := by have := hr.un; omega
theorem small2000 {n : Nat} (h : n ≤ 2100) : n < sizeLine := Nat.lt_of_le_of_lt h (by decide)
theorem small10 {n : Nat} (h : n ≤ 10000) : n < sizeLine := Nat.lt_of_le_of_lt h (by decide)
theorem num_kn {H : Hp} {v : V} (h : Num v) : Kn H v := by
  rcases h with rfl | ⟨i, rfl⟩
  · exact .non
  · exact .int i

section
variable {X : Cx} (K : PySem.W.Frag)
theorem pe_fldK (hK : X.K = K) {e : Expr} {ta : TE} {f : Str} {pos : Pos} (he : PE X e ta) (hb : attributeBase e f X.env (eval e X.env) = eval e X.env := by rfl) : PE X (.Attribute e f pos) (tFld K ta f) := by
  subst hK
  exact pe_fld he hb
theorem ix_tupK (hK : X.K = K) : IxR X (rIxT K) := by
  subst hK
  exact ix_tup
theorem ix_listK (hK : X.K = K) : IxR X (rIxL K) := by
  subst hK
  exact ix_list
end

theorem paired_last {α β : Type} {F : α → β → Prop} : ∀ {ts : List α} {ps : List β} {p : β}, Paired F ts (ps ++ [p]) → ∃ us v, ts = us ++ [v] ∧ Paired F us ps ∧ F v p
  | _, [], _, .cons h .nil => ⟨[], _, rfl, .nil, h⟩
  | _, _ :: _, _, .cons h t =>
    let ⟨us, v, e, q1, q2⟩ := paired_last t
    ⟨_ :: us, v, by rw [e]; rfl, .cons h q1, q2⟩
section
variable {X : Cx} {tg e : Expr}
/-- a list or a tuple, item by item; it stays where its own object does -/
def iSqA (K : PySem.W.Frag) (te : TE) : TI := fun σ H R => te σ H fun x H1 => ∃ a xs, x = .ref a ∧ Sq K H1 a xs ∧ ∀ (J : It) (G : Hp → Prop), Walk J xs.length G (YAt xs) → (∀ H', (∀ o, H1 a = some o → H' a = some o) → G H') → R J H1
theorem sqL_at {K : PySem.W.Frag} {H H' : Hp} {a : Addr} {xs : List V} (h : SqL K H a xs) (e : ∀ o, H a = some o → H' a = some o) : SqL K H' a xs := by
  rcases h with (h | ⟨o, h⟩) | h
  · exact .inl (.inl (e _ h))
  · exact .inl (.inr ⟨o, e _ h⟩)
  · exact .inr h
theorem sqT_at {K : PySem.W.Frag} {H H' : Hp} {a : Addr} {xs : List V} (h : SqT K H a xs) (e : ∀ o, H a = some o → H' a = some o) : SqT K H' a xs := by
  rcases h with (h | ⟨o, h⟩) | h
  · exact .inl (.inl (e _ h))
  · exact .inl (.inr ⟨o, e _ h⟩)
  · exact .inr h
open PySem.Spec PyProof.Rows in
theorem pi_sqA {te : TE} (he : PE X e te) : PI X tg e (iSqA X.K te) := by
  constructor
  intro pins s σ H R I h
  refine thn (he.run pins s σ H _ I h) fun u s1 hh => ?_
  obtain ⟨v, H1, I1, r1, a, xs, ev, sq, k⟩ := hh
  subst ev
  cases r1
  have near : ∀ b ∈ [s1.heap.objs.size], FpOk X pins H1 b := fun b hb => by
    rw [List.mem_singleton.mp hb]
    exact I1.fpOk (Nat.le_refl _) (I1.hok.fresh (Nat.le_refl _))
  have J1 : ∀ o : Obj, Inv X pins σ H1 { s1 with heap := s1.heap.push o } := fun o => I1.kept (t' := s1.toks) fun b u z => Heap.get?_push_of_some _ z
  rcases sq with hq | hq
  · obtain ⟨its, rv, p1, hz⟩ := I1.list hq
    exact wpAny_pyIter_list p1.isList ⟨s1.heap.objs.size, _, _, _, H1, rfl, J1 _, turn_list a _, ⟨_, Heap.get?_push_size _ rfl, rfl, rfl⟩, near, k _ _ walk_list fun H' z => sqL_at hq z⟩
  · obtain ⟨its, rv, p2, hz⟩ := I1.tuple hq
    exact wpAny_pyIter_tuple (show s1.heap.IsTuple a its.toArray from p2) ⟨s1.heap.objs.size, _, _, _, H1, rfl, J1 _, turn_tuple a _, ⟨_, Heap.get?_push_size _ rfl, rfl, rfl⟩, near, k _ _ walk_tup fun H' z => sqT_at hq z⟩
end

/-! ### the law's pen -/
def penK (cl : Addr) (k left : Int) : List (Key × V) := [(.inr "cells", .ref cl), (.inr "opened", .int k), (.inr "left", .int left)]
theorem valV_eq {k : Key} {v : V} {r : List (Key × V)} : valV ((k, v) :: r) k = some v := by
  unfold valV
  rw [List.find?_cons_of_pos (by simp)]
  rfl
theorem valV_ne {k j : Key} {v : V} {r : List (Key × V)} (h : ¬ j = k) : valV ((j, v) :: r) k = valV r k := by
  unfold valV
  rw [List.find?_cons_of_neg (by simpa using h)]
theorem k12 : ¬ (Sum.inr ("cells" : Str) : Key) = Sum.inr ("opened" : Str) := by decide +kernel
theorem k13 : ¬ (Sum.inr ("cells" : Str) : Key) = Sum.inr ("left" : Str) := by decide +kernel
theorem k23 : ¬ (Sum.inr ("opened" : Str) : Key) = Sum.inr ("left" : Str) := by decide +kernel
theorem k32 : ¬ (Sum.inr ("left" : Str) : Key) = Sum.inr ("opened" : Str) := by decide +kernel
theorem pen_cells (cl : Addr) (k l : Int) : valV (penK cl k l) (.inr "cells") = some (.ref cl) := valV_eq
theorem pen_opened (cl : Addr) (k l : Int) : valV (penK cl k l) (.inr "opened") = some (.int k) := (valV_ne k12).trans valV_eq
theorem pen_left (cl : Addr) (k l : Int) : valV (penK cl k l) (.inr "left") = some (.int l) := (valV_ne k13).trans ((valV_ne k23).trans valV_eq)
theorem put_opened (cl : Addr) (k l j : Int) : putK (penK cl k l) (.inr "opened") (.int j) = penK cl j l := by
  unfold putK penK
  rw [if_pos (by simp)]
  simp only [List.map_cons, List.map_nil, k12, k32, if_false, if_true]
theorem put_left (cl : Addr) (k l j : Int) : putK (penK cl k l) (.inr "left") (.int j) = penK cl k j := by
  unfold putK penK
  rw [if_pos (by simp)]
  simp only [List.map_cons, List.map_nil, k13, k23, if_false, if_true]
/-- at pn: the pen, at most b cells opened -/
def Pen (H : Hp) (pn cl : Addr) (b : Nat) : Prop := ∃ (k : Nat) (l : Int) (cs : List Int), H pn = some (.dK (penK cl (k : Nat) l)) ∧ H cl = some (.lst (cs.map V.int)) ∧ k ≤ b ∧ cs.length ≤ 63
/-- all but what is at pn is as it was -/
def But (pn : Addr) (H H' : Hp) : Prop := ∀ b o, b ≠ pn → H b = some o → H' b = some o
theorem But.refl {pn : Addr} {H : Hp} : But pn H H := fun _ _ _ h => h
theorem But.trans {pn : Addr} {H H1 H2 : Hp} (a : But pn H H1) (b : But pn H1 H2) : But pn H H2 := fun c o n h => b c o n (a c o n h)
def spDraw : Sp := fun vs H Q _ => ∃ (pn cl : Addr) (m : Int) (b : Nat), vs = [.ref pn, .int m] ∧ Pen H pn cl b ∧ b ≤ 1000000 ∧ 0 < m ∧ m < 1073741824 ∧ ∀ (r : Int) H', 0 ≤ r → r < m → But pn H H' → Pen H' pn cl (b + 1) → Q (.int r) H'
def spPen (K : PySem.W.Frag) : Sp := fun vs H Q _ => ∃ (a : Addr) (ns : List Int), vs = [.ref a] ∧ SqL K H a (ns.map V.int) ∧ ∀ pn cl H', H pn = none → H cl = none → Same H H' → Pen H' pn cl 0 → Q (.ref pn) H'
section
variable {P : Program} {w : World} {K : PySem.W.Frag} {mg : Str → Option Value} {base : Heap}
theorem scPen : FnScope ["_law_script"] ["_law_script"] (defScope sPen) := ⟨rfl, rfl, rfl, by decide +kernel, rfl, by decide +kernel, by decide +kernel⟩
theorem ok_pen {f : Addr} {fd : FuncData} (F : Fun K "_law_pen" "_law_pen" sPen f fd) (B : Bi mg) : FnOk P w K mg base CX0 1 f fd ["_law_script"] (spPen K) := by
  refine F.ok scPen (fun vs H Q E h => ?_) (fun cdv A outer s H vs Q E hr h => ?_)
  · obtain ⟨a, ns, rfl, _⟩ := h
    rfl
  · obtain ⟨a, ns, rfl, hs, q⟩ := h
    refine ⟨_, pss_one (ps_ret (pe_disp (pps_cons pe_str (pe_callTy call_list_of rfl B.list (by decide +kernel) (pa_cons (pe_slice sl_list (pv 0) po_none (po_some pe_int)) pa_nil)) (pps_cons pe_str pe_int (pps_cons pe_str pe_int pps_nil))) rfl rfl (by simp) (by decide))), ?_⟩
    intro p np
    have hs2 := (same_new (o := .dK []) np).seq hs
    refine ⟨_, rfl, 63, rfl, a, _, rfl, hs2, fun c nc => ⟨c, _, rfl, .inl (SqL.of upd_same), fun l nl => ?_⟩⟩
    have npl : p ≠ l := ne_of_none ((upd_ne (ne_of_none upd_same nc)).trans upd_same) nl
    have npc : p ≠ c := ne_of_none upd_same nc
    have ec : cutV (ns.map V.int) none (some 63) = (ns.take 63).map V.int := by
      unfold cutV
      rw [show ((63 : Int)) = ((63 : Nat) : Int) from rfl, HT.sIx_nat, HT.sIx_none, List.drop_zero, Nat.sub_zero, List.length_map, ← List.map_take]
      congr 1
      by_cases c : 63 ≤ ns.length
      · rw [Nat.min_eq_left c]
      · rw [Nat.min_eq_right (by omega), List.take_of_length_le (Nat.le_refl _), List.take_of_length_le (by omega)]
    refine ⟨(upd_ne npl).trans ((upd_ne npc).trans upd_same), [(.inr "cells", .ref l), (.inr "opened", .int 0), (.inr "left", .int 0)], rfl, (by show 3 ≤ 15; decide), ?_⟩
    have em : mergeK [] [((.inr ("cells" : Str) : Key), V.ref l), (.inr ("opened" : Str), .int 0), (.inr ("left" : Str), .int 0)] = penK l ((0 : Nat) : Int) 0 := by
      unfold mergeK penK
      simp only [List.foldl_cons, List.foldl_nil]
      have h1 : valV ([(.inr ("cells" : Str), V.ref l)] : List (Key × V)) (.inr ("opened" : Str)) = none := (valV_ne k12).trans rfl
      have h2 : valV ([(.inr ("cells" : Str), V.ref l), (.inr ("opened" : Str), V.int 0)] : List (Key × V)) (.inr ("left" : Str)) = none := (valV_ne k13).trans ((valV_ne k23).trans rfl)
      rw [show putK ([] : List (Key × V)) (.inr ("cells" : Str)) (.ref l) = [(.inr ("cells" : Str), .ref l)] from rfl, putK_new _ h1]
      simp only [List.cons_append, List.nil_append]
      rw [putK_new _ h2]
      rfl
    rw [em]
    have nl0 : H l = none := by
      cases z : H l with
      | none => rfl
      | some o =>
        have z1 : upd H p (.dK []) l = some o := (upd_ne (ne_of_none z np)).trans z
        rw [(upd_ne (ne_of_none z1 nc)).trans z1] at nl
        cases nl
    refine q p l _ np nl0 (fun b o z => ?_) ⟨0, 0, ns.take 63, upd_same, ?_, Nat.le_refl _, by rw [List.length_take]; omega⟩
    · have nb : b ≠ p := ne_of_none z np
      have z1 : upd H p (.dK []) b = some o := (upd_ne nb).trans z
      have nc2 : b ≠ c := ne_of_none z1 nc
      have z2 : upd (upd H p (.dK [])) c (.lst (cutV (ns.map V.int) none (some 63))) b = some o := (upd_ne nc2).trans z1
      rw [upd_ne nb, upd_ne (ne_of_none z2 nl)]
      exact z2
    · rw [upd_ne (Ne.symm npl), upd_same, ec]
theorem getL {H : Hp} {pn cl : Addr} {k l : Int} (hp : H pn = some (.dK (penK cl k l))) : DGet H pn (.str "left") (some (.int l)) := by
  have z := DGet.k (k := .inr ("left" : Str)) hp
  rw [pen_left] at z
  exact z
theorem getO {H : Hp} {pn cl : Addr} {k l : Int} (hp : H pn = some (.dK (penK cl k l))) : DGet H pn (.str "opened") (some (.int k)) := by
  have z := DGet.k (k := .inr ("opened" : Str)) hp
  rw [pen_opened] at z
  exact z
theorem getC {H : Hp} {pn cl : Addr} {k l : Int} (hp : H pn = some (.dK (penK cl k l))) : DGet H pn (.str "cells") (some (.ref cl)) := by
  have z := DGet.k (k := .inr ("cells" : Str)) hp
  rw [pen_cells] at z
  exact z
theorem putL {H : Hp} {pn cl : Addr} {k l : Int} (j : Int) (hp : H pn = some (.dK (penK cl k l))) : DPut H pn (.str "left") (.int j) (upd H pn (.dK (penK cl k j))) := by
  have z := DPut.k (k := .inr ("left" : Str)) (v := .int j) hp (by show 3 < sizeLine; decide)
  rw [put_left] at z
  exact z
theorem putO' {H : Hp} {pn cl : Addr} {k l : Int} (j : Int) (hp : H pn = some (.dK (penK cl k l))) : DPut H pn (.str "opened") (.int j) (upd H pn (.dK (penK cl j l))) := by
  have z := DPut.k (k := .inr ("opened" : Str)) (v := .int j) hp (by show 3 < sizeLine; decide)
  rw [put_opened] at z
  exact z
theorem scDraw : FnScope ["_law_pen_here", "_law_many", "_law_digit", "_law_k", "_law_told_cells", "_law_cell", "_law_mix"] ["_law_pen_here", "_law_many"] (defScope sDraw) := ⟨rfl, rfl, rfl, by decide +kernel, rfl, by decide +kernel, by decide +kernel⟩
theorem mix_lt (x : Int) {m : Int} (h : 0 < m) : 0 ≤ x % m ∧ x % m < m := ⟨Int.emod_nonneg _ (by omega), Int.emod_lt_of_pos _ h⟩
section
variable {X : Cx}
theorem pe_int1 {a : Expr} {es : List Expr} {t : TA} {p pos : Pos} (hm : X.mg "int" = none) (ha : PA X (a :: es) t) (hg : Gl X "int" := by rfl) (he : starEach (a :: es) X.env = (false, eval a X.env) :: starEach es X.env := by rfl)
    (hpl : (backTo pos (starEach es X.env)).any (·.1) = false := by rfl) : PE X (.Call (.Name "int" p) (a :: es) [] pos) (tCB (fun xs H Q => (∃ i, xs = [.int i] ∧ Q (.int i) H) ∨ ∃ k, xs = [.bl k] ∧ Q (.int (if k then 1 else 0)) H) t) :=
  pe_callTy call_int1 hg hm (by decide +kernel) ha (he := he) (hpl := hpl)
theorem pe_abs {a : Expr} {es : List Expr} {t : TA} {p pos : Pos} (hm : X.mg "abs" = none) (ha : PA X (a :: es) t) (hg : Gl X "abs" := by rfl) (he : starEach (a :: es) X.env = (false, eval a X.env) :: starEach es X.env := by rfl)
    (hpl : (backTo pos (starEach es X.env)).any (·.1) = false := by rfl) : PE X (.Call (.Name "abs" p) (a :: es) [] pos) (tCB (fun xs H Q => ∃ i, xs = [.int i] ∧ Q (.int (if i < 0 then -i else i)) H) t) :=
  pe_callB call_abs hg hm (by decide +kernel) ha (he := he) (hpl := hpl)
end
theorem ok_draw {f : Addr} {fd : FuncData} (F : Fun K "_law_draw" "_law_draw" sDraw f fd) (B : Bi mg) : FnOk P w K mg base CX0 1 f fd ["_law_pen_here", "_law_many"] spDraw := by
  refine F.ok scDraw (fun vs H Q E h => ?_) (fun cdv A outer s H vs Q E hr h => ?_)
  · obtain ⟨pn, cl, m, b, rfl, _⟩ := h
    rfl
  · obtain ⟨pn, cl, m, b, rfl, ⟨k, l, cs, hp, hc, hk, lc⟩, hb, m0, m1, q⟩ := h
    refine ⟨_, pss_cons (ps_if (pt_cmpR op_gt (pe_dget (hu_of hr) (pv 0) pe_str (fun _ _ => rfl)) pe_int (nomark _))
        (pss_cons (ps_set (i := 2) scDraw.nd rfl (Or.inl rfl) (pe_op op_mod (pe_int1 B.int (pa_cons (pe_dget (hu_of hr) (pv 0) pe_str (fun _ _ => rfl)) pa_nil)) (pv 1)))
        (pss_cons (ps_dput (hu_of hr) (pv 0) pe_str (pe_op op_fdiv (pe_dget (hu_of hr) (pv 0) pe_str (fun _ _ => rfl)) (pv 1)) rfl) (pss_one (ps_ret (pv 2))))) pss_nil)
      (pss_cons (ps_par (i := 3) (j := 4) rfl scDraw.nd rfl rfl (by decide) rfl rfl (pa_cons (pe_dget (hu_of hr) (pv 0) pe_str (fun _ _ => rfl)) (pa_cons (pe_dget (hu_of hr) (pv 0) pe_str (fun _ _ => rfl)) pa_nil)) rfl)
      (pss_cons (ps_dput (hu_of hr) (pv 0) pe_str (pe_op op_add (pv 3) pe_int) rfl)
      (pss_cons (ps_if (pt_cmpR (op_eqN (hu64 hr)) (pv 4) (pe_lst pa_nil) (nomark _)) (pss_one (ps_ret (pe_op op_mod (pe_int1 B.int (pa_cons (pe_op op_add (pe_op op_mul pe_int (pv 3)) pe_int) pa_nil)) (pv 1)))) pss_nil)
      (pss_cons (ps_set (i := 5) scDraw.nd rfl (Or.inl rfl) (pe_ix ix_list (pv 4) (pe_op op_mod (pe_int1 B.int (pa_cons (pv 3) pa_nil)) (pe_len B.len (pa_cons (pv 4) pa_nil))) (fun _ _ => rfl)))
      (pss_cons (ps_if (PW.pt (pw_and (pt_cmpR op_lt (pv 3) (pe_len B.len (pa_cons (pv 4) pa_nil)) (nomark _)) (pw_and1 (pt_cmpR op_ge (pe_abs B.abs (pa_cons (pv 5) pa_nil)) (pe_op op_pow pe_int pe_int) (nomark _)))))
        (pss_cons (ps_dput (hu_of hr) (pv 0) pe_str (pe_op op_fdiv (pe_op op_sub (pe_abs B.abs (pa_cons (pv 5) pa_nil)) (pe_op op_pow pe_int pe_int)) (pv 1)) rfl)
        (pss_one (ps_ret (pe_op op_mod (pe_int1 B.int (pa_cons (pe_op op_sub (pe_abs B.abs (pa_cons (pv 5) pa_nil)) (pe_op op_pow pe_int pe_int)) pa_nil)) (pv 1))))) pss_nil)
      (pss_cons (ps_set (i := 6) scDraw.nd rfl (Or.inl rfl) (pe_op op_mod (pe_int1 B.int (pa_cons (pe_op op_add (pe_op op_add (pe_op op_add (pe_op op_mul (pe_op op_mod (pe_int1 B.int (pa_cons (pv 5) pa_nil)) pe_int) pe_int) (pe_op op_mul (pe_op op_mul pe_int (pv 3)) (pv 3))) (pe_op op_mul pe_int (pv 3))) pe_int) pa_nil)) pe_int))
      (pss_cons (ps_set (i := 6) scDraw.nd rfl (Or.inl rfl) (pe_op op_mod (pe_int1 B.int (pa_cons (pe_op op_add (pe_op op_add (pe_op op_mul (pv 6) (pv 6)) (pe_op op_mul pe_int (pv 6))) (pe_op op_mul pe_int (pv 3))) pa_nil)) pe_int))
      (pss_one (ps_ret (pe_op op_mod (pe_int1 B.int (pa_cons (pe_op op_fdiv (pe_op op_mod (pe_int1 B.int (pa_cons (pe_op op_mul (pv 6) (pe_op op_add (pv 6) pe_int)) pa_nil)) pe_int) pe_int) pa_nil)) (pv 1))))))))))), ?_⟩
    have ncp : cl ≠ pn := ne_of hc hp (fun z => by cases z)
    refine ⟨_, rfl, pn, _, rfl, getL hp, _, _, rfl, rfl, _, rfl, ?_⟩
    refine ite2 (fun _ => ?_) fun _ => ?_
    · refine ⟨_, rfl, pn, _, rfl, getL hp, .inl ⟨_, rfl, _, rfl, _, _, rfl, rfl, m0, ?_⟩⟩
      refine ⟨_, rfl, pn, _, rfl, getL hp, _, rfl, _, _, rfl, rfl, ⟨m0, m1⟩, _, rfl, pn, _, rfl, putL _ hp, ?_⟩
      exact ⟨_, rfl, q _ _ (mix_lt _ m0).1 (mix_lt _ m0).2 (fun c o n z => (upd_ne n).trans z) ⟨k, _, cs, upd_same, (upd_ne ncp).trans hc, Nat.le_succ_of_le hk, lc⟩⟩
    · refine ⟨_, rfl, pn, _, rfl, getO hp, _, rfl, pn, _, rfl, getC hp, _, _, rfl, ?_⟩
      refine ⟨_, rfl, _, _, rfl, rfl, _, rfl, pn, _, rfl, putO' _ hp, ?_⟩
      have ek : ((k : Nat) : Int) + 1 = ((k + 1 : Nat) : Int) := by omega
      rw [ek]
      generalize eH2 : upd H pn (.dK (penK cl ((k + 1 : Nat) : Int) l)) = H2
      have hp2 : H2 pn = some (.dK (penK cl ((k + 1 : Nat) : Int) l)) := by rw [← eH2]; exact upd_same
      have hc2 : H2 cl = some (.lst (cs.map V.int)) := by rw [← eH2]; exact (upd_ne ncp).trans hc
      have e2 : But pn H H2 := fun c o n z => by rw [← eH2]; exact (upd_ne n).trans z
      refine ⟨_, rfl, Nat.zero_le _, fun e ne => ?_⟩
      have hp3 : upd H2 e (.lst []) pn = some (.dK (penK cl ((k + 1 : Nat) : Int) l)) := (upd_ne (ne_of_none hp2 ne)).trans hp2
      have hc3 : upd H2 e (.lst []) cl = some (.lst (cs.map V.int)) := (upd_ne (ne_of_none hc2 ne)).trans hc2
      have e3 : But pn H (upd H2 e (.lst [])) := fun c o n z => (upd_ne (ne_of_none (e2 c o n z) ne)).trans (e2 c o n z)
      have he3 : upd H2 e (.lst []) e = some (.lst []) := upd_same
      generalize upd H2 e (.lst []) = H3 at hp3 hc3 e3 he3
      have fin : ∀ (r : Int) (H4 : Hp) (l2 : Int), 0 ≤ r → r < m → H4 = H3 ∨ H4 = upd H3 pn (.dK (penK cl ((k + 1 : Nat) : Int) l2)) → Q (.int r) H4 := fun r H4 l2 r0 r1 e4 => by
        rcases e4 with rfl | rfl
        · exact q r _ r0 r1 e3 ⟨k + 1, l, cs, hp3, hc3, Nat.succ_le_succ hk, lc⟩
        · exact q r _ r0 r1 (fun c o n z => (upd_ne n).trans (e3 c o n z)) ⟨k + 1, l2, cs, upd_same, (upd_ne ncp).trans hc3, Nat.succ_le_succ hk, lc⟩
      have num : ∀ v ∈ cs.map V.int, Num v := fun v hv => by
        obtain ⟨i, _, rfl⟩ := List.mem_map.mp hv
        exact .inr ⟨i, rfl⟩
      refine ⟨cl, e, _, [], rfl, rfl, .inl ⟨SqL.of hc3, SqL.of he3⟩, num, (fun v hv => absurd hv (by simp)), _, rfl, ?_⟩
      refine ite2 (fun c => ?_) fun c => ?_
      · refine ⟨_, rfl, _, _, rfl, rfl, .inl ⟨by decide, by decide⟩, ?_⟩
        refine ⟨_, _, rfl, rfl, .inl ⟨_, rfl, _, rfl, _, _, rfl, rfl, m0, ?_⟩⟩
        exact fin _ _ 0 (mix_lt _ m0).1 (mix_lt _ m0).2 (.inl rfl)
      have cne : cs ≠ [] := fun z => by
        rw [z] at c
        exact c (by decide)
      have lpos : 0 < cs.length := List.length_pos_iff.mpr cne
      refine ⟨_, rfl, _, rfl, .inl ⟨_, rfl, _, rfl, cl, _, rfl, .inl (SqL.of hc3), _, _, rfl, rfl, (by rw [List.length_map]; omega), cl, _, _, .int (cs[k % cs.length]'(Nat.mod_lt _ lpos)), rfl, rfl, SqL.of hc3, ?_, ?_⟩⟩
      · rw [List.length_map]
        have em : ((k : Nat) : Int) % ((cs.length : Nat) : Int) = ((k % cs.length : Nat) : Int) := by omega
        rw [em]
        refine atI_nat ?_
        rw [List.getElem?_map, List.getElem?_eq_getElem (Nat.mod_lt _ lpos)]
        rfl
      generalize cs[k % cs.length]'(Nat.mod_lt _ lpos) = cell
      refine ⟨_, rfl, _, rfl, cl, _, rfl, .inl (SqL.of hc3), _, _, rfl, rfl, _, rfl, ?_⟩
      refine ite2 (fun _ => ?_) fun _ => iteF ?_
      refine ⟨_, rfl, _, rfl, _, _, rfl, rfl, ⟨by decide, by decide, by decide⟩, _, _, rfl, rfl, _, rfl, ?_⟩
      refine ite2 (fun _ => ?_) fun _ => ?_
      refine ⟨_, rfl, _, rfl, _, _, rfl, rfl, ⟨by decide, by decide, by decide⟩, _, _, rfl, rfl, _, rfl, _, _, rfl, rfl, ⟨m0, m1⟩, _, rfl, pn, _, rfl, putL _ hp3, ?_⟩
      refine ⟨_, rfl, _, rfl, _, _, rfl, rfl, ⟨by decide, by decide, by decide⟩, _, _, rfl, rfl, .inl ⟨_, rfl, _, rfl, _, _, rfl, rfl, m0, ?_⟩⟩
      exact fin _ _ _ (mix_lt _ m0).1 (mix_lt _ m0).2 (.inr rfl)
      all_goals
        refine ⟨_, rfl, .inl ⟨_, rfl, _, _, rfl, rfl, (by show (0 : Int) < _; decide), _, _, rfl, rfl, .inr ⟨by decide, by decide⟩, ?_⟩⟩
        refine ⟨_, rfl, _, _, rfl, rfl, .inl ⟨by decide, by decide⟩, _, rfl, _, _, rfl, rfl, .inr ⟨by omega, by omega⟩, _, _, rfl, rfl, ?_⟩
        refine ⟨_, rfl, _, _, rfl, rfl, .inl ⟨by decide, by decide⟩, _, _, rfl, rfl, _, _, rfl, rfl, .inl ⟨_, rfl, _, _, rfl, rfl, (by show (0 : Int) < _; decide), ?_⟩⟩
        generalize emx : (cell % 4294965361 * 41903 + 27011 * ((k : Nat) : Int) * ((k : Nat) : Int) + 853 * ((k : Nat) : Int) + 71) % 4294965383 = mx
        have b1 : 0 ≤ mx ∧ mx < 4294965383 := by rw [← emx]; exact mix_lt _ (by decide)
        refine ⟨_, rfl, _, rfl, _, _, rfl, rfl, .inl ⟨by omega, by omega⟩, ?_⟩
        refine ⟨_, rfl, _, _, rfl, rfl, .inl ⟨by decide, by decide⟩, _, _, rfl, rfl, _, rfl, _, _, rfl, rfl, .inl ⟨by decide, by decide⟩, _, _, rfl, rfl, .inl ⟨_, rfl, _, _, rfl, rfl, (by show (0 : Int) < _; decide), ?_⟩⟩
        generalize emy : (mx * mx + 40213 * mx + 37 * ((k : Nat) : Int)) % 4294965337 = my
        have b2 : 0 ≤ my ∧ my < 4294965337 := by rw [← emy]; exact mix_lt _ (by decide)
        refine ⟨_, rfl, _, rfl, _, _, rfl, rfl, _, _, rfl, rfl, .inl ⟨by omega, by omega⟩, .inl ⟨_, rfl, _, _, rfl, rfl, (by show (0 : Int) < _; decide), _, _, rfl, rfl, ⟨by decide, by decide⟩, .inl ⟨_, rfl, _, rfl, _, _, rfl, rfl, m0, ?_⟩⟩⟩
        exact fin _ _ 0 (mix_lt _ m0).1 (mix_lt _ m0).2 (.inl rfl)
end
def spPick : Sp := fun vs H Q _ => ∃ (pn cl s : Addr) (xs : List V) (b : Nat), vs = [.ref pn, .ref s] ∧ Pen H pn cl b ∧ b ≤ 1000000 ∧ H s = some (.lst xs) ∧ 0 < xs.length ∧ xs.length ≤ 1000 ∧ ∀ x H', x ∈ xs → But pn H H' → Pen H' pn cl (b + 1) → Q x H'
theorem Pen.mono {H : Hp} {pn cl : Addr} {b c : Nat} (h : Pen H pn cl b) (e : b ≤ c) : Pen H pn cl c := let ⟨k, l, cs, h1, h2, h3, h4⟩ := h; ⟨k, l, cs, h1, h2, Nat.le_trans h3 e, h4⟩
theorem Pen.same {H H' : Hp} {pn cl : Addr} {b : Nat} (h : Pen H pn cl b) (e : Same H H') : Pen H' pn cl b := let ⟨k, l, cs, h1, h2, h3, h4⟩ := h; ⟨k, l, cs, e _ _ h1, e _ _ h2, h3, h4⟩
theorem Pen.ne {H : Hp} {pn cl a : Addr} {b : Nat} {o : HO} (h : Pen H pn cl b) (ha : H a = some o) (d : ∀ kvs, o ≠ .dK kvs) : a ≠ pn := let ⟨_, _, _, h1, _⟩ := h; ne_of ha h1 (d _)
/-- the pen stays where another object is written -/
theorem Pen.upd {H : Hp} {pn cl a : Addr} {b : Nat} {o : HO} (h : Pen H pn cl b) (n1 : pn ≠ a) (n2 : cl ≠ a) : Pen (L2.upd H a o) pn cl b := let ⟨k, l, cs, h1, h2, h3, h4⟩ := h; ⟨k, l, cs, (upd_ne n1).trans h1, (upd_ne n2).trans h2, h3, h4⟩
theorem Pen.off {H : Hp} {pn cl a : Addr} {b : Nat} (h : Pen H pn cl b) (n : H a = none) : pn ≠ a ∧ cl ≠ a := let ⟨_, _, _, h1, h2, _⟩ := h; ⟨ne_of_none h1 n, ne_of_none h2 n⟩
theorem same_but {pn : Addr} {H H' : Hp} (e : Same H H') : But pn H H' := fun b o _ h => e b o h
section
variable {P : Program} {w : World} {K : PySem.W.Frag} {mg : Str → Option Value} {base : Heap}
theorem scPick : FnScope ["_law_pen_here", "_law_some"] ["_law_pen_here", "_law_some"] (defScope sPick) := ⟨rfl, rfl, rfl, by decide +kernel, rfl, by decide +kernel, by decide +kernel⟩
theorem ok_pick {f : Addr} {fd : FuncData} (F : Fun K "_law_pick" "_law_pick" sPick f fd) (B : Bi mg) (cD : Cal CX0 P w K mg base 1 "_law_draw" spDraw) : FnOk P w K mg base CX0 2 f fd ["_law_pen_here", "_law_some"] spPick := by
  refine F.ok scPick (fun vs H Q E h => ?_) (fun cdv A outer s H vs Q E hr h => ?_)
  · obtain ⟨pn, cl, s, xs, b, rfl, _⟩ := h
    rfl
  · obtain ⟨pn, cl, s0, xs, b, rfl, pen, hb, hs, l0, l1, q⟩ := h
    refine ⟨_, pss_one (ps_ret (pe_ix ix_list (pv 1) (pe_c cD hr pass0 (pa_cons (pv 0) (pa_cons (pe_len B.len (pa_cons (pv 1) pa_nil)) pa_nil))) (fun _ _ => rfl))), ?_⟩
    refine ⟨_, rfl, _, rfl, _, rfl, s0, xs, rfl, .inl (SqL.of hs), pn, cl, _, b, rfl, pen, hb, by omega, by omega, fun r H' r0 r1 e pen2 => ?_⟩
    obtain ⟨r, rfl⟩ := Int.eq_ofNat_of_zero_le r0
    have lt : r < xs.length := by omega
    exact ⟨s0, xs, _, xs[r], rfl, rfl, SqL.of (e _ _ (pen.ne hs fun _ z => by cases z) hs), atI_nat (List.getElem?_eq_getElem lt), q _ _ (List.getElem_mem lt) e pen2⟩
end
def Flat : V → Prop
  | .non | .bl _ | .int _ => True
  | .str x => PyData.strOk x = true
  | _ => False
theorem dp_flat {K : PySem.W.Frag} {H : Hp} {v : V} (h : Flat v) : Dp K H v (dOf v) := by
  cases v with
  | non => exact .non
  | bl b => exact .bl b
  | int i => exact .int i
  | str x => exact .str x
  | _ => exact h.elim
theorem dpAll_flat {K : PySem.W.Frag} {H : Hp} : ∀ {xs : List V}, (∀ v ∈ xs, Flat v) → DpAll K H xs (xs.map dOf)
  | [], _ => .nil
  | x :: xs, h => .cons (dp_flat (h x List.mem_cons_self)) (dpAll_flat fun v m => h v (List.mem_cons_of_mem _ m))
theorem lay_flat : ∀ {xs : List V}, (∀ v ∈ xs, Flat v) → PyData.canLayAll0 (xs.map dOf) = true
  | [], _ => by simp [PyData.canLayAll0]
  | x :: xs, h => by
    have ih := lay_flat fun v m => h v (List.mem_cons_of_mem x m)
    have hx := h x List.mem_cons_self
    rw [List.map_cons, PyData.canLayAll0, ih, Bool.and_true]
    cases x <;> simp [dOf, PyData.canLay0, Flat] at hx ⊢
    exact hx
theorem depth_flat : ∀ (xs : List V), PyData.depthAll (xs.map dOf) ≤ 1
  | [] => by simp [PyData.depthAll]
  | x :: xs => by
    have ih := depth_flat xs
    simp only [List.map_cons, PyData.depthAll]
    cases x <;> simp only [dOf, PyData.depth] <;> omega
theorem shT_flat {xs : List V} (h : ∀ v ∈ xs, Flat v) : SeqAt.shaped (.tuple (xs.map dOf)) = true := by
  have h1 := lay_flat h
  have h2 := depth_flat xs
  show (PyData.canLay0 (.tuple (xs.map dOf)) && decide (PyData.depth (.tuple (xs.map dOf)) ≤ 64)) = true
  rw [Bool.and_eq_true]
  refine ⟨by simp only [PyData.canLay0]; exact h1, decide_eq_true ?_⟩
  simp only [PyData.depth]
  omega
/-- two tuples with the same flat items -/
def rSm (b : Bool) : R2 := fun x y H Q => ∃ s t us, x = .ref s ∧ y = .ref t ∧ H s = some (.tup us) ∧ H t = some (.tup us) ∧ (∀ v ∈ us, Flat v) ∧ Q (.bl b) H
section
variable {X : Cx}
theorem op_neSm (hu : X.A.units + 64 < cLine) : OpR X (compareOp .NotEq) (rSm false) := by
  intro pins s σ H x y v u Q I rx ry h
  obtain ⟨a, b, us, rfl, rfl, d1, d2, f, q⟩ := h
  have sh := shT_flat f
  refine op_neD hu pins s σ H _ _ v u Q I rx ry ⟨_, _, .tup (SqT.of d1) (dpAll_flat f), .tup (SqT.of d2) (dpAll_flat f), sh, sh, ?_⟩
  rw [SeqAt.eqv_refl _ (Bool.and_eq_true_iff.mp sh).1]
  exact q
theorem op_eqSm (hu : X.A.units + 64 < cLine) : OpR X (compareOp .Eq) (rSm true) := by
  intro pins s σ H x y v u Q I rx ry h
  obtain ⟨a, b, us, rfl, rfl, d1, d2, f, q⟩ := h
  have sh := shT_flat f
  refine op_eqD hu pins s σ H _ _ v u Q I rx ry ⟨_, _, .tup (SqT.of d1) (dpAll_flat f), .tup (SqT.of d2) (dpAll_flat f), sh, sh, ?_⟩
  rw [SeqAt.eqv_refl _ (Bool.and_eq_true_iff.mp sh).1]
  exact q
end
theorem cut_to {xs : List V} {k : Nat} (h : k ≤ xs.length) : cutV xs none (some (k : Int)) = xs.take k := by
  unfold cutV
  rw [HT.sIx_nat, HT.sIx_none, List.drop_zero, Nat.sub_zero, Nat.min_eq_left h]
theorem cut_from {xs : List V} {k : Nat} (h : k ≤ xs.length) : cutV xs (some (k : Int)) none = xs.drop k := by
  unfold cutV
  rw [HT.sIx_nat, HT.sIx_none, Nat.min_eq_left h, List.take_of_length_le (by rw [List.length_drop]; exact Nat.le_refl _)]
theorem kn_flat {H : Hp} {v : V} (h : Flat v) : Kn H v := by
  cases v with
  | non => exact .non
  | bl b => exact .bl b
  | int i => exact .int i
  | str x => exact .str x
  | _ => exact h.elim
theorem flat_ref {v : V} (h : Flat v) : ∀ b, v ≠ .ref b := fun b e => by
  rw [e] at h
  exact h
end K17
set_option Elab.async false
set_option linter.all false
set_option maxRecDepth 100001
set_option maxHeartbeats 3999999
namespace K17
open PySem L2
section
variable {X : Cx} {tg e : Expr}
/-- enumerate of a list or a tuple; it stays where its own object does -/
def iEnA (K : PySem.W.Frag) (ta : TA) : TI := fun σ H R => ta σ H fun vs H1 => ∃ a xs, vs = [.ref a] ∧ Sq K H1 a xs ∧ ∀ (J : It) (G : Hp → Prop), Walk J xs.length G (YPair (fun i => some (.int (i : Nat))) (fun i => xs[i]?)) → (∀ H', (∀ o, H1 a = some o → H' a = some o) → G H') → R J H1
open PySem.Spec PyProof.Rows in
theorem pi_enA {ta : TA} {p pos tp : Pos} {es : List Expr} {kk : Nat} (hm : X.mg "enumerate" = none) (ha : PA X [e] ta) (hg : Gl X "enumerate" := by rfl) (hs : starEach [e] X.env = [(false, eval e X.env)] := by rfl) :
    PI X (.Tuple es kk tp) (.Call (.Name "enumerate" p) [e] [] pos) (iEnA X.K ta) := by
  constructor
  intro pins s σ H R I h
  refine Call_ (ld_blt I hg hm PyProof.Rows.boot_enumerate (PyProof.Rows.callWith_type1 (thn (ha.run pos pins s σ H _ I h) fun us s1 hh => ?_) hs rfl))
  obtain ⟨vs, H1, I1, r1, a, xs, ev, sq, k⟩ := hh
  subst ev
  have near : ∀ b ∈ [s1.heap.objs.size + 1, s1.heap.objs.size], FpOk X pins H1 b := fun b hb => by
    have ge : s1.heap.objs.size ≤ b := by
      rcases two_of hb with z | z
      · exact z ▸ Nat.le_add_right _ _
      · exact z ▸ Nat.le_refl _
    exact I1.fpOk ge (I1.hok.fresh ge)
  cases r1 with
  | cons r rr =>
    cases rr
    cases r
    rcases sq with hq | hq
    · obtain ⟨its, rv, p1, hz⟩ := I1.list hq
      refine call_enumerate_list p1.isList fun h2 he hd _ hk => wpAny_pyIter_enum he ?_
      exact ⟨s1.heap.objs.size + 1, _, _, _, H1, rfl, I1.kept (t' := s1.toks) hk, turn_enum a (s1.heap.objs.size + 1) s1.heap.objs.size, ⟨⟨.none, he⟩, hd, Nat.succ_ne_self _⟩, near, k _ _ walk_enum fun H' z => sqL_at hq z⟩
    · obtain ⟨its, rv, p2, hz⟩ := I1.tuple hq
      refine enumT_call (begins_tuple a its.toArray) p2 fun h2 he hd hk => wpAny_pyIter_enum he ?_
      exact ⟨s1.heap.objs.size + 1, _, _, _, H1, rfl, I1.kept (t' := s1.toks) hk, turn_enT a (s1.heap.objs.size + 1) s1.heap.objs.size, ⟨⟨.none, he⟩, ⟨_, hd, rfl, rfl⟩, Nat.succ_ne_self _⟩, near, k _ _ walk_enT fun H' z => sqT_at hq z⟩
/-- list(d.values()) -/
def tListV (te : TE) : TE := fun σ H Q => te σ H fun x H1 => ∃ (d : Addr) (kvs : List (Key × V)), x = .ref d ∧ H1 d = some (.dK kvs) ∧ ∀ l, H1 l = none → Q (.ref l) (upd H1 l (.lst (kvs.map (·.2))))
theorem vals_snds : ∀ {xs : List (Key × V)} {ys : List (Key × Value)}, KV xs ys → Vals (xs.map (·.2)) (ys.map (·.2))
  | _, _, .nil => .nil
  | _, _, .cons h t => .cons h.2 (vals_snds t)
open PySem.Spec PyProof.Rows in
theorem pe_listValues {te : TE} {p apos cpos pos : Pos} (hc : X.calm = true) (he : PE X e te) (hg : Gl X "list") (hm : X.mg "list" = none) (hv : bootBuiltins "list" = some (.type "list") := by decide +kernel) (hbase : attributeBase e "values" X.env (eval e X.env) = eval e X.env := by rfl) (hline : (apos.endLine == cpos.line) = true := by rfl)
    (hs : starEach [.Call (.Attribute e "values" apos) [] [] cpos] X.env = (false, eval (.Call (.Attribute e "values" apos) [] [] cpos) X.env) :: starEach [] X.env := by rfl) :
    PE X (.Call (.Name "list" p) [.Call (.Attribute e "values" apos) [] [] cpos] [] pos) (tListV te) := by
  constructor
  intro pins s σ H Q I hq
  refine wpAny_Call_Name_kw (ld_blt I hg hm hv (PyProof.Rows.callWith_type1 ?_ hs rfl))
  rw [hs]
  show wpAny _ _ (spliced ((false, eval (.Call (.Attribute e "values" apos) [] [] cpos) X.env) :: backTo pos (starEach [] X.env))) _ _ s
  refine Calls.spliced_cons (wpAny_Call_method (T := "dict") (id := "dict.values") hbase rfl hline F.plainAttrs_dict F.slot_dict_values F.type_dict_values (thn (he.run pins s σ H _ I hq) fun u s1 hh => ?_))
  obtain ⟨x, H1, I1, rx, d, kvs, ex, hd, q⟩ := hh
  subst ex
  cases (show u = Value.ref d from rx)
  obtain ⟨hz, hs0, vs, kv, hdo⟩ := I1.hok d _ hd
  obtain ⟨ep, hat⟩ := hdo.dictAt
  have lk : kvs.length = vs.length := Paired.length kv
  have I2 : Inv X pins σ H1 { s1 with heap := s1.heap.push { cls := .type "dict_values", data := .fields #[.ref d] } } := I1.kept (t' := s1.toks) fun b ob z => Heap.get?_push_of_some _ z
  refine ⟨hdo.typeIs, hdo.mapOf.noDict, ?_⟩
  show wpAny _ _ (callWith cpos (.builtin "dict.values") [.ref d] [] []) _ X.xe s1
  refine method_meetsIn F.slot_dict_values F.entry_dict_values rfl (PySem.evalArgs_none ⟨rfl, hdo.typeIs, F.args_dict_values_1 _, _, meets_dict_values (mixKind X.prog X.w) d hs0, ⟨vs, hdo⟩, ?_⟩)
  refine Calls.spliced_nil ?_
  refine PySem.W.kdl_call (PySem.W.kdl_values (knd := mixKind X.prog X.w) (kvs := vs) (ep := ep)) (I1.ok.hd hc) ⟨⟨_, Heap.get?_push_size _ rfl, rfl, rfl⟩, hat.push _⟩ (by omega) fun h' tk acc c hk hS hacc => ?_
  have ev : acc.toList = vs.map (·.2) := PySem.W.kdl_vals_eq acc.toList (by rw [Array.length_toList]; exact hacc.1) fun j v z => hacc.2 j v (by rw [← Array.getElem?_toList]; exact z)
  have nl : H1 (s1.heap.push { cls := .type "dict_values", data := .fields #[.ref d] }).objs.size = none := I2.hok.fresh (Nat.le_refl _)
  refine ⟨.ref _, upd H1 _ (.lst (kvs.map (·.2))), I2.laid (t' := tk) hk (Nat.le_refl _) ⟨by rw [List.length_map]; exact hz, acc.toList, c, ?_, ?_⟩, rfl, q _ nl⟩
  · rw [ev]
    exact vals_snds kv
  · rw [Array.toArray_toList]
    exact hS
end
end K17
set_option Elab.async false
set_option linter.all false
set_option maxRecDepth 100001
set_option maxHeartbeats 3999999
namespace K17
/-! ### stretches -/
def put (acc : List (Int × Int)) (f s : Int) : List (Int × Int) := match acc.getLast? with
  | some q => if q.2 = s then acc else acc ++ [(f, s)]
  | none => acc ++ [(f, s)]
theorem put_nil (f s : Int) : put [] f s = [(f, s)] := rfl
theorem put_same {acc : List (Int × Int)} {g f s : Int} : put (acc ++ [(g, s)]) f s = acc ++ [(g, s)] := by
  unfold put
  rw [List.getLast?_concat]
  show (if s = s then _ else _) = _
  rw [if_pos rfl]
theorem put_new {acc : List (Int × Int)} {q : Int × Int} {f s : Int} (h : ¬ q.2 = s) : put (acc ++ [q]) f s = acc ++ [q] ++ [(f, s)] := by
  unfold put
  rw [List.getLast?_concat]
  show (if q.2 = s then _ else _) = _
  rw [if_neg h]
/-- l tells L by stretches -/
inductive Rl : List (Int × Int) → List Int → Prop
  | nil : Rl [] []
  | one {x : Int} {k : Nat} : Rl [(0, x)] (List.replicate (k + 1) x)
  | snoc {l : List (Int × Int)} {q : Int × Int} {L : List Int} {x : Int} {k : Nat} : Rl (l ++ [q]) L → ¬ q.2 = x → Rl (l ++ [q] ++ [(((L.length : Nat) : Int), x)]) (L ++ List.replicate (k + 1) x)
theorem rep_snoc (k : Nat) (x : Int) : List.replicate (k + 1) x ++ [x] = List.replicate (k + 2) x := by rw [← List.replicate_succ']
theorem Rl.push {l : List (Int × Int)} {L : List Int} (h : Rl l L) (x : Int) : Rl (put l (L.length : Nat) x) (L ++ [x]) := by
  cases h with
  | nil => exact Rl.one (k := 0)
  | @one y k =>
    by_cases c : y = x
    · subst c
      rw [show [((0 : Int), y)] = [] ++ [(0, y)] from rfl, put_same, rep_snoc]
      exact Rl.one
    · rw [show [((0 : Int), y)] = [] ++ [(0, y)] from rfl, put_new c]
      exact Rl.snoc (k := 0) (l := []) (q := (0, y)) Rl.one c
  | @snoc l q L y k h' c' =>
    by_cases c : y = x
    · subst c
      rw [put_same, List.append_assoc L, rep_snoc]
      exact Rl.snoc h' c'
    · rw [put_new (q := ((L.length : Nat), y)) c]
      exact Rl.snoc (k := 0) (Rl.snoc h' c') c
theorem put_put (l : List (Int × Int)) (f g s : Int) : put (put l f s) g s = put l f s := by
  rcases List.eq_nil_or_concat l with rfl | ⟨l, q, rfl⟩
  · rw [put_nil]
    exact put_same (acc := [])
  · rw [List.concat_eq_append]
    by_cases c : q.2 = s
    · obtain ⟨a, b⟩ := q
      cases c
      rw [put_same, put_same]
    · rw [put_new c]
      exact put_same (acc := l ++ [q])
theorem Rl.rep {l : List (Int × Int)} {L : List Int} (h : Rl l L) (x : Int) : ∀ k : Nat, Rl (put l (L.length : Nat) x) (L ++ List.replicate (k + 1) x)
  | 0 => h.push x
  | k + 1 => by
    have ih := Rl.rep h x k
    have p := ih.push x
    rw [put_put, List.append_assoc, rep_snoc] at p
    exact p
/-- the stretches of L -/
def rleF (a : List (Int × Int) × Int) (x : Int) : List (Int × Int) × Int := (put a.1 a.2 x, a.2 + 1)
def rle (L : List Int) : List (Int × Int) := (L.foldl rleF ([], 0)).1
theorem rle_pos : ∀ (L : List Int) (a : List (Int × Int) × Int), (L.foldl rleF a).2 = a.2 + (L.length : Nat)
  | [], a => by simp
  | x :: L, a => by
    rw [List.foldl_cons, rle_pos L, List.length_cons]
    show a.2 + 1 + _ = _
    omega
theorem rle_snoc (L : List Int) (x : Int) : rle (L ++ [x]) = put (rle L) (L.length : Nat) x := by
  unfold rle
  rw [List.foldl_append]
  show put (L.foldl rleF ([], 0)).1 (L.foldl rleF ([], 0)).2 x = _
  rw [rle_pos]
  show put _ (0 + ((L.length : Nat) : Int)) x = _
  rw [Int.zero_add]
theorem rle_rep (L : List Int) (x : Int) : ∀ k : Nat, rle (L ++ List.replicate (k + 1) x) = put (rle L) (L.length : Nat) x
  | 0 => rle_snoc L x
  | k + 1 => by
    rw [← rep_snoc, ← List.append_assoc, rle_snoc, rle_rep L x k, put_put]
theorem rl_fold : ∀ (M : List Int) (l : List (Int × Int)) (L : List Int), Rl l L → Rl (M.foldl rleF (l, (L.length : Nat))).1 (L ++ M)
  | [], l, L, h => by
    rw [List.append_nil]
    exact h
  | x :: M, l, L, h => by
    rw [List.foldl_cons]
    have := rl_fold M (put l (L.length : Nat) x) (L ++ [x]) (h.push x)
    rw [List.length_append, List.append_assoc] at this
    exact this
theorem rl_rle (L : List Int) : Rl (rle L) L := rl_fold L [] [] .nil
/-- the place behind the i-th stretch -/
def beh (l : List (Int × Int)) (n : Int) (i : Nat) : Int := match l[i + 1]? with
  | some q => q.1
  | none => n
theorem beh_last {l : List (Int × Int)} {q : Int × Int} {n : Int} : beh (l ++ [q]) n l.length = n := by
  unfold beh
  rw [List.getElem?_eq_none (by simp)]
theorem beh_snoc {l : List (Int × Int)} {q : Int × Int} {m n : Int} {i : Nat} (h : i + 1 < l.length) : beh (l ++ [q]) n i = beh l m i := by
  unfold beh
  rw [List.getElem?_append_left h, List.getElem?_eq_getElem h]
theorem beh_next {l : List (Int × Int)} {p q : Int × Int} {n : Int} : beh (l ++ [p] ++ [q]) n l.length = q.1 := by
  unfold beh
  rw [List.getElem?_append_right (by simp), List.length_append, List.length_singleton, Nat.sub_self]
  rfl
structure RlP (l : List (Int × Int)) (L : List Int) : Prop where
  at_ : ∀ i f st, l[i]? = some (f, st) → 0 ≤ f ∧ f < beh l (L.length : Nat) i ∧ beh l (L.length : Nat) i ≤ (L.length : Nat) ∧ ∀ s : Nat, f ≤ s → (s : Int) < beh l (L.length : Nat) i → L[s]? = some st
  zero : ∀ q, l[0]? = some q → q.1 = 0
  some_ : L ≠ [] → l ≠ []
  last : ∀ k, l = k → L = [] → k = []
theorem Rl.p {l : List (Int × Int)} {L : List Int} (h : Rl l L) : RlP l L := by
  induction h with
  | nil => exact ⟨fun i f st z => by simp at z, fun q z => by simp at z, fun z => absurd rfl z, fun k e _ => e.symm⟩
  | @one x k =>
    refine ⟨fun i f st z => ?_, fun q z => by simp at z; rw [← z], (fun _ z => nomatch z), fun k' e z => by simp at z⟩
    cases i with
    | succ i => simp at z
    | zero =>
      simp at z
      obtain ⟨rfl, rfl⟩ := z
      have e : beh [((0 : Int), x)] ((List.replicate (k + 1) x).length : Nat) 0 = ((k + 1 : Nat) : Int) := by
        show (((List.replicate (k + 1) x).length : Nat) : Int) = _
        rw [List.length_replicate]
      rw [e, List.length_replicate]
      refine ⟨by omega, by omega, Int.le_refl _, fun s _ h2 => ?_⟩
      rw [List.getElem?_replicate, if_pos (by omega)]
  | @snoc l q L x k h2 c ih =>
    have len : (L ++ List.replicate (k + 1) x).length = L.length + (k + 1) := by rw [List.length_append, List.length_replicate]
    refine ⟨fun i f st z => ?_, fun q0 z => ?_, (fun _ z => by simp at z), fun k' e z => by simp at z⟩
    · rw [len]
      by_cases h1 : i < (l ++ [q]).length
      · rw [List.getElem?_append_left h1] at z
        obtain ⟨a1, a2, a3, a4⟩ := ih.at_ i f st z
        have eb : beh (l ++ [q] ++ [(((L.length : Nat) : Int), x)]) ((L.length + (k + 1) : Nat) : Int) i = beh (l ++ [q]) (L.length : Nat) i := by
          by_cases h3 : i + 1 < (l ++ [q]).length
          · exact beh_snoc h3
          · have e : i = l.length := by simp at h1 h3; omega
            rw [e, beh_next, beh_last]
        rw [eb]
        refine ⟨a1, a2, by omega, fun s b1 b2 => ?_⟩
        rw [List.getElem?_append_left (by omega)]
        exact a4 s b1 b2
      · have e : i = (l ++ [q]).length := by
          have := (List.getElem?_eq_some_iff.mp z).1
          simp at this h1 ⊢
          omega
        rw [e, List.getElem?_append_right (Nat.le_refl _), Nat.sub_self] at z
        cases z
        rw [e, beh_last]
        refine ⟨by omega, by omega, Int.le_refl _, fun s b1 b2 => ?_⟩
        rw [List.getElem?_append_right (by omega), List.getElem?_replicate, if_pos (by omega)]
    · refine ih.zero q0 ?_
      rw [← z, List.getElem?_append_left (l₁ := l ++ [q]) (by rw [List.length_append]; exact Nat.succ_pos _)]
theorem rle_p (L : List Int) : RlP (rle L) L := (rl_rle L).p
end K17
set_option Elab.async false
set_option linter.all false
set_option maxRecDepth 100001
set_option maxHeartbeats 3999999
namespace K17
/-! ### moves -/
abbrev Mv := Int × Int × Int
/-- the stretches, each with its last sign -/
def trips (l : List (Int × Int)) (n : Int) : List Mv := (List.range l.length).map fun i => ((l.getD i (0, 0)).1, beh l n i - 1, (l.getD i (0, 0)).2)
def keptM (L : List Int) (a : Int) : List Mv := (trips (rle L) (L.length : Nat)).filter fun t => !decide (t.2.2 = a)
theorem trips_snoc {l : List (Int × Int)} {q p : Int × Int} {m n : Int} (h : p.1 = m) : trips (l ++ [q] ++ [p]) n = trips (l ++ [q]) m ++ [(p.1, n - 1, p.2)] := by
  unfold trips
  have e : (l ++ [q] ++ [p]).length = (l ++ [q]).length + 1 := by simp
  rw [e, List.range_succ, List.map_append]
  congr 1
  · refine List.map_congr_left fun i hi => ?_
    have lt : i < (l ++ [q]).length := List.mem_range.mp hi
    have e1 : (l ++ [q] ++ [p]).getD i (0, 0) = (l ++ [q]).getD i (0, 0) := by
      rw [List.getD_eq_getElem?_getD, List.getD_eq_getElem?_getD, List.getElem?_append_left lt]
    have e2 : beh (l ++ [q] ++ [p]) n i = beh (l ++ [q]) m i := by
      by_cases h3 : i + 1 < (l ++ [q]).length
      · exact beh_snoc h3
      · have e : i = l.length := by simp at lt h3; omega
        rw [e, beh_next, beh_last, h]
    rw [e1, e2]
  · rw [List.map_singleton, beh_last, List.getD_eq_getElem?_getD, List.getElem?_append_right (Nat.le_refl _), Nat.sub_self]
    rfl
theorem trips_one {p : Int × Int} {n : Int} : trips [p] n = [(p.1, n - 1, p.2)] := rfl
theorem Rl.last {l : List (Int × Int)} {q : Int × Int} {L : List Int} (h : Rl (l ++ [q]) L) : L.getLast? = some q.2 := by
  generalize e : l ++ [q] = l2 at h
  cases h with
  | nil => exact absurd e (by simp)
  | @one z i =>
    have := congrArg List.getLast? e
    rw [List.getLast?_concat] at this
    have e3 := Option.some.inj this
    rw [e3, List.replicate_succ', List.getLast?_concat]
    rfl
  | @snoc l3 q3 L3 z i h3 c3 =>
    have := congrArg List.getLast? e
    rw [List.getLast?_concat, List.getLast?_concat] at this
    have e3 := Option.some.inj this
    rw [e3, List.replicate_succ', ← List.append_assoc, List.getLast?_concat]
/-- a run more -/
theorem keptM_snoc {L : List Int} {x : Int} {k : Nat} (a : Int) (h : ∀ y, L.getLast? = some y → y ≠ x) : keptM (L ++ List.replicate (k + 1) x) a = keptM L a ++ (if x = a then [] else [(((L.length : Nat) : Int), ((L.length : Nat) : Int) + (k : Nat), x)]) := by
  unfold keptM
  have len : (((L ++ List.replicate (k + 1) x).length : Nat) : Int) - 1 = ((L.length : Nat) : Int) + (k : Nat) := by rw [List.length_append, List.length_replicate]; omega
  have tail : ∀ n : Int, n - 1 = ((L.length : Nat) : Int) + (k : Nat) → ([(((L.length : Nat) : Int), n - 1, x)] : List Mv).filter (fun t => !decide (t.2.2 = a)) = if x = a then [] else [(((L.length : Nat) : Int), ((L.length : Nat) : Int) + (k : Nat), x)] := fun n e => by
    rw [e]
    by_cases c : x = a
    · rw [if_pos c, List.filter_cons, if_neg (by simpa using c)]
      rfl
    · rw [if_neg c, List.filter_cons, if_pos (by simpa using c)]
      rfl
  rw [rle_rep]
  have R := rl_rle L
  rcases List.eq_nil_or_concat (rle L) with e | ⟨l, q, e⟩
  · rw [e] at R
    have eL : L = [] := by
      generalize e2 : ([] : List (Int × Int)) = l2 at R
      cases R with
      | nil => rfl
      | one => exact absurd e2 (by simp)
      | snoc => exact absurd e2.symm (by simp)
    rw [e, put_nil, trips_one, tail _ len]
    rfl
  · rw [List.concat_eq_append] at e
    rw [e] at R ⊢
    have hq : ¬ q.2 = x := h _ R.last
    rw [put_new hq, trips_snoc (m := (L.length : Nat)) rfl, List.filter_append, tail _ len]
/-- what moves tell, sign by sign -/
def stepE (a : Int) (E : List Int) (t : Mv) : List Int := E ++ List.replicate (t.1.toNat - E.length) a ++ List.replicate (t.2.1 + 1 - t.1).toNat t.2.2
def expM (a : Int) (ms : List Mv) : List Int := ms.foldl (stepE a) []
def expT (a : Int) (ms : List Mv) (n : Nat) : List Int := expM a ms ++ List.replicate (n - (expM a ms).length) a
theorem expM_snoc (a : Int) (ms : List Mv) (t : Mv) : expM a (ms ++ [t]) = stepE a (expM a ms) t := by
  unfold expM
  rw [List.foldl_append]
  rfl
def endM (ms : List Mv) : Int := match ms.getLast? with
  | some t => t.2.1 + 1
  | none => 0
theorem endM_snoc (ms : List Mv) (t : Mv) : endM (ms ++ [t]) = t.2.1 + 1 := by
  unfold endM
  rw [List.getLast?_concat]
/-- moves as they must stand -/
def OkM (n k : Int) (ms : List Mv) : Prop := ∀ i t, ms[i]? = some t → endM (ms.take i) ≤ t.1 ∧ t.1 ≤ t.2.1 ∧ t.2.1 ≤ n - 1 ∧ 0 ≤ t.2.2 ∧ t.2.2 ≤ k - 1
theorem okM_nil {n k : Int} : OkM n k [] := fun i t z => by simp at z
theorem okM_snoc {n k : Int} {ms : List Mv} {t : Mv} : OkM n k (ms ++ [t]) ↔ OkM n k ms ∧ endM ms ≤ t.1 ∧ t.1 ≤ t.2.1 ∧ t.2.1 ≤ n - 1 ∧ 0 ≤ t.2.2 ∧ t.2.2 ≤ k - 1 := by
  constructor
  · intro h
    refine ⟨fun i u z => ?_, ?_⟩
    · have lt := (List.getElem?_eq_some_iff.mp z).1
      have := h i u (by rw [List.getElem?_append_left lt]; exact z)
      rw [List.take_append_of_le_length (Nat.le_of_lt lt)] at this
      exact this
    · have := h ms.length t (by rw [List.getElem?_append_right (Nat.le_refl _), Nat.sub_self]; rfl)
      rw [List.take_append_of_le_length (Nat.le_refl _), List.take_length] at this
      exact this
  · rintro ⟨h1, h2⟩ i u z
    by_cases lt : i < ms.length
    · rw [List.getElem?_append_left lt] at z
      rw [List.take_append_of_le_length (Nat.le_of_lt lt)]
      exact h1 i u z
    · have e : i = ms.length := by
        have := (List.getElem?_eq_some_iff.mp z).1
        simp at this
        omega
      rw [e, List.getElem?_append_right (Nat.le_refl _), Nat.sub_self] at z
      cases z
      rw [e, List.take_append_of_le_length (Nat.le_refl _), List.take_length]
      exact h2
theorem OkM.take {n k : Int} {ms : List Mv} (h : OkM n k ms) (j : Nat) : OkM n k (ms.take j) := fun i t z => by
  have lt := (List.getElem?_eq_some_iff.mp z).1
  rw [List.length_take] at lt
  rw [List.getElem?_take_of_lt (by omega)] at z
  rw [List.take_take, Nat.min_eq_left (by omega)]
  exact h i t z
theorem take_snoc {α : Type} {xs : List α} {i : Nat} {x : α} (h : xs[i]? = some x) : xs.take (i + 1) = xs.take i ++ [x] := by
  obtain ⟨lt, eq⟩ := List.getElem?_eq_some_iff.mp h
  rw [List.take_succ_eq_append_getElem lt, eq]
theorem expM_len {n k a : Int} {ms : List Mv} (h : OkM n k ms) : (((expM a ms).length : Nat) : Int) = endM ms ∧ 0 ≤ endM ms ∧ (ms = [] ∨ endM ms ≤ n) := by
  have key : ∀ j, j ≤ ms.length → (((expM a (ms.take j)).length : Nat) : Int) = endM (ms.take j) ∧ 0 ≤ endM (ms.take j) ∧ (ms.take j = [] ∨ endM (ms.take j) ≤ n) := by
    intro j
    induction j with
    | zero => exact fun _ => ⟨rfl, Int.le_refl _, .inl rfl⟩
    | succ j ih =>
      intro hj
      obtain ⟨e1, e2, _⟩ := ih (by omega)
      have hx : ms[j]? = some ms[j] := List.getElem?_eq_getElem (by omega)
      obtain ⟨a1, a2, a3, a4, a5⟩ := h j _ hx
      rw [take_snoc hx, expM_snoc, endM_snoc]
      refine ⟨?_, by omega, .inr (by omega)⟩
      unfold stepE
      simp only [List.length_append, List.length_replicate]
      omega
  have := key ms.length (Nat.le_refl _)
  rw [List.take_length] at this
  exact this
/-- the kept moves tell the same, and stand as they must -/
theorem kept_exp {L : List Int} (a : Int) : ((expM a (keptM L a)).length ≤ L.length ∧ expT a (keptM L a) L.length = L) ∧ ∀ k : Int, (∀ x ∈ L, 0 ≤ x ∧ x ≤ k - 1) → OkM (L.length : Nat) k (keptM L a) ∧ endM (keptM L a) ≤ (L.length : Nat) := by
  have key : ∀ {l : List (Int × Int)} {L : List Int}, Rl l L → ((expM a (keptM L a)).length ≤ L.length ∧ expT a (keptM L a) L.length = L) ∧ ∀ k : Int, (∀ x ∈ L, 0 ≤ x ∧ x ≤ k - 1) → ∀ n : Int, (L.length : Nat) ≤ n → OkM n k (keptM L a) ∧ endM (keptM L a) ≤ (L.length : Nat) := by
    intro l L h
    have step : ∀ (L : List Int) (x : Int) (k : Nat), (∀ y, L.getLast? = some y → y ≠ x) → (((expM a (keptM L a)).length ≤ L.length ∧ expT a (keptM L a) L.length = L) ∧ ∀ k : Int, (∀ x ∈ L, 0 ≤ x ∧ x ≤ k - 1) → ∀ n : Int, (L.length : Nat) ≤ n → OkM n k (keptM L a) ∧ endM (keptM L a) ≤ (L.length : Nat)) →
        (((expM a (keptM (L ++ List.replicate (k + 1) x) a)).length ≤ (L ++ List.replicate (k + 1) x).length ∧ expT a (keptM (L ++ List.replicate (k + 1) x) a) (L ++ List.replicate (k + 1) x).length = L ++ List.replicate (k + 1) x) ∧
          ∀ k' : Int, (∀ y ∈ L ++ List.replicate (k + 1) x, 0 ≤ y ∧ y ≤ k' - 1) → ∀ n : Int, ((L ++ List.replicate (k + 1) x).length : Nat) ≤ n → OkM n k' (keptM (L ++ List.replicate (k + 1) x) a) ∧ endM (keptM (L ++ List.replicate (k + 1) x) a) ≤ ((L ++ List.replicate (k + 1) x).length : Nat)) := by
      rintro L x k hx ⟨⟨i1, i2⟩, i3⟩
      rw [keptM_snoc a hx]
      have len : (L ++ List.replicate (k + 1) x).length = L.length + (k + 1) := by rw [List.length_append, List.length_replicate]
      unfold expT at i2
      by_cases c : x = a
      · subst c
        rw [if_pos rfl, List.append_nil, len]
        refine ⟨⟨by omega, ?_⟩, fun k' hk n hn => ?_⟩
        · unfold expT
          conv => rhs; rw [← i2]
          rw [List.append_assoc, List.replicate_append_replicate]
          congr 2
          omega
        · obtain ⟨o1, o2⟩ := i3 k' (fun y hy => hk y (List.mem_append_left _ hy)) n (by omega)
          exact ⟨o1, by omega⟩
      · rw [if_neg c, len]
        have e : expM a (keptM L a ++ [(((L.length : Nat) : Int), ((L.length : Nat) : Int) + (k : Nat), x)]) = L ++ List.replicate (k + 1) x := by
          rw [expM_snoc]
          unfold stepE
          show expM a (keptM L a) ++ List.replicate (((L.length : Nat) : Int).toNat - (expM a (keptM L a)).length) a ++ List.replicate (((L.length : Nat) : Int) + (k : Nat) + 1 - ((L.length : Nat) : Int)).toNat x = _
          rw [Int.toNat_natCast, i2]
          congr 2
          omega
        refine ⟨⟨by rw [e, len]; omega, ?_⟩, fun k' hk n hn => ?_⟩
        · unfold expT
          rw [e, len, Nat.sub_self]
          simp
        · obtain ⟨o1, o2⟩ := i3 k' (fun y hy => hk y (List.mem_append_left _ hy)) n (by omega)
          have hx2 := hk x (List.mem_append_right _ (by simp [List.replicate_succ]))
          refine ⟨okM_snoc.mpr ⟨o1, o2, by show ((L.length : Nat) : Int) ≤ ((L.length : Nat) : Int) + (k : Nat); omega, by show ((L.length : Nat) : Int) + (k : Nat) ≤ n - 1; omega, hx2.1, hx2.2⟩, ?_⟩
          rw [endM_snoc]
          show ((L.length : Nat) : Int) + (k : Nat) + 1 ≤ _
          omega
    have base : ((expM a (keptM [] a)).length ≤ ([] : List Int).length ∧ expT a (keptM [] a) ([] : List Int).length = []) ∧ ∀ k : Int, (∀ x ∈ ([] : List Int), 0 ≤ x ∧ x ≤ k - 1) → ∀ n : Int, (([] : List Int).length : Nat) ≤ n → OkM n k (keptM [] a) ∧ endM (keptM [] a) ≤ (([] : List Int).length : Nat) := ⟨⟨Nat.le_refl _, rfl⟩, fun k _ n _ => ⟨okM_nil, Int.le_refl _⟩⟩
    induction h with
    | nil => exact base
    | @one x k => exact step [] x k (fun y z => by simp at z) base
    | @snoc l q L x k h2 c ih => exact step L x k (fun y z => by rw [h2.last] at z; cases z; exact c) ih
  obtain ⟨h1, h2⟩ := key (rl_rle L)
  exact ⟨h1, fun k hk => h2 k hk _ (Int.le_refl _)⟩
end K17
set_option Elab.async false
set_option linter.all false
set_option maxRecDepth 100001
set_option maxHeartbeats 3999999
namespace K17
/-! ### where most signs lead -/
def AwayOf (L : List Int) (a : Int) : Prop := a ∈ L ∧ ∀ b ∈ L, L.count b < L.count a ∨ (L.count b = L.count a ∧ a ≤ b)
theorem away_uniq {L : List Int} {a b : Int} (h : AwayOf L a) (h' : AwayOf L b) : a = b := by
  rcases h.2 b h'.1 with h1 | ⟨h1, h2⟩ <;> rcases h'.2 a h.1 with h3 | ⟨h3, h4⟩ <;> omega
theorem away_some {L : List Int} (h : L ≠ []) : ∃ a, AwayOf L a := by
  have key : ∀ S : List Int, S ≠ [] → ∃ a ∈ S, ∀ b ∈ S, L.count b < L.count a ∨ (L.count b = L.count a ∧ a ≤ b) := by
    intro S
    induction S with
    | nil => exact fun z => absurd rfl z
    | cons x r ih =>
      intro _
      by_cases c : r = []
      · subst c
        exact ⟨x, List.mem_cons_self, fun b hb => by rw [List.mem_singleton.mp hb]; exact .inr ⟨rfl, Int.le_refl _⟩⟩
      · obtain ⟨a, ha, hb⟩ := ih c
        by_cases d : L.count x < L.count a ∨ (L.count x = L.count a ∧ a ≤ x)
        · refine ⟨a, List.mem_cons_of_mem _ ha, fun b hb2 => ?_⟩
          rcases List.mem_cons.mp hb2 with rfl | hb2
          · exact d
          · exact hb b hb2
        · refine ⟨x, List.mem_cons_self, fun b hb2 => ?_⟩
          rcases List.mem_cons.mp hb2 with rfl | hb2
          · exact .inr ⟨rfl, Int.le_refl _⟩
          · have := hb b hb2
            omega
  exact key L h
open Classical in
noncomputable def awayF (L : List Int) : Int := if h : ∃ a, AwayOf L a then h.choose else 0
theorem awayF_of {L : List Int} (h : L ≠ []) : AwayOf L (awayF L) := by
  have e := away_some h
  unfold awayF
  rw [dif_pos e]
  exact e.choose_spec
theorem awayF_eq {L : List Int} {a : Int} (h : AwayOf L a) : awayF L = a := away_uniq (awayF_of (fun e => by rw [e] at h; cases h.1)) h
/-- the row in the one form -/
noncomputable def Kr (L : List Int) : Int × List Mv := (awayF L, keptM L (awayF L))
theorem kr_inj {L L' : List Int} (h : Kr L = Kr L') (n : L.length = L'.length) : L = L' := by
  have h1 := congrArg Prod.fst h
  have h2 := congrArg Prod.snd h
  have e1 := (kept_exp (L := L) (awayF L)).1.2
  have e2 := (kept_exp (L := L') (awayF L')).1.2
  rw [← e1, ← e2]
  show expT _ (Kr L).2 _ = expT _ (Kr L').2 _
  rw [h, n]
  show expT (Kr L).1 _ _ = expT (Kr L').1 _ _
  rw [h]
/-! ### rows, each sign so many times -/
def widen (row : List Int) (w : Nat) : List Int := (row.map (List.replicate w)).flatten
theorem widen_snoc (row : List Int) (x : Int) (w : Nat) : widen (row ++ [x]) w = widen row w ++ List.replicate w x := by
  unfold widen
  rw [List.map_append, List.flatten_append]
  simp
theorem widen_len (row : List Int) (w : Nat) : (widen row w).length = row.length * w := by
  induction row with
  | nil => simp [widen]
  | cons x r ih =>
    have e : widen (x :: r) w = List.replicate w x ++ widen r w := rfl
    rw [e, List.length_append, List.length_replicate, ih, List.length_cons, Nat.succ_mul]
    omega
theorem widen_count (row : List Int) (w : Nat) (b : Int) : (widen row w).count b = row.count b * w := by
  induction row with
  | nil => simp [widen]
  | cons x r ih =>
    have e : widen (x :: r) w = List.replicate w x ++ widen r w := rfl
    rw [e, List.count_append, ih, List.count_cons, List.count_replicate]
    by_cases c : x = b
    · subst c
      simp [Nat.add_mul]
      omega
    · have c2 : (x == b) = false := by simpa using c
      simp [c2]
theorem widen_mem {row : List Int} {w : Nat} {b : Int} : b ∈ widen row w → b ∈ row := fun h => by
  obtain ⟨l, hl, hb⟩ := List.mem_flatten.mp h
  obtain ⟨x, hx, rfl⟩ := List.mem_map.mp hl
  rw [(List.mem_replicate.mp hb).2]
  exact hx
theorem widen_away {row : List Int} {w : Nat} {a : Int} (hw : 0 < w) (h : AwayOf row a) : AwayOf (widen row w) a := by
  refine ⟨?_, fun b hb => ?_⟩
  · have := List.count_pos_iff.mpr h.1
    refine List.count_pos_iff.mp ?_
    rw [widen_count]
    exact Nat.mul_pos this hw
  · rw [widen_count, widen_count]
    rcases h.2 b (widen_mem hb) with c | ⟨c, d⟩
    · exact .inl (Nat.mul_lt_mul_of_pos_right c hw)
    · exact .inr ⟨by rw [c], d⟩
theorem widen_at : ∀ (row : List Int) (w s : Nat), 0 < w → (widen row w)[s]? = row[s / w]?
  | [], w, s, _ => by simp [widen]
  | x :: r, w, s, hw => by
    have e : widen (x :: r) w = List.replicate w x ++ widen r w := rfl
    rw [e]
    by_cases c : s < w
    · rw [List.getElem?_append_left (by rw [List.length_replicate]; exact c), List.getElem?_replicate, if_pos c, Nat.div_eq_of_lt c]
      rfl
    · rw [List.getElem?_append_right (by rw [List.length_replicate]; omega), List.length_replicate, widen_at r w (s - w) hw]
      have : s / w = (s - w) / w + 1 := by
        rw [Nat.div_eq_sub_div hw (by omega)]
      rw [this]
      rfl
theorem widen_inj {r r' : List Int} {w : Nat} (hw : 0 < w) (h : widen r w = widen r' w) : r = r' := by
  refine List.ext_getElem? fun i => ?_
  have h1 := widen_at r w (i * w) hw
  have h2 := widen_at r' w (i * w) hw
  rw [Nat.mul_div_cancel _ hw] at h1 h2
  rw [← h1, ← h2, h]
/-- the signs of the i-th stretch -/
theorem take_beh {L : List Int} {i : Nat} {f st : Int} (h : (rle L)[i]? = some (f, st)) : L.take (beh (rle L) (L.length : Nat) i).toNat = L.take f.toNat ++ List.replicate (beh (rle L) (L.length : Nat) i - f).toNat st := by
  obtain ⟨a1, a2, a3, a4⟩ := (rle_p L).at_ i f st h
  refine List.ext_getElem? fun s => ?_
  by_cases c1 : s < f.toNat
  · rw [List.getElem?_append_left (by rw [List.length_take]; omega), List.getElem?_take_of_lt (by omega), List.getElem?_take_of_lt c1]
  · have lf : (L.take f.toNat).length = f.toNat := by rw [List.length_take]; omega
    rw [List.getElem?_append_right (by omega), lf, List.getElem?_replicate]
    by_cases c2 : (s : Int) < beh (rle L) (L.length : Nat) i
    · rw [if_pos (by omega), List.getElem?_take_of_lt (by omega)]
      exact a4 s (by omega) c2
    · rw [if_neg (by omega), List.getElem?_eq_none (by rw [List.length_take]; omega)]
end K17
set_option Elab.async false
set_option linter.all false
set_option maxRecDepth 100001
set_option maxHeartbeats 3999999
namespace K17
open PySem L2
abbrev sIsRow : Stmt := topS 21
abbrev sStr : Stmt := topS 22
abbrev sPut : Stmt := topS 23
abbrev sTold : Stmt := topS 24
abbrev sTarget : Stmt := topS 25
/-- pairs, triples of ints in the heap -/
def PrAt (H : Hp) : List V → List (Int × Int) → Prop := Paired fun v p => ∃ a, v = .ref a ∧ H a = some (.tup [.int p.1, .int p.2])
def TrAt (H : Hp) : List V → List Mv → Prop := Paired fun v p => ∃ a, v = .ref a ∧ H a = some (.tup [.int p.1, .int p.2.1, .int p.2.2])
/-- all but what is at L is as it was -/
def But1 (L : Addr) (H H' : Hp) : Prop := ∀ b o, b ≠ L → H b = some o → H' b = some o
theorem PrAt.but {H H' : Hp} {L : Addr} {xs ts : List V} {l : List (Int × Int)} (h : PrAt H ts l) (hL : H L = some (.lst xs)) (e : But1 L H H') : PrAt H' ts l := Paired.mapP h fun _ _ ⟨a, h1, h2⟩ => ⟨a, h1, e _ _ (ne_of h2 hL fun z => nomatch z) h2⟩
theorem PrAt.same {H H' : Hp} {ts : List V} {l : List (Int × Int)} (h : PrAt H ts l) (e : Same H H') : PrAt H' ts l := Paired.mapP h fun _ _ ⟨a, h1, h2⟩ => ⟨a, h1, e _ _ h2⟩
theorem TrAt.same {H H' : Hp} {ts : List V} {l : List Mv} (h : TrAt H ts l) (e : Same H H') : TrAt H' ts l := Paired.mapP h fun _ _ ⟨a, h1, h2⟩ => ⟨a, h1, e _ _ h2⟩
theorem paired_at {α β : Type} {F : α → β → Prop} : ∀ {ts : List α} {ps : List β} {i : Nat} {v : α}, Paired F ts ps → ts[i]? = some v → ∃ p, ps[i]? = some p ∧ F v p
  | _, _, _, _, .nil, h => by simp at h
  | _, _, 0, _, .cons h _, e => by cases e; exact ⟨_, rfl, h⟩
  | _, _, i + 1, v, .cons _ t, e => paired_at (i := i) t (by simpa using e)
theorem paired_to {α β : Type} {F : α → β → Prop} : ∀ {ts : List α} {ps : List β} {i : Nat} {p : β}, Paired F ts ps → ps[i]? = some p → ∃ v, ts[i]? = some v ∧ F v p
  | _, _, _, _, .nil, h => by simp at h
  | _, _, 0, _, .cons h _, e => by cases e; exact ⟨_, rfl, h⟩
  | _, _, i + 1, v, .cons _ t, e => paired_to (i := i) t (by simpa using e)
/-- a list or a tuple at u -/
def LT (H : Hp) (u : Addr) (ts : List V) : Prop := H u = some (.lst ts) ∨ H u = some (.tup ts)
theorem LT.sq {K : PySem.W.Frag} {H : Hp} {u : Addr} {ts : List V} (h : LT H u ts) : Sq K H u ts := h.elim (fun h => .inl (SqL.of h)) fun h => .inr (SqT.of h)
theorem LT.same {H H' : Hp} {u : Addr} {ts : List V} (h : LT H u ts) (e : Same H H') : LT H' u ts := h.imp (fun h => e _ _ h) fun h => e _ _ h
/-- a row that is told: away, and moves -/
def RowAt (H : Hp) (v : V) (a : Int) (ms : List Mv) : Prop := ∃ t u ts, v = .ref t ∧ H t = some (.tup [.int a, .ref u]) ∧ LT H u ts ∧ TrAt H ts ms
theorem RowAt.same {H H' : Hp} {v : V} {a : Int} {ms : List Mv} (h : RowAt H v a ms) (e : Same H H') : RowAt H' v a ms := let ⟨t, u, ts, h1, h2, h3, h4⟩ := h; ⟨t, u, ts, h1, e _ _ h2, h3.same e, h4.same e⟩
section
variable {P : Program} {w : World} {K : PySem.W.Frag} {mg : Str → Option Value} {base : Heap}
def spList : Sp := fun vs H Q _ => ∃ u ts, vs = [.ref u] ∧ LT H u ts ∧ ∀ H', Same H H' → Q (.bl true) H'
theorem scList : FnScope ["value"] ["value"] (defScope sList) := ⟨rfl, rfl, rfl, by decide +kernel, rfl, by decide +kernel, by decide +kernel⟩
def spIsRow : Sp := fun vs H Q _ => ∃ (v : V) (n k a : Int) (ms : List Mv), vs = [v, .int n, .int k] ∧ RowAt H v a ms ∧ OkM n k ms ∧ 0 ≤ a ∧ a ≤ k - 1 ∧ ∀ H', Same H H' → Q (.bl true) H'
theorem scIsRow : FnScope ["row", "signs", "states", "least", "move", "first", "last", "state"] ["row", "signs", "states"] (defScope sIsRow) := ⟨rfl, rfl, rfl, by decide +kernel, rfl, by decide +kernel, by decide +kernel⟩
theorem btw_t {i lo hi : Int} (h1 : lo ≤ i) (h2 : i ≤ hi) : btw (.int i) lo hi = true := decide_eq_true ⟨h1, h2⟩
theorem ok_isRow {f : Addr} {fd : FuncData} (F : Fun K "is_row" "is_row" sIsRow f fd) (B : Bi mg) (cT : Cal CX0 P w K mg base 1 "is_tuple_of" spTupOf) (cB : Cal CX0 P w K mg base 2 "is_between" spBetween) (cL : Cal CX0 P w K mg base 1 "is_list" spList) : FnOk P w K mg base CX0 3 f fd ["row", "signs", "states"] spIsRow := by
  refine F.ok scIsRow (fun vs H Q E h => ?_) (fun cdv A outer s H vs Q E hr h => ?_)
  · obtain ⟨v, n, k, a, ms, rfl, _⟩ := h
    rfl
  · obtain ⟨v, n, k, a, ms, rfl, ⟨t, u, ts, rfl, ht, hu, hts⟩, ok, a1, a2, q⟩ := h
    refine ⟨_, pss_cons (ps_if (PW.pt (pw_or (pt_not (pt_val (pe_c cT hr pass0 (pa_cons (pv 0) (pa_cons pe_int pa_nil))))) (pw_or (pt_not (pt_val (pe_c cB hr pass0 (pa_cons (pe_ix ix_tup (pv 0) pe_int (fun _ _ => rfl)) (pa_cons pe_int (pa_cons (pe_op op_sub (pv 2) pe_int) pa_nil))))))
          (pw_or1 (pt_not (pt_val (pe_c cL hr pass0 (pa_cons (pe_ix ix_tup (pv 0) pe_int (fun _ _ => rfl)) pa_nil)))))))) pss_never pss_nil)
      (pss_cons (ps_set (i := 3) scIsRow.nd rfl (Or.inl rfl) pe_int)
      (pss_cons (ps_for PassesOwn.never rfl (pi_sqA (pe_ix ix_tup (pv 0) pe_int (fun _ _ => rfl))) (pg_name (i := 4) scIsRow.nd rfl (.inl rfl))
        (pss_cons (ps_if (pt_not (pt_val (pe_c cT hr pass0 (pa_cons (pv 4) (pa_cons pe_int pa_nil))))) pss_never pss_nil)
        (pss_cons (ps_asg (pv 4) (pg_tup rfl (pgs_cons (pg_name (i := 5) scIsRow.nd rfl (.inl rfl)) (pgs_cons (pg_name (i := 6) scIsRow.nd rfl (.inl rfl)) (pgs_cons (pg_name (i := 7) scIsRow.nd rfl (.inl rfl)) pgs_nil)))))
        (pss_cons (ps_if (PW.pt (pw_or (pt_not (pt_val (pe_c cB hr pass0 (pa_cons (pv 5) (pa_cons (pv 3) (pa_cons (pe_op op_sub (pv 1) pe_int) pa_nil)))))) (pw_or1 (pt_not (pt_val (pe_c cB hr pass0 (pa_cons (pv 6) (pa_cons (pv 5) (pa_cons (pe_op op_sub (pv 1) pe_int) pa_nil))))))))) pss_never pss_nil)
        (pss_cons (ps_if (pt_not (pt_val (pe_c cB hr pass0 (pa_cons (pv 7) (pa_cons pe_int (pa_cons (pe_op op_sub (pv 2) pe_int) pa_nil)))))) pss_never pss_nil)
        (pss_one (ps_set (i := 3) scIsRow.nd rfl (Or.inl rfl) (pe_op op_add (pv 6) pe_int))))))))
      (pss_one (ps_ret pe_bl)))), ?_⟩
    have kt : Kn H (.ref t) := .tup ht
    refine ⟨_, rfl, .ref t, 2, rfl, kt, _, rfl, ?_⟩
    rw [show isTn H (.ref t) 2 = true by simp [isTn, ht]]
    refine iteF ?_
    refine ⟨_, rfl, t, _, 0, .int a, rfl, rfl, SqT.of ht, rfl, _, rfl, _, _, rfl, rfl, .int a, 0, k - 1, rfl, .int a, _, rfl, ?_⟩
    rw [btw_t a1 a2]
    refine iteF ?_
    refine ⟨_, rfl, t, _, 1, .ref u, rfl, rfl, SqT.of ht, rfl, u, ts, rfl, hu, fun HX eX => ?_⟩
    refine ⟨_, rfl, ?_⟩
    refine iteF ?_
    have ht := eX _ _ ht
    have hu := hu.same eX
    have hts := hts.same eX
    have q := q _ eX
    clear eX kt
    refine ⟨_, rfl, t, _, 1, .ref u, rfl, rfl, SqT.of ht, rfl, u, ts, rfl, hu.sq, fun J G wk hG => for_it wk (fun i σ H' => ∃ (b c d e : Option V), σ = [some (.ref t), some (.int n), some (.int k), some (.int (endM (ms.take i))), b, c, d, e] ∧ H' = HX) ⟨none, none, none, none, rfl, rfl⟩ (fun i σ H' _ ⟨_, _, _, _, _, e⟩ => hG H' fun o z => by rw [e]; exact z) ?_ ?_⟩
    · rintro i x σ H1 H2 hi ⟨b, c, d, e, rfl, rfl⟩ ⟨rfl, hx⟩
      obtain ⟨m, hm, x0, rfl, hx0⟩ := paired_at hts hx
      obtain ⟨f, l, s⟩ := m
      obtain ⟨o1, o2, o3, o4, o5⟩ := ok i _ hm
      refine ⟨_, rfl, .ref x0, 3, rfl, .tup hx0, _, rfl, ?_⟩
      rw [show isTn H2 (.ref x0) 3 = true by simp [isTn, hx0]]
      refine iteF ?_
      refine ⟨_, rfl, x0, _, rfl, SqT.of hx0, rfl, _, _, rfl, _, _, rfl, _, _, rfl, rfl, ?_⟩
      refine ⟨_, rfl, _, rfl, _, rfl, _, _, rfl, rfl, .int f, _, n - 1, rfl, .int f, _, rfl, ?_⟩
      rw [btw_t o1 (by show f ≤ n - 1; have : f ≤ l := o2; have : l ≤ n - 1 := o3; omega)]
      refine iteF ?_
      refine ⟨_, rfl, _, rfl, _, rfl, _, _, rfl, rfl, .int l, f, n - 1, rfl, .int l, _, rfl, ?_⟩
      rw [btw_t o2 o3]
      refine iteF ?_
      refine ⟨_, rfl, _, rfl, _, _, rfl, rfl, .int s, 0, k - 1, rfl, .int s, _, rfl, ?_⟩
      rw [btw_t o4 o5]
      refine iteF ?_
      refine ⟨_, rfl, _, _, rfl, rfl, some (.ref x0), some (.int f), some (.int l), some (.int s), ?_, rfl⟩
      rw [take_snoc hm, endM_snoc]
      rfl
    · rintro σ H1 ⟨b, c, d, e, rfl, rfl⟩
      exact q
/-- put_stretch(told, first, state) -/
def spPut : Sp := fun vs H Q _ => ∃ (L : Addr) (f s : Int) (ts : List V) (l : List (Int × Int)), vs = [.ref L, .int f, .int s] ∧ H L = some (.lst ts) ∧ PrAt H ts l ∧ ts.length ≤ 10000 ∧ ∀ H' ts', But1 L H H' → H' L = some (.lst ts') → PrAt H' ts' (put l f s) → Q .non H'
theorem scPut : FnScope ["told", "first", "state"] ["told", "first", "state"] (defScope sPut) := ⟨rfl, rfl, rfl, by decide +kernel, rfl, by decide +kernel, by decide +kernel⟩
theorem ok_put {f : Addr} {fd : FuncData} (F : Fun K "put_stretch" "put_stretch" sPut f fd) : FnOk P w K mg base CX0 1 f fd ["told", "first", "state"] spPut := by
  refine F.ok scPut (fun vs H Q E h => ?_) (fun cdv A outer s H vs Q E hr h => ?_)
  · obtain ⟨L, f, s, ts, l, rfl, _⟩ := h
    rfl
  · obtain ⟨L, f, st, ts, l, rfl, hL, pr, len, q⟩ := h
    refine ⟨_, pss_one (ps_if (PW.pt (pw_or (pt_not (pt_truth (pv 0) (by intro _; rfl))) (pw_or1 (pt_cmpR op_ne (pe_ix ix_tup (pe_ix ix_list (pv 0) (pe_un un_neg pe_int) (fun _ _ => rfl)) pe_int (fun _ _ => rfl)) (pv 2) (nomark _)))))
      (pss_one (ps_expr (pe_bm PySem.F.plainAttrs_list PySem.F.slot_list_append PySem.F.type_list_append mt_append (pv 0) (pa_cons (pe_tup (pa_cons (pv 1) (pa_cons (pv 2) pa_nil))) pa_nil)))) pss_nil), ?_⟩
    have fin : put l f st = l ++ [(f, st)] → tDrop (tBM K "list" rAppend (tVar 0) (tCons (tTup (tCons (tVar 1) (tCons (tVar 2) tNil))) tNil)) { nx := fun _ H' => Q .non H', rt := Q } [some (.ref L), some (.int f), some (.int st)] H := fun e => by
      refine ⟨_, rfl, .inl ⟨rfl, _, SqL.of hL⟩, _, rfl, _, rfl, by show 2 ≤ sizeLine; decide, fun t nt => ⟨L, ts, _, rfl, rfl, (upd_ne (ne_of_none hL nt)).trans hL, small10 len, ?_⟩⟩
      have ntL : t ≠ L := Ne.symm (ne_of_none hL nt)
      have e1 : But1 L H (upd (upd H t (.tup [.int f, .int st])) L (.lst (ts ++ [.ref t]))) := fun b o n z => by
        rw [upd_ne n, upd_ne (ne_of_none z nt)]
        exact z
      refine q _ _ e1 upd_same ?_
      rw [e]
      exact Paired.snoc (pr.but hL e1) ⟨t, rfl, (upd_ne ntL).trans upd_same⟩
    rcases List.eq_nil_or_concat l with rfl | ⟨l, p, rfl⟩
    · cases pr
      refine ⟨_, rfl, false, .inl ⟨[], SqL.of hL, rfl⟩, ?_⟩
      refine iteT ?_
      refine iteT ?_
      exact fin rfl
    · rw [List.concat_eq_append] at pr fin q
      obtain ⟨us, v, rfl, pu, a0, rfl, ha0⟩ := paired_last pr
      refine ⟨_, rfl, true, .inl ⟨us ++ [V.ref a0], SqL.of hL, by cases us <;> rfl⟩, ?_⟩
      refine iteF ?_
      have two : atI [V.int p.1, V.int p.2] 1 = some (V.int p.2) := rfl
      refine ⟨_, rfl, _, rfl, L, _, _, _, rfl, rfl, SqL.of hL, atI_last us (V.ref a0), a0, _, _, _, rfl, rfl, SqT.of ha0, two, _, rfl, rfl, _, rfl, ?_⟩
      rw [dec_int]
      by_cases c : p.2 = st
      · rw [show (p.2 == st) = true by simpa using c]
        refine iteF ?_
        refine q H (us ++ [V.ref a0]) (fun _ _ _ z => z) hL ?_
        obtain ⟨p1, p2⟩ := p
        cases c
        rw [put_same]
        exact pr
      · rw [show (p.2 == st) = false by simpa using c]
        refine iteT ?_
        exact fin (put_new c)
/-- target_of(row, sign) -/
def spTarget : Sp := fun vs H Q _ => ∃ (t : Addr) (ts : List V) (L : List Int) (s : Nat) (st : Int), vs = [.ref t, .int (s : Nat)] ∧ H t = some (.tup ts) ∧ PrAt H ts (rle L) ∧ ts.length ≤ 10000 ∧ L[s]? = some st ∧ Q (.int st) H
theorem scTarget : FnScope ["row", "sign", "low", "high", "middle"] ["row", "sign"] (defScope sTarget) := ⟨rfl, rfl, rfl, by decide +kernel, rfl, by decide +kernel, by decide +kernel⟩
theorem ok_target {f : Addr} {fd : FuncData} (F : Fun K "target_of" "target_of" sTarget f fd) (B : Bi mg) : FnOk P w K mg base CX0 1 f fd ["row", "sign"] spTarget := by
  refine F.ok scTarget (fun vs H Q E h => ?_) (fun cdv A outer s H vs Q E hr h => ?_)
  · obtain ⟨t, ts, L, s, st, rfl, _⟩ := h
    rfl
  · obtain ⟨t, ts, L, sg, st, rfl, ht, pr, len, hs, q⟩ := h
    refine ⟨_, pss_cons (ps_par (i := 2) (j := 3) rfl scTarget.nd rfl rfl (by decide) rfl rfl (pa_cons pe_int (pa_cons (pe_len B.len (pa_cons (pv 0) pa_nil)) pa_nil)) rfl)
      (pss_cons (ps_while PassesOwn.never (pt_cmpR op_gt (pe_op op_sub (pv 3) (pv 2)) pe_int (nomark _))
        (pss_cons (ps_set (i := 4) scTarget.nd rfl (Or.inl rfl) (pe_op op_fdiv (pe_op op_add (pv 2) (pv 3)) pe_int))
        (pss_one (ps_if (pt_cmpR op_le (pe_ix ix_tup (pe_ix ix_tup (pv 0) (pv 4) (fun _ _ => rfl)) pe_int (fun _ _ => rfl)) (pv 1) (nomark _)) (pss_one (ps_set (i := 2) scTarget.nd rfl (Or.inl rfl) (pv 4))) (pss_one (ps_set (i := 3) scTarget.nd rfl (Or.inl rfl) (pv 4)))))))
      (pss_one (ps_ret (pe_ix ix_tup (pe_ix ix_tup (pv 0) (pv 2) (fun _ _ => rfl)) pe_int (fun _ _ => rfl))))), ?_⟩
    have P0 := rle_p L
    have plen : ts.length = (rle L).length := Paired.length pr
    have hsl := (List.getElem?_eq_some_iff.mp hs).1
    have ne : rle L ≠ [] := P0.some_ (fun e => by rw [e] at hsl; exact absurd hsl (Nat.not_lt_zero _))
    have pos : 0 < ts.length := by rw [plen]; exact List.length_pos_iff.mpr ne
    have item : ∀ i : Nat, i < ts.length → ∃ (p : Int × Int) (a : Addr), (rle L)[i]? = some p ∧ ts[i]? = some (.ref a) ∧ H a = some (.tup [.int p.1, .int p.2]) := fun i hi => by
      obtain ⟨p, hp, a, ea, ha⟩ := paired_at pr (List.getElem?_eq_getElem hi)
      exact ⟨p, a, hp, by rw [List.getElem?_eq_getElem hi, ea], ha⟩
    refine ⟨_, rfl, t, ts, rfl, .inr (SqT.of ht), _, _, rfl, ?_⟩
    refine while_by (fun σ H' => ∃ (lo hi : Nat) (a : Option V), σ = [some (.ref t), some (.int (sg : Nat)), some (.int (lo : Nat)), some (.int (hi : Nat)), a] ∧ H' = H ∧ lo < hi ∧ hi ≤ ts.length ∧ (∀ p, (rle L)[lo]? = some p → p.1 ≤ (sg : Nat)) ∧ (hi < ts.length → ∀ p, (rle L)[hi]? = some p → ((sg : Nat) : Int) < p.1))
      (fun σ _ => match σ with | [_, _, some (.int lo), some (.int hi), _] => (hi - lo).toNat | _ => 0) ⟨0, ts.length, none, rfl, rfl, pos, Nat.le_refl _, fun p hp => ?_, fun z => absurd z (Nat.lt_irrefl _)⟩ ?_ ?_
    · have := P0.zero p hp
      omega
    · rintro σ H1 ⟨lo, hi, a, rfl, rfl, h1, h2, h3, h4⟩
      refine ⟨_, rfl, _, rfl, _, _, rfl, rfl, _, _, rfl, rfl, _, rfl, ?_⟩
      by_cases c : (1 : Int) < (hi : Nat) - (lo : Nat)
      · rw [decide_eq_true c]
        refine iteT ?_
        refine ⟨_, rfl, _, rfl, _, _, rfl, rfl, _, _, rfl, rfl, ⟨by decide, by decide⟩, ?_⟩
        obtain ⟨mid, em⟩ := Int.eq_ofNat_of_zero_le (show (0 : Int) ≤ (((lo : Nat) : Int) + ((hi : Nat) : Int)) / 2 by omega)
        have m1 : lo < mid := by omega
        have m2 : mid < hi := by omega
        rw [show (fun i j : Int => V.int (i / j)) (((lo : Nat) : Int) + ((hi : Nat) : Int)) 2 = V.int (mid : Nat) from congrArg V.int em]
        obtain ⟨p, x, hp, hx, hh⟩ := item mid (by omega)
        have one : atI [V.int p.1, V.int p.2] 0 = some (V.int p.1) := rfl
        refine ⟨_, rfl, _, rfl, t, ts, _, .ref x, rfl, rfl, SqT.of ht, atI_nat hx, x, _, _, _, rfl, rfl, SqT.of hh, one, _, rfl, _, _, rfl, rfl, _, rfl, ?_⟩
        by_cases d : p.1 ≤ ((sg : Nat) : Int)
        · rw [decide_eq_true d]
          refine iteT ⟨_, rfl, ⟨mid, hi, _, rfl, rfl, m2, h2, fun p' hp' => ?_, h4⟩, ?_⟩
          · rw [hp] at hp'
            cases hp'
            exact d
          · show (((hi : Nat) : Int) - ((mid : Nat) : Int)).toNat < (((hi : Nat) : Int) - ((lo : Nat) : Int)).toNat
            omega
        · rw [decide_eq_false d]
          refine iteF ⟨_, rfl, ⟨lo, mid, _, rfl, rfl, m1, by omega, h3, fun _ p' hp' => ?_⟩, ?_⟩
          · rw [hp] at hp'
            cases hp'
            omega
          · show (((mid : Nat) : Int) - ((lo : Nat) : Int)).toNat < (((hi : Nat) : Int) - ((lo : Nat) : Int)).toNat
            omega
      · rw [decide_eq_false c]
        refine iteF ?_
        have e : hi = lo + 1 := by omega
        obtain ⟨p, x, hp, hx, hh⟩ := item lo (by omega)
        have two : atI [V.int p.1, V.int p.2] 1 = some (V.int p.2) := rfl
        refine ⟨_, rfl, _, rfl, t, ts, _, .ref x, rfl, rfl, SqT.of ht, atI_nat hx, x, _, _, _, rfl, rfl, SqT.of hh, two, ?_⟩
        obtain ⟨a1, a2, a3, a4⟩ := P0.at_ lo p.1 p.2 hp
        have e2 : L[sg]? = some p.2 := by
          refine a4 sg (h3 p hp) ?_
          unfold beh
          cases z : (rle L)[lo + 1]? with
          | none => show ((sg : Nat) : Int) < (L.length : Nat); omega
          | some p2 =>
            have lt := (List.getElem?_eq_some_iff.mp z).1
            exact h4 (by omega) p2 (by rw [e]; exact z)
        rw [hs] at e2
        rw [← Option.some.inj e2]
        exact q
    · exact fun σ H Q Q' m ⟨v, h1, u, h2, i, j, e1, e2, i2, j2, e3, e4, b, e5, x⟩ => ⟨v, h1, u, h2, i, j, e1, e2, i2, j2, e3, e4, b, e5, m _ _ x⟩
end
end K17
set_option Elab.async false
set_option linter.all false
set_option maxRecDepth 100001
set_option maxHeartbeats 3999999
namespace K17
open PySem L2
theorem put_len (l : List (Int × Int)) (f s : Int) : (put l f s).length ≤ l.length + 1 := by
  rcases List.eq_nil_or_concat l with rfl | ⟨l, q, rfl⟩
  · exact Nat.le_refl _
  · rw [List.concat_eq_append]
    by_cases c : q.2 = s
    · obtain ⟨a, b⟩ := q
      cases c
      rw [put_same]
      omega
    · rw [put_new c]
      simp
theorem rle_len (L : List Int) : (rle L).length ≤ L.length := by
  have key : ∀ (M : List Int) (a : List (Int × Int) × Int), (M.foldl rleF a).1.length ≤ a.1.length + M.length := by
    intro M
    induction M with
    | nil => exact fun a => Nat.le_refl _
    | cons x M ih =>
      intro a
      have h1 := ih (rleF a x)
      have h2 := put_len a.1 a.2 x
      rw [List.foldl_cons, List.length_cons]
      show (List.foldl rleF (rleF a x) M).1.length ≤ _
      have h3 : (rleF a x).1.length ≤ a.1.length + 1 := h2
      omega
  have := key L ([], 0)
  simpa [rle] using this
/-- the first put of a turn -/
theorem put_away (E : List Int) (a f : Int) (h : ((E.length : Nat) : Int) < f) : put (rle E) (E.length : Nat) a = rle (E ++ List.replicate (f.toNat - E.length) a) := by
  have e : f.toNat - E.length = (f.toNat - E.length - 1) + 1 := by omega
  rw [e, rle_rep]
theorem put_state (E : List Int) (f l s : Int) (h : ((E.length : Nat) : Int) = f) (h2 : f ≤ l) : put (rle E) f s = rle (E ++ List.replicate (l + 1 - f).toNat s) := by
  have e : (l + 1 - f).toNat = (l - f).toNat + 1 := by omega
  rw [e, rle_rep, h]
section
variable {P : Program} {w : World} {K : PySem.W.Frag} {mg : Str → Option Value} {base : Heap}
theorem ok_list {f : Addr} {fd : FuncData} (F : Fun K "is_list" "is_list" sList f fd) (B : Bi mg) : FnOk P w K mg base CX0 1 f fd ["value"] spList := by
  refine F.ok scList (fun vs H Q E h => ?_) (fun cdv A outer s H vs Q E hr h => ?_)
  · obtain ⟨u, ts, rfl, _⟩ := h
    rfl
  · obtain ⟨u, ts, rfl, hu, q⟩ := h
    refine ⟨_, pss_one (ps_ret (pe_callB call_isiT rfl B.isi PyProof.Rows.boot_isinstance (pa_cons (pv 0) (pa_cons (pe_tup (pa_cons (pe_ty "list" B.list) (pa_cons (pe_ty "tuple" B.tuple) pa_nil))) pa_nil)))), ?_⟩
    refine ⟨_, rfl, by show 2 ≤ sizeLine; decide, fun tp ntp => ?_⟩
    have e := same_new (o := .tup [.ty "list", .ty "tuple"]) ntp
    obtain ⟨_, _, g3, g4, _⟩ := kt_tup (K := K)
    obtain ⟨_, _, _, h4, _⟩ := kt_lst (K := K)
    rcases hu with h | h
    · exact ⟨.ref u, tp, _, .type "list", [.type "list", .type "tuple"], true, rfl, upd_same, .cons (.ty "list") (.cons (.ty "tuple") .nil), .base (.lst (e _ _ h)), kitAny_cons h4 (fun z => nomatch z) (fun _ => rfl), q _ e⟩
    · exact ⟨.ref u, tp, _, .type "tuple", [.type "list", .type "tuple"], true, rfl, upd_same, .cons (.ty "list") (.cons (.ty "tuple") .nil), .base (.tup (e _ _ h)), kitAny_cons g4 (fun _ => kitAny_cons g3 (fun z => nomatch z) (fun _ => rfl)) (fun z => nomatch z), q _ e⟩
/-- stretch_row(away, moves, signs) -/
def spStr : Sp := fun vs H Q _ => ∃ (a : Int) (u : Addr) (n : Nat) (k : Int) (ts : List V) (ms : List Mv), vs = [.int a, .ref u, .int (n : Nat)] ∧ LT H u ts ∧ TrAt H ts ms ∧ OkM (n : Nat) k ms ∧ n ≤ 5000 ∧
  ∀ t H' rs, Same H H' → H t = none → H' t = some (.tup rs) → PrAt H' rs (rle (expT a ms n)) → Q (.ref t) H'
theorem scStr : FnScope ["away", "moves", "signs", "told", "least", "first", "last", "state"] ["away", "moves", "signs"] (defScope sStr) := ⟨rfl, rfl, rfl, by decide +kernel, rfl, by decide +kernel, by decide +kernel⟩
theorem ok_str {f : Addr} {fd : FuncData} (F : Fun K "stretch_row" "stretch_row" sStr f fd) (B : Bi mg) (cP : Cal CX0 P w K mg base 1 "put_stretch" spPut) : FnOk P w K mg base CX0 2 f fd ["away", "moves", "signs"] spStr := by
  refine F.ok scStr (fun vs H Q E h => ?_) (fun cdv A outer s H vs Q E hr h => ?_)
  · obtain ⟨a, u, n, k, ts, ms, rfl, _⟩ := h
    rfl
  · obtain ⟨a, u, n, k, ts, ms, rfl, hu, hts, ok, hn, q⟩ := h
    refine ⟨_, pss_cons (ps_set (i := 3) scStr.nd rfl (Or.inl rfl) (pe_lst pa_nil)) (pss_cons (ps_set (i := 4) scStr.nd rfl (Or.inl rfl) pe_int)
      (pss_cons (ps_for PassesOwn.never rfl (pi_sqA (pv 1)) (pg_tup rfl (pgs_cons (pg_name (i := 5) scStr.nd rfl (.inl rfl)) (pgs_cons (pg_name (i := 6) scStr.nd rfl (.inl rfl)) (pgs_cons (pg_name (i := 7) scStr.nd rfl (.inl rfl)) pgs_nil))))
        (pss_cons (ps_if (pt_cmpR op_gt (pv 5) (pv 4) (nomark _)) (pss_one (ps_expr (pe_c cP hr pass0 (pa_cons (pv 3) (pa_cons (pv 4) (pa_cons (pv 0) pa_nil)))))) pss_nil)
        (pss_cons (ps_expr (pe_c cP hr pass0 (pa_cons (pv 3) (pa_cons (pv 5) (pa_cons (pv 7) pa_nil)))))
        (pss_one (ps_set (i := 4) scStr.nd rfl (Or.inl rfl) (pe_op op_add (pv 6) pe_int))))))
      (pss_cons (ps_if (pt_cmpR op_lt (pv 4) (pv 2) (nomark _)) (pss_one (ps_expr (pe_c cP hr pass0 (pa_cons (pv 3) (pa_cons (pv 4) (pa_cons (pv 0) pa_nil)))))) pss_nil)
      (pss_one (ps_ret (pe_tupleOf rfl B.tuple (pv 3))))))), ?_⟩
    refine ⟨Nat.zero_le _, fun L nL => ?_⟩
    have uL : u ≠ L := hu.elim (fun h => ne_of_none h nL) fun h => ne_of_none h nL
    have hu0 : LT (upd H L (.lst [])) u ts := hu.same (same_new nL)
    have small : ∀ {E : List Int} {rs : List V} {H' : Hp}, PrAt H' rs (rle E) → ((E.length : Nat) : Int) ≤ (n : Nat) → rs.length ≤ 10000 := fun {E rs H'} pr hE => by
      have h1 := Paired.length pr
      have h2 := rle_len E
      omega
    refine ⟨_, rfl, u, ts, rfl, hu0.sq, fun J G wk hG => for_it wk (fun i σ H' => ∃ (b c d : Option V) (rs : List V), σ = [some (.int a), some (.ref u), some (.int (n : Nat)), some (.ref L), some (.int (endM (ms.take i))), b, c, d] ∧ Same H H' ∧ H' L = some (.lst rs) ∧ PrAt H' rs (rle (expM a (ms.take i))))
      ⟨none, none, none, [], rfl, same_new nL, upd_same, .nil⟩ (fun i σ H' _ ⟨_, _, _, _, _, e, _⟩ => hG H' fun o z => ?_) ?_ ?_⟩
    · rw [upd_ne uL] at z
      exact e _ _ z
    · rintro i x σ H1 H2 hi ⟨b, c, d, rs, rfl, e, hL, pr⟩ ⟨rfl, hx⟩
      obtain ⟨m, hm, x0, rfl, hx0⟩ := paired_at hts hx
      obtain ⟨f, l, st⟩ := m
      obtain ⟨o1, o2, o3, o4, o5⟩ := ok i _ hm
      have o1 : endM (ms.take i) ≤ f := o1
      have o2 : f ≤ l := o2
      have o3 : l ≤ ((n : Nat) : Int) - 1 := o3
      obtain ⟨l1, l2, _⟩ := expM_len (a := a) (ok.take i)
      refine ⟨x0, _, rfl, SqT.of (e _ _ hx0), rfl, _, _, rfl, _, _, rfl, _, _, rfl, rfl, ?_⟩
      have fin : ∀ (E1 : List Int) (H4 : Hp) (rs4 : List V), E1 ++ List.replicate (l + 1 - f).toNat st = expM a (ms.take (i + 1)) → ((E1.length : Nat) : Int) = f → Same H H4 → H4 L = some (.lst rs4) → PrAt H4 rs4 (put (rle E1) f st) →
          ∃ (b c d : Option V) (rs : List V), [some (V.int a), some (.ref u), some (.int (n : Nat)), some (.ref L), some (.int (l + 1)), some (.int f), some (.int l), some (.int st)] = [some (.int a), some (.ref u), some (.int (n : Nat)), some (.ref L), some (.int (endM (ms.take (i + 1)))), b, c, d] ∧ Same H H4 ∧ H4 L = some (.lst rs) ∧ PrAt H4 rs (rle (expM a (ms.take (i + 1)))) := by
        intro E1 H4 rs4 hE hl e4 hL4 pr4
        refine ⟨some (.int f), some (.int l), some (.int st), rs4, ?_, e4, hL4, ?_⟩
        · rw [take_snoc hm, endM_snoc]
        · rw [put_state E1 f l st hl o2, hE] at pr4
          exact pr4
      have step : expM a (ms.take (i + 1)) = expM a (ms.take i) ++ List.replicate (f.toNat - (expM a (ms.take i)).length) a ++ List.replicate (l + 1 - f).toNat st := by
        rw [take_snoc hm, expM_snoc]
        rfl
      refine ⟨_, rfl, _, rfl, _, _, rfl, rfl, _, rfl, ?_⟩
      by_cases c1 : endM (ms.take i) < f
      · rw [decide_eq_true c1]
        refine iteT ⟨_, rfl, _, rfl, _, rfl, L, _, a, rs, _, rfl, hL, pr, small pr (by omega), fun H3 rs3 b3 hL3 pr3 => ?_⟩
        rw [← l1, put_away _ a f (by omega)] at pr3
        have e3 : Same H H3 := fun b o z => b3 _ _ (ne_of_none z nL) (e _ _ z)
        have len3 : (((expM a (ms.take i) ++ List.replicate (f.toNat - (expM a (ms.take i)).length) a).length : Nat) : Int) = f := by rw [List.length_append, List.length_replicate]; omega
        refine ⟨_, rfl, _, rfl, _, rfl, L, f, st, rs3, _, rfl, hL3, pr3, small pr3 (by omega), fun H4 rs4 b4 hL4 pr4 => ?_⟩
        exact ⟨_, rfl, _, _, rfl, rfl, fin _ H4 rs4 step.symm len3 (fun b o z => b4 _ _ (ne_of_none z nL) (e3 _ _ z)) hL4 pr4⟩
      · rw [decide_eq_false c1]
        refine iteF ?_
        have z0 : f.toNat - (expM a (ms.take i)).length = 0 := by omega
        rw [z0] at step
        refine ⟨_, rfl, _, rfl, _, rfl, L, f, st, rs, _, rfl, hL, pr, small pr (by omega), fun H4 rs4 b4 hL4 pr4 => ?_⟩
        exact ⟨_, rfl, _, _, rfl, rfl, fin _ H4 rs4 (by rw [step]; simp) (by omega) (fun b o z => b4 _ _ (ne_of_none z nL) (e _ _ z)) hL4 pr4⟩
    · rintro σ H1 ⟨b, c, d, rs, rfl, e, hL, pr⟩
      have em : ms.take ts.length = ms := by
        rw [Paired.length hts, List.take_length]
      rw [em] at pr
      obtain ⟨l1, l2, l3⟩ := expM_len (a := a) ok
      have l4 : endM ms ≤ (n : Nat) := by
        rcases l3 with z | z
        · rw [z]
          show (0 : Int) ≤ _
          omega
        · exact z
      have fin : ∀ (H3 : Hp) (rs3 : List V), Same H H3 → H3 L = some (.lst rs3) → PrAt H3 rs3 (rle (expT a ms n)) → ∀ t, H3 t = none → Q (.ref t) (upd H3 t (.tup rs3)) := fun H3 rs3 e3 hL3 pr3 t nt => q t _ rs3 (e3.trans (same_new nt)) (e3.free nt) upd_same (pr3.same (same_new nt))
      rw [em]
      refine ⟨_, rfl, _, rfl, _, _, rfl, rfl, _, rfl, ?_⟩
      by_cases c1 : endM ms < (n : Nat)
      · rw [decide_eq_true c1]
        refine iteT ⟨_, rfl, _, rfl, _, rfl, L, _, a, rs, _, rfl, hL, pr, small pr (by omega), fun H3 rs3 b3 hL3 pr3 => ?_⟩
        rw [← l1, put_away _ a (n : Nat) (by omega), Int.toNat_natCast] at pr3
        exact ⟨_, rfl, .inl ⟨L, rs3, rfl, SqL.of hL3, fin H3 rs3 (fun b o z => b3 _ _ (ne_of_none z nL) (e _ _ z)) hL3 pr3⟩⟩
      · rw [decide_eq_false c1]
        refine iteF ?_
        have z0 : n - (expM a ms).length = 0 := by omega
        refine ⟨_, rfl, .inl ⟨L, rs, rfl, SqL.of hL, fin H1 rs e hL ?_⟩⟩
        unfold expT
        rw [z0]
        simpa using pr
end
end K17
set_option Elab.async false
set_option linter.all false
set_option maxRecDepth 100001
set_option maxHeartbeats 3999999
namespace K17
open PySem L2
/-! ### how often each state is led to -/
structure Cnt (kvs : List (Key × V)) (M : List Int) : Prop where
  val : ∀ s : Int, valV kvs (.inl s) = if s ∈ M then some (.int (M.count s : Nat)) else none
  ent : ∀ e ∈ kvs, ∃ s : Int, s ∈ M ∧ e = (.inl s, .int (M.count s : Nat))
  has : ∀ s : Int, s ∈ M → ((.inl s : Key), V.int (M.count s : Nat)) ∈ kvs
theorem cnt_nil : Cnt [] [] := ⟨fun s => rfl, (fun _ z => nomatch z), (fun _ z => nomatch z)⟩
theorem mem_putK {kvs : List (Key × V)} {k : Key} {v : V} {e : Key × V} : e ∈ putK kvs k v ↔ e = (k, v) ∨ (e ∈ kvs ∧ e.1 ≠ k) := by
  unfold putK
  by_cases a : (kvs.any fun kv => decide (kv.1 = k)) = true
  · rw [if_pos a]
    constructor
    · intro h
      obtain ⟨p, hp, rfl⟩ := List.mem_map.mp h
      by_cases c : p.1 = k
      · rw [if_pos c, c]
        exact .inl rfl
      · rw [if_neg c]
        exact .inr ⟨hp, c⟩
    · rintro (rfl | ⟨h1, h2⟩)
      · obtain ⟨p, hp, hk⟩ := List.any_eq_true.mp a
        have hk := of_decide_eq_true hk
        exact List.mem_map.mpr ⟨p, hp, by rw [if_pos hk, hk]⟩
      · exact List.mem_map.mpr ⟨e, h1, by rw [if_neg h2]⟩
  · rw [if_neg a]
    have no : ∀ p ∈ kvs, p.1 ≠ k := fun p hp z => a (List.any_eq_true.mpr ⟨p, hp, decide_eq_true z⟩)
    constructor
    · intro h
      rcases List.mem_append.mp h with h | h
      · exact .inr ⟨h, no e h⟩
      · exact .inl (List.mem_singleton.mp h)
    · rintro (rfl | ⟨h1, h2⟩)
      · exact List.mem_append_right _ (List.mem_singleton.mpr rfl)
      · exact List.mem_append_left _ h1
theorem cnt_put {kvs : List (Key × V)} {M : List Int} (C : Cnt kvs M) (s : Int) (k : Nat) : Cnt (putK kvs (.inl s) (.int ((M.count s + (k + 1) : Nat) : Int))) (M ++ List.replicate (k + 1) s) := by
  have cs : (M ++ List.replicate (k + 1) s).count s = M.count s + (k + 1) := by rw [List.count_append, List.count_replicate_self]
  have co : ∀ j : Int, j ≠ s → (M ++ List.replicate (k + 1) s).count j = M.count j := fun j hj => by
    rw [List.count_append, List.count_replicate, if_neg (by simpa using Ne.symm hj)]
    rfl
  have ms : s ∈ M ++ List.replicate (k + 1) s := List.mem_append_right _ (by simp [List.replicate_succ])
  have mo : ∀ j : Int, j ≠ s → (j ∈ M ++ List.replicate (k + 1) s ↔ j ∈ M) := fun j hj => by
    rw [List.mem_append]
    exact ⟨fun h => h.elim id fun h => absurd (List.mem_replicate.mp h).2 hj, .inl⟩
  refine ⟨fun j => ?_, fun e he => ?_, fun j hj => ?_⟩
  · rw [valV_put]
    by_cases c : j = s
    · subst c
      rw [if_pos rfl, if_pos ms, cs]
    · rw [if_neg (fun z => c (Sum.inl.inj z)), C.val, co j c]
      by_cases d : j ∈ M
      · rw [if_pos d, if_pos ((mo j c).mpr d)]
      · rw [if_neg d, if_neg (fun z => d ((mo j c).mp z))]
  · rcases mem_putK.mp he with rfl | ⟨h1, h2⟩
    · exact ⟨s, ms, by rw [cs]⟩
    · obtain ⟨j, hj, rfl⟩ := C.ent e h1
      have c : j ≠ s := fun z => h2 (by rw [z])
      exact ⟨j, (mo j c).mpr hj, by rw [co j c]⟩
  · by_cases c : j = s
    · subst c
      rw [cs]
      exact mem_putK.mpr (.inl rfl)
    · rw [co j c]
      exact mem_putK.mpr (.inr ⟨C.has j ((mo j c).mp hj), fun z => c (Sum.inl.inj z)⟩)
theorem putK_len (kvs : List (Key × V)) (k : Key) (v : V) : (putK kvs k v).length ≤ kvs.length + 1 := by
  unfold putK
  split
  · rw [List.length_map]
    omega
  · rw [List.length_append]
    exact Nat.le_refl _
def posn (l : List (Int × Int)) (n : Int) (i : Nat) : Int := match l[i]? with
  | some q => q.1
  | none => n
theorem trips_take {l : List (Int × Int)} {n : Int} {i : Nat} {f s : Int} (h : l[i]? = some (f, s)) : (trips l n).take (i + 1) = (trips l n).take i ++ [(f, posn l n (i + 1) - 1, s)] := by
  have lt := (List.getElem?_eq_some_iff.mp h).1
  refine take_snoc ?_
  unfold trips
  rw [List.getElem?_map, List.getElem?_range lt, Option.map_some, List.getD_eq_getElem?_getD, h]
  rfl
theorem behind_ok {K : PySem.W.Frag} {σ : L2.St} {H : Hp} {Q : VK} {t : Addr} {rs : List V} {L : List Int} {i : Nat} (h0 : σ[0]? = some (some (.ref t))) (h1 : σ[1]? = some (some (.int (L.length : Nat)))) (h4 : σ[4]? = some (some (.int (i : Nat)))) (ht : H t = some (.tup rs)) (pr : PrAt H rs (rle L))
    (q : Q (.int (beh (rle L) (L.length : Nat) i)) H) : if decide (((i : Nat) : Int) + 1 < ((rs.length : Nat) : Int)) = true then tOp (rIxT K) (tOp (rIxT K) (tVar 0) (tOp (rI0 fun i j => V.int (i + j)) (tVar 4) (tC (.int 1)))) (tC (.int 0)) σ H Q else tVar 1 σ H Q := by
  have plen : rs.length = (rle L).length := Paired.length pr
  by_cases c : ((i : Nat) : Int) + 1 < ((rs.length : Nat) : Int)
  · rw [decide_eq_true c]
    have lt : i + 1 < rs.length := by omega
    obtain ⟨p, hp, x, ex, hx⟩ := paired_at pr (List.getElem?_eq_getElem lt)
    have hx2 : rs[i + 1]? = some (.ref x) := by rw [List.getElem?_eq_getElem lt, ex]
    have one : atI [V.int p.1, V.int p.2] 0 = some (V.int p.1) := rfl
    have eb : beh (rle L) (L.length : Nat) i = p.1 := by
      unfold beh
      rw [hp]
    rw [eb] at q
    exact iteT ⟨_, h0, _, h4, _, _, rfl, rfl, t, rs, _, .ref x, rfl, rfl, SqT.of ht, atI_nat (j := i + 1) hx2, x, _, _, _, rfl, rfl, SqT.of hx, one, q⟩
  · rw [decide_eq_false c]
    have eb : beh (rle L) (L.length : Nat) i = (L.length : Nat) := by
      unfold beh
      rw [List.getElem?_eq_none (by omega)]
    rw [eb] at q
    exact iteF ⟨_, h1, q⟩
theorem cnt_vals {kvs : List (Key × V)} {M : List Int} (C : Cnt kvs M) : ∃ ns : List Int, kvs.map (·.2) = ns.map V.int ∧ (∀ x ∈ ns, ∃ s ∈ M, x = (M.count s : Nat)) ∧ ∀ s ∈ M, ((M.count s : Nat) : Int) ∈ ns := by
  refine ⟨kvs.map fun e => match e.2 with | .int i => i | _ => 0, ?_, fun x hx => ?_, fun s hs => ?_⟩
  · rw [List.map_map]
    refine List.map_congr_left fun e he => ?_
    obtain ⟨s, _, rfl⟩ := C.ent e he
    rfl
  · obtain ⟨e, he, rfl⟩ := List.mem_map.mp hx
    obtain ⟨s, hs, rfl⟩ := C.ent e he
    exact ⟨s, hs, rfl⟩
  · exact List.mem_map.mpr ⟨_, C.has s hs, rfl⟩
/-- a pair as a target, under a comprehension's binder -/
theorem pg_pairK {X : Cx} (K : PySem.W.Frag) (hK : X.K = K) (hc : X.calm = true) {e1 e2 : Expr} {t1 t2 : TG} {k : Nat} {pos : Pos} (h1 : PG X e1 t1) (h2 : PG X e2 t2) (he1 : (assignEach [e1, e2] X.env).map (·.2) = assign e1 X.env :: (assignEach [e2] X.env).map (·.2) := by rfl)
    (he2 : (assignEach [e2] X.env).map (·.2) = assign e2 X.env :: (assignEach [] X.env).map (·.2) := by rfl) (hn : (assignEach [e1, e2] X.env).length = 2 := by rfl) (hf : (assignEach [e1, e2] X.env).findIdx? (·.1) = none := by rfl) : PG X (.Tuple [e1, e2] k pos) (gTup K 2 (gCons t1 (gCons t2 gNil))) := by
  subst hK
  have h := pg_tup (k := k) (pos := pos) hc (pgs_cons h1 (pgs_cons h2 pgs_nil he2) he1) hn hf
  exact h
abbrev NTo : List Str := ["row", "signs", "many", "moves", "at", "first", "state", "behind", "most", "away", "signs_there", "move"]
section
variable {P : Program} {w : World} {K : PySem.W.Frag} {mg : Str → Option Value} {base : Heap}
/-- told_row(row, signs) -/
def spTold : Sp := fun vs H Q _ => ∃ (t : Addr) (rs : List V) (L : List Int), vs = [.ref t, .int (L.length : Nat)] ∧ H t = some (.tup rs) ∧ PrAt H rs (rle L) ∧ L ≠ [] ∧ L.length ≤ 5000 ∧
  ∀ r u H' ms, Same H H' → H r = none → H' r = some (.tup [.int (awayF L), .ref u]) → H' u = some (.tup ms) → TrAt H' ms (keptM L (awayF L)) → Q (.ref r) H'
theorem scTold : FnScope NTo ["row", "signs"] (defScope sTold) := ⟨rfl, rfl, rfl, by decide +kernel, rfl, by decide +kernel, by decide +kernel⟩
theorem ok_told {f : Addr} {fd : FuncData} (F : Fun K "told_row" "told_row" sTold f fd) (B : Bi mg) : FnOk P w K mg base CX0 1 f fd ["row", "signs"] spTold := by
  refine F.ok scTold (fun vs H Q E h => ?_) (fun cdv A outer s H vs Q E hr h => ?_)
  · obtain ⟨t, rs, L, rfl, _⟩ := h
    rfl
  · obtain ⟨t, rs, L, rfl, ht, pr, ne, len, q⟩ := h
    refine ⟨_, pss_cons (ps_set (i := 2) scTold.nd rfl (Or.inl rfl) pe_dnewK) (pss_cons (ps_set (i := 3) scTold.nd rfl (Or.inl rfl) (pe_lst pa_nil))
      (pss_cons (ps_for PassesOwn.never rfl (pi_enA B.enum (pa_cons (pv 0) pa_nil)) (pg_tup rfl (pgs_cons (pg_name (i := 4) scTold.nd rfl (.inl rfl)) (pgs_cons (pg_tup rfl (pgs_cons (pg_name (i := 5) scTold.nd rfl (.inl rfl)) (pgs_cons (pg_name (i := 6) scTold.nd rfl (.inl rfl)) pgs_nil))) pgs_nil)))
        (pss_cons (ps_set (i := 7) scTold.nd rfl (Or.inl rfl) (pe_ifExp (pt_cmpR op_lt (pe_op op_add (pv 4) pe_int) (pe_len B.len (pa_cons (pv 0) pa_nil)) (nomark _)) (pe_ix ix_tup (pe_ix ix_tup (pv 0) (pe_op op_add (pv 4) pe_int) (fun _ _ => rfl)) pe_int (fun _ _ => rfl)) (pv 1)))
        (pss_cons (ps_dput (hu_of hr) (pv 2) (pv 6) (pe_op op_sub (pe_op op_add (pe_dget2 (hu_of hr) (pv 2) (pv 6) pe_int ⟨rfl, rfl, rfl, rfl⟩) (pv 7)) (pv 5)) rfl)
        (pss_one (ps_expr (pe_bm PySem.F.plainAttrs_list PySem.F.slot_list_append PySem.F.type_list_append mt_append (pv 3) (pa_cons (pe_tup (pa_cons (pv 5) (pa_cons (pe_op op_sub (pv 7) pe_int) (pa_cons (pv 6) pa_nil)))) pa_nil)))))))
      (pss_cons (ps_set (i := 8) scTold.nd rfl (Or.inr rfl) (pe_callB (cr_max rfl) rfl B.max (by decide +kernel) (pa_cons (pe_listValues rfl (pv 2) rfl B.list) pa_nil)))
      (pss_cons (ps_set (i := 9) scTold.nd rfl (Or.inr rfl) (pe_callB (cr_min rfl) rfl B.min (by decide +kernel) (pa_cons (pe_lock (pe_lc (own := [("state", 6), ("signs_there", 10)]) rfl scTold.nd (pi_items (pv 2)) (blkOk_by (N := NTo) (sc := defScope sTold) (by decide +kernel))
          (fun _ _ _ _ _ => pg_pairK K rfl rfl (pg_name (i := 6) scTold.nd rfl (Or.inl rfl) (.inr rfl)) (pg_name (i := 10) scTold.nd rfl (Or.inl rfl) (.inr rfl))) (fun _ _ _ _ _ => pts_one (pt_cmpR op_eq (pv 10) (pv 8) (nomark _))) (fun _ _ _ _ _ => pv 6))) pa_nil)))
      (pss_one (ps_ret (pe_tup (pa_cons (pv 9) (pa_cons (pe_tupleOf rfl B.tuple (pe_lc (own := [("move", 11)]) rfl scTold.nd (pi_sqA (pv 3)) (blkOk_by (N := NTo) (sc := defScope sTold) (by decide +kernel))
          (fun _ _ _ _ _ => pg_name (i := 11) scTold.nd rfl (Or.inl rfl)) (fun _ _ _ _ _ => pts_one (pt_cmpR op_ne (pe_ix (ix_tupK K rfl) (pv 11) pe_int (fun _ _ => rfl)) (pv 9) (nomark _))) (fun _ _ _ _ _ => pv 11))) pa_nil))))))))), ?_⟩
    have P0 := rle_p L
    have plen : rs.length = (rle L).length := Paired.length pr
    have ne2 : rle L ≠ [] := P0.some_ ne
    have p0 : posn (rle L) (L.length : Nat) 0 = 0 := by
      unfold posn
      cases z : (rle L)[0]? with
      | none => exact absurd (List.getElem?_eq_none_iff.mp z) (by have := List.length_pos_iff.mpr ne2; omega)
      | some p => exact P0.zero p z
    have rl := rle_len L
    refine fun D nD => ⟨Nat.zero_le _, fun ML nML => ?_⟩
    have nDM : D ≠ ML := ne_of_none upd_same nML
    have e0 : Same H (upd (upd H D (.dK [])) ML (.lst [])) := (same_new nD).trans (same_new nML)
    have tD : t ≠ D := ne_of_none ht nD
    have tM : t ≠ ML := ne_of_none ((upd_ne tD).trans ht) nML
    have nM0 : H ML = none := (same_new nD).free nML
    refine ⟨_, rfl, t, rs, rfl, .inr (SqT.of (e0 _ _ ht)), fun J G wk hG => for_it wk (fun i σ H' => ∃ (a b c d : Option V) (kvs : List (Key × V)) (ts : List V), σ = [some (.ref t), some (.int (L.length : Nat)), some (.ref D), some (.ref ML), a, b, c, d, none, none, none, none] ∧ Same H H' ∧ H' D = some (.dK kvs) ∧ H' ML = some (.lst ts) ∧
        Cnt kvs (L.take (posn (rle L) (L.length : Nat) i).toNat) ∧ kvs.length ≤ i ∧ TrAt H' ts ((trips (rle L) (L.length : Nat)).take i))
      ⟨none, none, none, none, [], [], rfl, e0, (upd_ne nDM).trans upd_same, upd_same, ?_, Nat.le_refl _, .nil⟩ (fun i σ H' _ ⟨_, _, _, _, _, _, _, e, _⟩ => hG H' fun o z => ?_) ?_ ?_⟩
    · rw [p0]
      exact cnt_nil
    · rw [upd_ne tM, upd_ne tD] at z
      exact e _ _ z
    · rintro i x σ H1 H2 hi ⟨a, b, c, d, kvs, ts, rfl, e, hD, hM, C, lk, tr⟩ ⟨T0, y, v, rfl, nT0, rfl, ey, hv⟩
      have ey : y = .int (i : Nat) := (Option.some.inj ey).symm
      subst ey
      obtain ⟨⟨f, st⟩, hp, x0, rfl, hx0⟩ := paired_at pr hv
      obtain ⟨a1, a2, a3, a4⟩ := P0.at_ i f st hp
      have ef : posn (rle L) (L.length : Nat) i = f := by
        unfold posn
        rw [hp]
      have eb : posn (rle L) (L.length : Nat) (i + 1) = beh (rle L) (L.length : Nat) i := rfl
      have tk := take_beh hp
      have li : i < (rle L).length := (List.getElem?_eq_some_iff.mp hp).1
      have x1 := same_new (o := .tup [.int (i : Nat), .ref x0]) nT0
      have e2 := e.trans x1
      have hD2 := x1 _ _ hD
      have hM2 := x1 _ _ hM
      have tr2 := tr.same x1
      have hT0 : upd H1 T0 (.tup [.int (i : Nat), .ref x0]) T0 = some (.tup [.int (i : Nat), .ref x0]) := upd_same
      generalize upd H1 T0 (.tup [.int (i : Nat), .ref x0]) = H2 at x1 e2 hD2 hM2 tr2 hT0 ⊢
      refine ⟨T0, _, rfl, SqT.of hT0, rfl, _, _, rfl, _, _, rfl, ⟨x0, _, rfl, SqT.of (e2 _ _ hx0), rfl, _, _, rfl, _, _, rfl, rfl, rfl, ?_⟩⟩
      refine ⟨_, rfl, _, _, rfl, rfl, _, rfl, t, rs, rfl, .inr (SqT.of (e2 _ _ ht)), _, _, rfl, rfl, _, rfl, ?_⟩
      refine behind_ok rfl rfl rfl (e2 _ _ ht) (pr.same e2) ?_
      have hg : ∃ o, DGet H2 D (.int st) o ∧ o.getD (.int 0) = V.int ((L.take f.toNat).count st : Nat) := by
        have g := DGet.k (k := .inl st) hD2
        rw [C.val st, ef] at g
        by_cases m : st ∈ L.take f.toNat
        · rw [if_pos m] at g
          exact ⟨_, g, rfl⟩
        · rw [if_neg m] at g
          exact ⟨_, g, by rw [List.count_eq_zero.mpr m]; rfl⟩
      obtain ⟨o, g1, g2⟩ := hg
      refine ⟨_, rfl, D, rfl, .inl ⟨kvs, .inl hD2⟩, _, rfl, o, g1, ?_⟩
      rw [g2]
      refine ⟨_, rfl, _, _, rfl, rfl, _, rfl, _, _, rfl, rfl, _, rfl, _, rfl, D, _, rfl, DPut.k (k := .inl st) hD2 (small10 (by omega)), ?_⟩
      have nMD : ML ≠ D := Ne.symm nDM
      obtain ⟨k, ek⟩ : ∃ k : Nat, beh (rle L) (L.length : Nat) i - f = ((k + 1 : Nat) : Int) := ⟨(beh (rle L) (L.length : Nat) i - f).toNat - 1, by omega⟩
      have ev : (((L.take f.toNat).count st : Nat) : Int) + beh (rle L) (L.length : Nat) i - f = (((L.take f.toNat).count st + (k + 1) : Nat) : Int) := by omega
      have hD3 : upd H2 D (.dK (putK kvs (.inl st) (.int ((((L.take f.toNat).count st : Nat) : Int) + beh (rle L) (L.length : Nat) i - f)))) D = some (.dK (putK kvs (.inl st) (.int (((L.take f.toNat).count st + (k + 1) : Nat) : Int)))) := by rw [upd_same, ev]
      have hM3 : upd H2 D (.dK (putK kvs (.inl st) (.int ((((L.take f.toNat).count st : Nat) : Int) + beh (rle L) (L.length : Nat) i - f)))) ML = some (.lst ts) := (upd_ne nMD).trans hM2
      have e3 : Same H (upd H2 D (.dK (putK kvs (.inl st) (.int ((((L.take f.toNat).count st : Nat) : Int) + beh (rle L) (L.length : Nat) i - f))))) := fun b' o' z => by
        rw [upd_ne (ne_of_none z nD)]
        exact e2 _ _ z
      have tr3 : TrAt (upd H2 D (.dK (putK kvs (.inl st) (.int ((((L.take f.toNat).count st : Nat) : Int) + beh (rle L) (L.length : Nat) i - f))))) ts ((trips (rle L) (L.length : Nat)).take i) := Paired.mapP tr2 fun _ _ ⟨a', h1, h2⟩ => ⟨a', h1, (upd_ne (ne_of h2 hD2 fun z => nomatch z)).trans h2⟩
      generalize upd H2 D (.dK (putK kvs (.inl st) (.int ((((L.take f.toNat).count st : Nat) : Int) + beh (rle L) (L.length : Nat) i - f)))) = H3 at hD3 hM3 e3 tr3 ⊢
      have lts : ts.length ≤ 10000 := by
        have h1 := Paired.length tr2
        rw [List.length_take] at h1
        omega
      refine ⟨_, rfl, .inl ⟨rfl, _, SqL.of hM3⟩, _, rfl, _, rfl, _, _, rfl, rfl, _, rfl, by show 3 ≤ sizeLine; decide, fun tt ntt => ⟨ML, ts, _, rfl, rfl, (upd_ne (ne_of_none hM3 ntt)).trans hM3, small10 lts, ?_⟩⟩
      have ttM : tt ≠ ML := Ne.symm (ne_of_none hM3 ntt)
      have ttD : D ≠ tt := ne_of_none hD3 ntt
      refine ⟨_, _, _, _, putK kvs (.inl st) (.int (((L.take f.toNat).count st + (k + 1) : Nat) : Int)), ts ++ [.ref tt], rfl, fun b' o' z => ?_, ?_, upd_same, ?_, ?_, ?_⟩
      · rw [upd_ne (ne_of_none z nM0), upd_ne (ne_of_none (e3 _ _ z) ntt)]
        exact e3 _ _ z
      · rw [upd_ne nDM, upd_ne ttD]
        exact hD3
      · rw [eb, tk, ek, Int.toNat_natCast]
        rw [ef] at C
        exact cnt_put C st k
      · have := putK_len kvs (.inl st) (.int (((L.take f.toNat).count st + (k + 1) : Nat) : Int))
        omega
      · rw [trips_take hp]
        refine Paired.snoc (Paired.mapP tr3 fun _ _ ⟨a', h1, h2⟩ => ⟨a', h1, ?_⟩) ⟨tt, rfl, (upd_ne ttM).trans upd_same⟩
        have z1 : upd H3 tt (.tup [.int f, .int (beh (rle L) (L.length : Nat) i - 1), .int st]) a' = _ := (upd_ne (ne_of_none h2 ntt)).trans h2
        exact (upd_ne (ne_of z1 ((upd_ne (Ne.symm ttM)).trans hM3) fun z => nomatch z)).trans z1
    · rintro σ H1 ⟨a, b, c, d, kvs, ts, rfl, e, hD, hM, C, lk, tr⟩
      have pe : posn (rle L) (L.length : Nat) rs.length = (L.length : Nat) := by
        unfold posn
        rw [List.getElem?_eq_none (by omega)]
      have tl : (trips (rle L) (L.length : Nat)).length = rs.length := by
        unfold trips
        rw [List.length_map, List.length_range, plen]
      rw [pe, Int.toNat_natCast, List.take_length] at C
      rw [← tl, List.take_length] at tr
      obtain ⟨ns, ens, n1, n2⟩ := cnt_vals C
      obtain ⟨x0, hx0⟩ := List.exists_mem_of_ne_nil L ne
      refine ⟨_, rfl, D, kvs, rfl, hD, fun l nl => ⟨l, ns, rfl, ?_, ?_, fun m hm hle => ?_⟩⟩
      · rw [← ens]
        exact SqL.of upd_same
      · exact List.length_pos_of_mem (n2 x0 hx0)
      have x1 := same_new (o := .lst (kvs.map (·.2))) nl
      have hD2 := x1 _ _ hD
      have hM2 := x1 _ _ hM
      have e2 := e.trans x1
      have tr2 := tr.same x1
      generalize upd H1 l (.lst (kvs.map (·.2))) = H2 at x1 hD2 hM2 e2 tr2 ⊢
      clear hD hM e tr nl
      obtain ⟨s0, hs0, em⟩ := n1 m hm
      have most : ∀ s ∈ L, ((L.count s : Nat) : Int) ≤ m := fun s hs => hle _ (n2 s hs)
      refine ⟨D, _, hD2, True.intro, fun od => ⟨_, rfl, D, od, kvs, rfl, upd_same, fun A nA => lc_it walk_items (fun i H' => ∃ as : List Int, (∀ b o, b ≠ A → upd H2 D (.frz od (.dK kvs)) b = some o → H' b = some o) ∧ H' A = some (.lst (as.map V.int)) ∧ as.length ≤ i ∧ (∀ s ∈ as, s ∈ L ∧ ((L.count s : Nat) : Int) = m) ∧ ∀ s, ((.inl s : Key), V.int m) ∈ kvs.take i → s ∈ as)
        ⟨[], fun b o n z => (upd_ne n).trans z, upd_same, Nat.le_refl _, (fun _ z => nomatch z), fun s z => by simp at z⟩ (fun i H' _ ⟨as, z, _⟩ => z _ _ (ne_of_none upd_same nA) upd_same) ?_ ?_⟩⟩
      · rintro i x H3 H4 hi ⟨as, k3, hA, la, as1, as2⟩ ⟨T0, y, v, rfl, nT0, rfl, ey, hv⟩
        have hk : kvs[i]? = some kvs[i] := List.getElem?_eq_getElem hi
        obtain ⟨s, hs, es⟩ := C.ent kvs[i] (List.getElem_mem hi)
        have ey : Option.map (fun kv : Key × V => kV kv.1) kvs[i]? = some y := ey
        have hv : Option.map Prod.snd kvs[i]? = some v := hv
        rw [hk, es] at ey hv
        have ey : y = .int s := (Option.some.inj ey).symm
        have hv : v = .int (L.count s : Nat) := (Option.some.inj hv).symm
        subst ey hv
        have hA4 : upd H3 T0 (.tup [.int s, .int (L.count s : Nat)]) A = some (.lst (as.map V.int)) := (upd_ne (ne_of_none hA nT0)).trans hA
        have hT0 : upd H3 T0 (.tup [.int s, .int (L.count s : Nat)]) T0 = some (.tup [.int s, .int (L.count s : Nat)]) := upd_same
        have k4 : ∀ b o, b ≠ A → upd H2 D (.frz od (.dK kvs)) b = some o → upd H3 T0 (.tup [.int s, .int (L.count s : Nat)]) b = some o := fun b o n z => by
          rw [upd_ne (ne_of_none (k3 b o n z) nT0)]
          exact k3 b o n z
        generalize upd H3 T0 (.tup [.int s, .int (L.count s : Nat)]) = H5 at hA4 hT0 k4 ⊢
        refine ⟨T0, _, rfl, SqT.of hT0, rfl, _, _, rfl, _, _, rfl, rfl, rfl, ?_⟩
        refine ⟨_, rfl, _, rfl, rfl, _, rfl, ?_⟩
        have tk : kvs.take (i + 1) = kvs.take i ++ [((.inl s : Key), V.int (L.count s : Nat))] := by rw [take_snoc hk, es]
        rw [dec_int]
        by_cases cm : ((L.count s : Nat) : Int) = m
        · rw [show (((L.count s : Nat) : Int) == m) = true by simpa using cm]
          refine iteT ⟨_, rfl, _, hA4, by rw [List.length_map]; exact small10 (by omega), as ++ [s], fun b o n z => (upd_ne n).trans (k4 b o n z), ?_, by rw [List.length_append]; show _ + 1 ≤ _; omega, fun s' hs' => ?_, fun s' hs' => ?_⟩
          · rw [upd_same, List.map_append]
            rfl
          · rcases List.mem_append.mp hs' with h | h
            · exact as1 s' h
            · rw [List.mem_singleton.mp h]
              exact ⟨hs, cm⟩
          · rw [tk] at hs'
            rcases List.mem_append.mp hs' with h | h
            · exact List.mem_append_left _ (as2 s' h)
            · have := List.mem_singleton.mp h
              cases this
              exact List.mem_append_right _ (List.mem_singleton.mpr rfl)
        · rw [show (((L.count s : Nat) : Int) == m) = false by simpa using cm]
          refine iteF ⟨as, k4, hA4, by omega, as1, fun s' hs' => ?_⟩
          rw [tk] at hs'
          rcases List.mem_append.mp hs' with h | h
          · exact as2 s' h
          · have := List.mem_singleton.mp h
            cases this
            exact absurd rfl cm
      · rintro H3 ⟨as, k3, hA, la, as1, as2⟩
        rw [List.take_length] at as2
        have nAD : A ≠ D := Ne.symm (ne_of_none upd_same nA)
        have in0 : s0 ∈ as := as2 s0 (by rw [em]; exact C.has s0 hs0)
        refine ⟨k3 _ _ (Ne.symm nAD) upd_same, A, as, rfl, SqL.of ((upd_ne nAD).trans hA), List.length_pos_of_mem in0, fun mn hmn hle2 => ?_⟩
        obtain ⟨mn1, mn2⟩ := as1 mn hmn
        have aw : AwayOf L mn := ⟨mn1, fun b hb => by
          have h1 := most b hb
          by_cases c2 : ((L.count b : Nat) : Int) = m
          · refine .inr ⟨by omega, hle2 b (as2 b ?_)⟩
            rw [← c2]
            exact C.has b hb
          · exact .inl (by omega)⟩
        have eaw := awayF_eq aw
        have e3 : Same H (upd H3 D (.dK kvs)) := fun b o z => by
          have nb : b ≠ D := ne_of_none z nD
          have z2 := e2 _ _ z
          have nbA : b ≠ A := ne_of_none ((upd_ne nb).trans z2) nA
          rw [upd_ne nb]
          exact k3 b o nbA ((upd_ne nb).trans z2)
        have keep : ∀ b o, b ≠ D → H2 b = some o → upd H3 D (.dK kvs) b = some o := fun b o nb z => by
          rw [upd_ne nb]
          exact k3 b o (ne_of_none ((upd_ne nb).trans z) nA) ((upd_ne nb).trans z)
        have hM3 := keep _ _ (Ne.symm nDM) hM2
        have tr3 : TrAt (upd H3 D (.dK kvs)) ts (trips (rle L) (L.length : Nat)) := Paired.mapP tr2 fun _ _ ⟨a', h1, h2⟩ => ⟨a', h1, keep _ _ (ne_of h2 hD2 fun z => nomatch z) h2⟩
        generalize upd H3 D (.dK kvs) = H6 at e3 hM3 tr3 ⊢
        have lts : ts.length ≤ 10000 := by
          have h1 := Paired.length tr3
          omega
        refine ⟨_, rfl, _, rfl, ML, ts, rfl, .inl (SqL.of hM3), fun J2 G2 wk2 hG2 B2 nB2 => lc_it wk2 (fun j H' => ∃ us : List V, (∀ b o, H6 b = some o → H' b = some o) ∧ H' B2 = some (.lst us) ∧ us.length ≤ j ∧ TrAt H' us (((trips (rle L) (L.length : Nat)).take j).filter fun t => !decide (t.2.2 = mn))) ⟨[], same_new nB2, upd_same, Nat.le_refl _, .nil⟩ (fun j H' _ ⟨_, z, _⟩ => hG2 H' fun o w => z _ _ w) ?_ ?_⟩
        · rintro j x H7 H8 hj ⟨us, k7, hB, lu, tu⟩ ⟨rfl, hx⟩
          obtain ⟨q3, hq, x1', rfl, hx1⟩ := paired_at tr3 hx
          have tj := take_snoc hq
          have two : atI [V.int q3.1, V.int q3.2.1, V.int q3.2.2] 2 = some (V.int q3.2.2) := rfl
          refine ⟨rfl, _, rfl, x1', _, _, _, rfl, rfl, SqT.of (k7 _ _ hx1), two, _, rfl, rfl, _, rfl, ?_⟩
          rw [dec_int]
          by_cases c3 : q3.2.2 = mn
          · rw [show (q3.2.2 == mn) = true by simpa using c3]
            refine iteF ⟨us, k7, hB, by omega, ?_⟩
            rw [tj, List.filter_append, List.filter_cons, if_neg (by simpa using c3), List.filter_nil, List.append_nil]
            exact tu
          · rw [show (q3.2.2 == mn) = false by simpa using c3]
            refine iteT ⟨_, rfl, _, hB, small10 (by omega), us ++ [.ref x1'], fun b o z => ?_, upd_same, by rw [List.length_append]; show _ + 1 ≤ _; omega, ?_⟩
            · rw [upd_ne (ne_of_none z nB2)]
              exact k7 _ _ z
            · rw [tj, List.filter_append, List.filter_cons, if_pos (by simpa using c3), List.filter_nil]
              refine Paired.snoc (Paired.mapP tu fun _ _ ⟨a', h1, h2⟩ => ⟨a', h1, (upd_ne (ne_of h2 hB fun z => nomatch z)).trans h2⟩) ⟨x1', rfl, (upd_ne (ne_of_none hx1 nB2)).trans (k7 _ _ hx1)⟩
        · rintro H7 ⟨us, k7, hB, lu, tu⟩
          have ej : (trips (rle L) (L.length : Nat)).take ts.length = trips (rle L) (L.length : Nat) := by rw [Paired.length tr3, List.take_length]
          rw [ej] at tu
          refine .inl ⟨B2, us, rfl, SqL.of hB, fun tt ntt => ⟨by show 2 ≤ sizeLine; decide, fun r nr => ?_⟩⟩
          have z1 := same_new (o := .tup us) ntt
          have htt : upd H7 tt (.tup us) tt = some (.tup us) := upd_same
          generalize upd H7 tt (.tup us) = H9 at z1 htt nr ⊢
          have z2 := same_new (o := .tup [.int mn, .ref tt]) nr
          have e7 : Same H H7 := fun b o z => k7 _ _ (e3 _ _ z)
          refine q r tt _ us (e7.trans (z1.trans z2)) ((e7.trans z1).free nr) ?_ (z2 _ _ htt) ?_
          · rw [upd_same, eaw]
          · rw [eaw]
            exact (tu.same z1).same z2
end
end K17
set_option Elab.async false
set_option linter.all false
set_option maxRecDepth 100001
set_option maxHeartbeats 3999999
namespace K17
open PySem L2
abbrev sMac (j : Nat) : Stmt := inClass (topS 20) j
abbrev sInit : Stmt := sMac 0
abbrev sEq : Stmt := sMac 1
abbrev sBeh : Stmt := sMac 2
abbrev sHas : Stmt := sMac 3
abbrev sMkd : Stmt := sMac 4
abbrev sBeg : Stmt := sMac 5
abbrev sCkS : Stmt := sMac 6
abbrev sCkR : Stmt := sMac 7
/-! ### a machine -/
def machF (n : Int) (tb rw : Addr) (st : Int) (mk kd : Addr) : List (Str × V) := putF "kinds" (.ref kd) (putF "marks" (.ref mk) (putF "start" (.int st) (putF "rows" (.ref rw) (putF "table" (.ref tb) (putF "signs" (.int n) [])))))
section
variable (n : Int) (tb rw : Addr) (st : Int) (mk kd : Addr)
theorem mf_kinds : (machF n tb rw st mk kd).lookup ("kinds" : Str) = some (.ref kd) := by
  unfold machF
  rw [lookup_putF, if_pos rfl]
theorem mf_marks : (machF n tb rw st mk kd).lookup ("marks" : Str) = some (.ref mk) := by
  unfold machF
  rw [lookup_putF, if_neg (by decide +kernel), lookup_putF, if_pos rfl]
theorem mf_start : (machF n tb rw st mk kd).lookup ("start" : Str) = some (.int st) := by
  unfold machF
  rw [lookup_putF, if_neg (by decide +kernel), lookup_putF, if_neg (by decide +kernel), lookup_putF, if_pos rfl]
theorem mf_rows : (machF n tb rw st mk kd).lookup ("rows" : Str) = some (.ref rw) := by
  unfold machF
  rw [lookup_putF, if_neg (by decide +kernel), lookup_putF, if_neg (by decide +kernel), lookup_putF, if_neg (by decide +kernel), lookup_putF, if_pos rfl]
theorem mf_table : (machF n tb rw st mk kd).lookup ("table" : Str) = some (.ref tb) := by
  unfold machF
  rw [lookup_putF, if_neg (by decide +kernel), lookup_putF, if_neg (by decide +kernel), lookup_putF, if_neg (by decide +kernel), lookup_putF, if_neg (by decide +kernel), lookup_putF, if_pos rfl]
theorem mf_signs : (machF n tb rw st mk kd).lookup ("signs" : Str) = some (.int n) := by
  unfold machF
  rw [lookup_putF, if_neg (by decide +kernel), lookup_putF, if_neg (by decide +kernel), lookup_putF, if_neg (by decide +kernel), lookup_putF, if_neg (by decide +kernel), lookup_putF, if_neg (by decide +kernel), lookup_putF, if_pos rfl]
theorem mf_no {x : Str} (h1 : ¬ x = "kinds") (h2 : ¬ x = "marks") (h3 : ¬ x = "start") (h4 : ¬ x = "rows") (h5 : ¬ x = "table") (h6 : ¬ x = "signs") : (machF n tb rw st mk kd).lookup x = none := by
  unfold machF
  rw [lookup_putF, if_neg h1, lookup_putF, if_neg h2, lookup_putF, if_neg h3, lookup_putF, if_neg h4, lookup_putF, if_neg h5, lookup_putF, if_neg h6]
  rfl
end
/-- stretch rows, told rows, rows in the one form -/
def StrAt (H : Hp) : List V → List (List Int) → Prop := Paired fun v L => ∃ a rs, v = .ref a ∧ H a = some (.tup rs) ∧ PrAt H rs (rle L)
def KrAt (H : Hp) : List V → List (List Int) → Prop := Paired fun v L => ∃ r u ms, v = .ref r ∧ H r = some (.tup [.int (awayF L), .ref u]) ∧ H u = some (.tup ms) ∧ TrAt H ms (keptM L (awayF L))
def RowsAt (H : Hp) (n : Nat) (k : Int) : List V → List (List Int) → Prop := Paired fun v L => ∃ a ms, RowAt H v a ms ∧ OkM (n : Nat) k ms ∧ 0 ≤ a ∧ a ≤ k - 1 ∧ expT a ms n = L
theorem StrAt.same {H H' : Hp} {ts : List V} {Ls : List (List Int)} (h : StrAt H ts Ls) (e : Same H H') : StrAt H' ts Ls := Paired.mapP h fun _ _ ⟨a, rs, h1, h2, h3⟩ => ⟨a, rs, h1, e _ _ h2, h3.same e⟩
theorem KrAt.same {H H' : Hp} {ts : List V} {Ls : List (List Int)} (h : KrAt H ts Ls) (e : Same H H') : KrAt H' ts Ls := Paired.mapP h fun _ _ ⟨r, u, ms, h1, h2, h3, h4⟩ => ⟨r, u, ms, h1, e _ _ h2, e _ _ h3, h4.same e⟩
theorem RowsAt.same {H H' : Hp} {n : Nat} {k : Int} {ts : List V} {Ls : List (List Int)} (h : RowsAt H n k ts Ls) (e : Same H H') : RowsAt H' n k ts Ls := Paired.mapP h fun _ _ ⟨a, ms, h1, h2⟩ => ⟨a, ms, h1.same e, h2⟩
/-- what is no instance stays -/
def ButI (p : Addr) (H H' : Hp) : Prop := ∀ b o, b ≠ p → H b = some o → H' b = some o
theorem PrAt.at_ {H H' : Hp} {p : Addr} {ts : List V} {l : List (Int × Int)} (h : PrAt H ts l) (e : ButI p H H') (hp : ∀ xs, H p ≠ some (.tup xs)) : PrAt H' ts l := Paired.mapP h fun _ _ ⟨a, h1, h2⟩ => ⟨a, h1, e _ _ (fun z => hp _ (z ▸ h2)) h2⟩
theorem TrAt.at_ {H H' : Hp} {p : Addr} {ts : List V} {l : List Mv} (h : TrAt H ts l) (e : ButI p H H') (hp : ∀ xs, H p ≠ some (.tup xs)) : TrAt H' ts l := Paired.mapP h fun _ _ ⟨a, h1, h2⟩ => ⟨a, h1, e _ _ (fun z => hp _ (z ▸ h2)) h2⟩
theorem StrAt.at_ {H H' : Hp} {p : Addr} {ts : List V} {Ls : List (List Int)} (h : StrAt H ts Ls) (e : ButI p H H') (hp : ∀ xs, H p ≠ some (.tup xs)) : StrAt H' ts Ls := Paired.mapP h fun _ _ ⟨a, rs, h1, h2, h3⟩ => ⟨a, rs, h1, e _ _ (fun z => hp _ (z ▸ h2)) h2, h3.at_ e hp⟩
theorem KrAt.at_ {H H' : Hp} {p : Addr} {ts : List V} {Ls : List (List Int)} (h : KrAt H ts Ls) (e : ButI p H H') (hp : ∀ xs, H p ≠ some (.tup xs)) : KrAt H' ts Ls := Paired.mapP h fun _ _ ⟨r, u, ms, h1, h2, h3, h4⟩ => ⟨r, u, ms, h1, e _ _ (fun z => hp _ (z ▸ h2)) h2, e _ _ (fun z => hp _ (z ▸ h3)) h3, h4.at_ e hp⟩
def kindsV (k : Nat) (ms : List Int) : List V := (List.range k).map fun i => V.bl (decide (((i : Nat) : Int) ∈ ms))
/-- at p: the machine over n signs, with these rows, this start, these marks -/
def IsM (C : Addr) (H : Hp) (p : Addr) (n : Nat) (Ls : List (List Int)) (st : Int) (ms : List Int) : Prop := ∃ (dx tb rw mk kd : Addr) (ts us : List V), H p = some (.ins C dx (machF (n : Nat) tb rw st mk kd)) ∧ H tb = some (.lst ts) ∧ StrAt H ts Ls ∧ H rw = some (.tup us) ∧ KrAt H us Ls ∧ H mk = some (.tup (ms.map V.int)) ∧ H kd = some (.lst (kindsV Ls.length ms))
theorem IsM.same {C : Addr} {H H' : Hp} {p : Addr} {n : Nat} {Ls : List (List Int)} {st : Int} {ms : List Int} (h : IsM C H p n Ls st ms) (e : Same H H') : IsM C H' p n Ls st ms :=
  let ⟨dx, tb, rw, mk, kd, ts, us, h1, h2, h3, h4, h5, h6, h7⟩ := h
  ⟨dx, tb, rw, mk, kd, ts, us, e _ _ h1, e _ _ h2, h3.same e, e _ _ h4, h5.same e, e _ _ h6, e _ _ h7⟩
structure OkMa (n : Nat) (Ls : List (List Int)) (st : Int) (ms : List Int) : Prop where
  n1 : 1 ≤ n
  n2 : n ≤ 2000
  k1 : 1 ≤ Ls.length
  k2 : Ls.length ≤ 2000
  row : ∀ L ∈ Ls, L.length = n ∧ ∀ x ∈ L, 0 ≤ x ∧ x ≤ (Ls.length : Int) - 1
  s1 : 0 ≤ st
  s2 : st ≤ (Ls.length : Int) - 1
  mar : ∀ m ∈ ms, 0 ≤ m ∧ m ≤ (Ls.length : Int) - 1
  up : ms.Pairwise (· < ·)
/-- what the class is known by -/
structure Txt (K : PySem.W.Frag) (C : Addr) : Prop where
  cl : Cls K C
  nS : NoAttr K C "signs"
  nT : NoAttr K C "table"
  nR : NoAttr K C "rows"
  nA : NoAttr K C "start"
  nM : NoAttr K C "marks"
  nK : NoAttr K C "kinds"
/-- where a sign leads -/
def nxt (Ls : List (List Int)) (s x : Int) : Int := (Ls.getD s.toNat []).getD x.toNat 0
def wlk (Ls : List (List Int)) (s : Int) (xs : List Int) : Int := xs.foldl (nxt Ls) s
theorem wlk_snoc (Ls : List (List Int)) (s : Int) (xs : List Int) (x : Int) : wlk Ls s (xs ++ [x]) = nxt Ls (wlk Ls s xs) x := by
  unfold wlk
  rw [List.foldl_append]
  rfl
section
variable {n : Nat} {Ls : List (List Int)} {st : Int} {ms : List Int}
theorem OkMa.nxt (O : OkMa n Ls st ms) {s x : Int} (s1 : 0 ≤ s) (s2 : s ≤ (Ls.length : Int) - 1) (x1 : 0 ≤ x) (x2 : x ≤ (n : Int) - 1) : ∃ (i : Nat) (L : List Int), s = (i : Nat) ∧ Ls[i]? = some L ∧ L[x.toNat]? = some (nxt Ls s x) ∧ 0 ≤ nxt Ls s x ∧ nxt Ls s x ≤ (Ls.length : Int) - 1 := by
  obtain ⟨i, rfl⟩ := Int.eq_ofNat_of_zero_le s1
  have lt : i < Ls.length := by omega
  have e : Ls[i]? = some Ls[i] := List.getElem?_eq_getElem lt
  obtain ⟨l1, l2⟩ := O.row Ls[i] (List.getElem_mem lt)
  have lx : x.toNat < (Ls[i]).length := by omega
  have e2 : (Ls[i])[x.toNat]? = some (K17.nxt Ls (i : Nat) x) := by
    unfold K17.nxt
    rw [List.getD_eq_getElem?_getD, List.getD_eq_getElem?_getD, Int.toNat_natCast, e, Option.getD_some, List.getElem?_eq_getElem lx, Option.getD_some]
  have := l2 _ (List.mem_of_getElem? e2)
  exact ⟨i, Ls[i], rfl, e, e2, this.1, this.2⟩
theorem OkMa.wlk (O : OkMa n Ls st ms) : ∀ (xs : List Int) {s : Int}, 0 ≤ s → s ≤ (Ls.length : Int) - 1 → (∀ x ∈ xs, 0 ≤ x ∧ x ≤ (n : Int) - 1) → 0 ≤ wlk Ls s xs ∧ wlk Ls s xs ≤ (Ls.length : Int) - 1
  | [], s, s1, s2, _ => ⟨s1, s2⟩
  | x :: xs, s, s1, s2, h => by
    obtain ⟨x1, x2⟩ := h x List.mem_cons_self
    obtain ⟨_, _, _, _, _, a1, a2⟩ := O.nxt s1 s2 x1 x2
    exact OkMa.wlk O xs a1 a2 fun y hy => h y (List.mem_cons_of_mem _ hy)
end
theorem kindsV_at {k i : Nat} {ms : List Int} (h : i < k) : (kindsV k ms)[i]? = some (.bl (decide (((i : Nat) : Int) ∈ ms))) := by
  unfold kindsV
  rw [List.getElem?_map, List.getElem?_range h]
  rfl
theorem ints_at {xs : List Int} {i : Nat} {v : V} (h : (xs.map V.int)[i]? = some v) : ∃ x, xs[i]? = some x ∧ v = .int x := by
  rw [List.getElem?_map] at h
  cases z : xs[i]? with
  | none => rw [z] at h; cases h
  | some x => rw [z] at h; exact ⟨x, rfl, (Option.some.inj h).symm⟩
section
variable {P : Program} {w : World} {K : PySem.W.Frag} {mg : Str → Option Value} {base : Heap}
/-- first_wrong_sign(row, signs), of a row of signs -/
def spFws : Sp := fun vs H Q _ => ∃ (s : Addr) (xs : List Int) (n : Int), vs = [.ref s, .int n] ∧ LT H s (xs.map V.int) ∧ (∀ x ∈ xs, 0 ≤ x ∧ x ≤ n - 1) ∧ ∀ H', Same H H' → Q .non H'
theorem scFws : FnScope ["row", "signs", "index", "sign"] ["row", "signs"] (defScope sWrongS) := ⟨rfl, rfl, rfl, by decide +kernel, rfl, by decide +kernel, by decide +kernel⟩
theorem ok_fws {f : Addr} {fd : FuncData} (F : Fun K "first_wrong_sign" "first_wrong_sign" sWrongS f fd) (B : Bi mg) (cB : Cal CX0 P w K mg base 2 "is_between" spBetween) : FnOk P w K mg base CX0 3 f fd ["row", "signs"] spFws := by
  refine F.ok scFws (fun vs H Q E h => ?_) (fun cdv A outer s H vs Q E hr h => ?_)
  · obtain ⟨s, xs, n, rfl, _⟩ := h
    rfl
  · obtain ⟨s0, xs, n, rfl, hs, ok, q⟩ := h
    refine ⟨_, pss_cons (ps_for PassesOwn.never rfl (pi_enA B.enum (pa_cons (pv 0) pa_nil)) (pg_tup rfl (pgs_cons (pg_name (i := 2) scFws.nd rfl (.inl rfl)) (pgs_cons (pg_name (i := 3) scFws.nd rfl (.inl rfl)) pgs_nil)))
        (pss_one (ps_if (pt_not (pt_val (pe_c cB hr pass0 (pa_cons (pv 3) (pa_cons pe_int (pa_cons (pe_op op_sub (pv 1) pe_int) pa_nil)))))) pss_never pss_nil)))
      (pss_one (ps_ret pe_non)), ?_⟩
    refine ⟨_, rfl, s0, _, rfl, hs.sq, fun J G wk hG => for_it wk (fun i σ H' => ∃ (a b : Option V), σ = [some (.ref s0), some (.int n), a, b] ∧ Same H H') ⟨none, none, rfl, Same.refl H⟩ (fun i σ H' _ ⟨_, _, _, e⟩ => hG H' fun o z => e _ _ z) ?_ ?_⟩
    · rintro i x σ H1 H2 hi ⟨a, b, rfl, e⟩ ⟨T0, y, v, rfl, nT0, rfl, ey, hv⟩
      have ey : y = .int (i : Nat) := (Option.some.inj ey).symm
      subst ey
      obtain ⟨x, hx, rfl⟩ := ints_at hv
      obtain ⟨x1, x2⟩ := ok x (List.mem_of_getElem? hx)
      refine ⟨T0, _, rfl, SqT.of upd_same, rfl, _, _, rfl, _, _, rfl, rfl, ?_⟩
      refine ⟨_, rfl, _, rfl, _, _, rfl, rfl, .int x, 0, n - 1, rfl, .int x, _, rfl, ?_⟩
      rw [btw_t x1 x2]
      exact iteF ⟨_, _, rfl, e.trans (same_new nT0)⟩
    · rintro σ H1 ⟨a, b, rfl, e⟩
      exact q H1 e
def spCkS (C : Addr) : Sp := fun vs H Q _ => ∃ (p : Addr) (n : Nat) (Ls : List (List Int)) (st : Int) (ms : List Int) (i : Int), vs = [.ref p, .int i] ∧ IsM C H p n Ls st ms ∧ 0 ≤ i ∧ i ≤ (Ls.length : Int) - 1 ∧ Q .non H
theorem scCkS : FnScope ["self", "state"] ["self", "state"] (defScope sCkS) := ⟨rfl, rfl, rfl, by decide +kernel, rfl, by decide +kernel, by decide +kernel⟩
theorem ok_ckS {f C : Addr} {fd : FuncData} (F : Fun K "_check_state" "Machine._check_state" sCkS f fd) (B : Bi mg) (T : Txt K C) (cB : Cal CX0 P w K mg base 2 "is_between" spBetween) : FnOk P w K mg base CX0 3 f fd ["self", "state"] (spCkS C) := by
  refine F.ok scCkS (fun vs H Q E h => ?_) (fun cdv A outer s H vs Q E hr h => ?_)
  · obtain ⟨p, n, Ls, st, ms, i, rfl, _⟩ := h
    rfl
  · obtain ⟨p, n, Ls, st, ms, i, rfl, ⟨dx, tb, rw_, mk, kd, ts, us, h1, h2, h3, _⟩, i0, i1, q⟩ := h
    refine ⟨_, pss_one (ps_if (pt_not (pt_val (pe_c cB hr pass0 (pa_cons (pv 1) (pa_cons pe_int (pa_cons (pe_op op_sub (pe_len B.len (pa_cons (pe_fld (pv 0) rfl) pa_nil)) pe_int) pa_nil)))))) pss_never pss_nil), ?_⟩
    refine ⟨_, rfl, _, rfl, p, C, dx, _, _, rfl, h1, T.cl, T.nT, mf_table _ _ _ _ _ _, tb, ts, rfl, .inl (SqL.of h2), _, _, rfl, rfl, .int i, 0, _, rfl, .int i, _, rfl, ?_⟩
    rw [Paired.length h3, btw_t i0 i1]
    exact iteF q
def spCkR (C : Addr) : Sp := fun vs H Q _ => ∃ (p s : Addr) (n : Nat) (Ls : List (List Int)) (st : Int) (ms xs : List Int), vs = [.ref p, .ref s] ∧ IsM C H p n Ls st ms ∧ LT H s (xs.map V.int) ∧ (∀ x ∈ xs, 0 ≤ x ∧ x ≤ (n : Int) - 1) ∧ ∀ H', Same H H' → Q .non H'
theorem scCkR : FnScope ["self", "row", "wrong"] ["self", "row"] (defScope sCkR) := ⟨rfl, rfl, rfl, by decide +kernel, rfl, by decide +kernel, by decide +kernel⟩
theorem ok_ckR {f C : Addr} {fd : FuncData} (F : Fun K "_check_row" "Machine._check_row" sCkR f fd) (B : Bi mg) (T : Txt K C) (cF : Cal CX0 P w K mg base 3 "first_wrong_sign" spFws) : FnOk P w K mg base CX0 4 f fd ["self", "row"] (spCkR C) := by
  refine F.ok scCkR (fun vs H Q E h => ?_) (fun cdv A outer s H vs Q E hr h => ?_)
  · obtain ⟨p, s, n, Ls, st, ms, xs, rfl, _⟩ := h
    rfl
  · obtain ⟨p, s0, n, Ls, st, ms, xs, rfl, ⟨dx, tb, rw_, mk, kd, ts, us, h1, _⟩, hs, ok, q⟩ := h
    refine ⟨_, pss_cons (ps_set (i := 2) scCkR.nd rfl (Or.inl rfl) (pe_c cF hr pass0 (pa_cons (pv 1) (pa_cons (pe_fld (pv 0) rfl) pa_nil)))) (pss_one (ps_if (pt_cmpR op_notN (pv 2) pe_non (nomark _)) pss_never pss_nil)), ?_⟩
    refine ⟨_, rfl, _, rfl, p, C, dx, _, _, rfl, h1, T.cl, T.nS, mf_signs _ _ _ _ _ _, s0, xs, _, rfl, hs, ok, fun H' e => ?_⟩
    exact ⟨_, rfl, rfl, _, rfl, iteF (q H' e)⟩
/-- state_behind(state, row) -/
def spBeh (C : Addr) : Sp := fun vs H Q _ => ∃ (p s : Addr) (n : Nat) (Ls : List (List Int)) (st : Int) (ms xs : List Int) (i : Int), vs = [.ref p, .int i, .ref s] ∧ IsM C H p n Ls st ms ∧ OkMa n Ls st ms ∧ LT H s (xs.map V.int) ∧ (∀ x ∈ xs, 0 ≤ x ∧ x ≤ (n : Int) - 1) ∧ 0 ≤ i ∧ i ≤ (Ls.length : Int) - 1 ∧ ∀ H', Same H H' → Q (.int (wlk Ls i xs)) H'
theorem scBeh : FnScope ["self", "state", "row", "sign"] ["self", "state", "row"] (defScope sBeh) := ⟨rfl, rfl, rfl, by decide +kernel, rfl, by decide +kernel, by decide +kernel⟩
theorem mem_take {α : Type} {xs : List α} {i : Nat} {x : α} (h : x ∈ xs.take i) : x ∈ xs := List.mem_of_mem_take h
theorem ok_beh {f C : Addr} {fd : FuncData} (F : Fun K "state_behind" "Machine.state_behind" sBeh f fd) (B : Bi mg) (T : Txt K C) (mS : Met CX0 P w K mg base 3 C "_check_state" (spCkS C)) (mR : Met CX0 P w K mg base 4 C "_check_row" (spCkR C)) (cT : Cal CX0 P w K mg base 1 "target_of" spTarget) :
    FnOk P w K mg base CX0 5 f fd ["self", "state", "row"] (spBeh C) := by
  refine F.ok scBeh (fun vs H Q E h => ?_) (fun cdv A outer s H vs Q E hr h => ?_)
  · obtain ⟨p, s, n, Ls, st, ms, xs, i, rfl, _⟩ := h
    rfl
  · obtain ⟨p, s0, n, Ls, st, ms, xs, i, rfl, M, O, hs, ok, i0, i1, q⟩ := h
    refine ⟨_, pss_cons (ps_expr (pe_mt mS hr pass0 (pv 0) (pa_cons (pv 1) pa_nil))) (pss_cons (ps_expr (pe_mt mR hr pass0 (pv 0) (pa_cons (pv 2) pa_nil)))
      (pss_cons (ps_for PassesOwn.never rfl (pi_sqA (pv 2)) (pg_name (i := 3) scBeh.nd rfl (.inl rfl)) (pss_one (ps_set (i := 1) scBeh.nd rfl (Or.inl rfl) (pe_c cT hr pass0 (pa_cons (pe_ix ix_list (pe_fld (pv 0) rfl) (pv 1) (fun _ _ => rfl)) (pa_cons (pv 3) pa_nil))))))
      (pss_one (ps_ret (pv 1))))), ?_⟩
    obtain ⟨dx, tb, rw_, mk, kd, ts, us, h1, h2, h3, _⟩ := id M
    have no : ∀ {x : Str}, ¬ x = "kinds" → ¬ x = "marks" → ¬ x = "start" → ¬ x = "rows" → ¬ x = "table" → ¬ x = "signs" → (machF (n : Nat) tb rw_ st mk kd).lookup x = none := fun a b c d e f => mf_no _ _ _ _ _ _ a b c d e f
    refine ⟨_, rfl, p, dx, _, rfl, h1, no (by decide +kernel) (by decide +kernel) (by decide +kernel) (by decide +kernel) (by decide +kernel) (by decide +kernel), _, rfl, p, n, Ls, st, ms, i, rfl, M, i0, i1, ?_⟩
    refine ⟨_, rfl, p, dx, _, rfl, h1, no (by decide +kernel) (by decide +kernel) (by decide +kernel) (by decide +kernel) (by decide +kernel) (by decide +kernel), _, rfl, p, s0, n, Ls, st, ms, xs, rfl, M, hs, ok, fun HX eX => ?_⟩
    have h1 := eX _ _ h1
    have h2 := eX _ _ h2
    have h3 := h3.same eX
    refine ⟨_, rfl, s0, _, rfl, (hs.same eX).sq, fun J G wk hG => for_it wk (fun j σ H' => ∃ (a : Option V), σ = [some (.ref p), some (.int (wlk Ls i (xs.take j))), some (.ref s0), a] ∧ H' = HX) ⟨none, rfl, rfl⟩ (fun j σ H' _ ⟨_, _, e⟩ => hG H' fun o z => by rw [e]; exact z) ?_ ?_⟩
    · rintro j x σ H1 H2 hj ⟨a, rfl, rfl⟩ ⟨rfl, hv⟩
      obtain ⟨x, hx, rfl⟩ := ints_at hv
      obtain ⟨x1, x2⟩ := ok x (List.mem_of_getElem? hx)
      obtain ⟨w1, w2⟩ := O.wlk (xs.take j) i0 i1 fun y hy => ok y (mem_take hy)
      obtain ⟨k, L, ek, hL, hLx, _, _⟩ := O.nxt w1 w2 x1 x2
      obtain ⟨tv, htv, ta, rs, rfl, hta, hpr⟩ := paired_to h3 hL
      obtain ⟨xn, rfl⟩ := Int.eq_ofNat_of_zero_le x1
      rw [Int.toNat_natCast] at hLx
      have lr : rs.length ≤ 10000 := by
        have a1 := Paired.length hpr
        have a2 := rle_len L
        have a3 := (O.row L (List.mem_of_getElem? hL)).1
        have a4 := O.n2
        omega
      refine ⟨_, rfl, p, C, dx, _, _, rfl, h1, T.cl, T.nT, mf_table _ _ _ _ _ _, _, rfl, tb, ts, _, .ref ta, rfl, rfl, SqL.of h2, ?_, _, rfl, ta, rs, L, xn, _, rfl, hta, hpr, lr, hLx, ⟨some (.int (xn : Nat)), ?_, rfl⟩⟩
      · rw [ek]
        exact atI_nat htv
      · rw [take_snoc hx, wlk_snoc]
        rfl
    · rintro σ H1 ⟨a, rfl, rfl⟩
      refine ⟨_, rfl, ?_⟩
      have e : xs.take (xs.map V.int).length = xs := by rw [List.length_map, List.take_length]
      rw [e]
      exact q _ eX
end
end K17
set_option Elab.async false
set_option linter.all false
set_option maxRecDepth 100001
set_option maxHeartbeats 3999999
namespace K17
open PySem L2
/-- the marked places among the first k of a row -/
def plc (Ls : List (List Int)) (ms : List Int) (st : Int) (xs : List Int) (k : Nat) : List Int := ((List.range k).filter fun i => decide (wlk Ls st (xs.take (i + 1)) ∈ ms)).map fun i => ((i : Nat) : Int)
theorem plc_succ (Ls : List (List Int)) (ms : List Int) (st : Int) (xs : List Int) (k : Nat) : plc Ls ms st xs (k + 1) = plc Ls ms st xs k ++ (if wlk Ls st (xs.take (k + 1)) ∈ ms then [((k : Nat) : Int)] else []) := by
  unfold plc
  rw [List.range_succ, List.filter_append, List.map_append]
  congr 1
  by_cases c : wlk Ls st (xs.take (k + 1)) ∈ ms
  · rw [if_pos c, List.filter_cons, if_pos (by simpa using c)]
    rfl
  · rw [if_neg c, List.filter_cons, if_neg (by simpa using c)]
    rfl
theorem plc_len (Ls : List (List Int)) (ms : List Int) (st : Int) (xs : List Int) (k : Nat) : (plc Ls ms st xs k).length ≤ k := by
  unfold plc
  rw [List.length_map]
  exact Nat.le_trans (List.length_filter_le _ _) (by rw [List.length_range]; exact Nat.le_refl _)
section
variable {P : Program} {w : World} {K : PySem.W.Frag} {mg : Str → Option Value} {base : Heap}
/-- has_text(row) -/
def spHas (C : Addr) : Sp := fun vs H Q _ => ∃ (p s : Addr) (n : Nat) (Ls : List (List Int)) (st : Int) (ms xs : List Int), vs = [.ref p, .ref s] ∧ IsM C H p n Ls st ms ∧ OkMa n Ls st ms ∧ LT H s (xs.map V.int) ∧ (∀ x ∈ xs, 0 ≤ x ∧ x ≤ (n : Int) - 1) ∧ ∀ H', Same H H' → Q (.bl (decide (wlk Ls st xs ∈ ms))) H'
theorem scHas : FnScope ["self", "row"] ["self", "row"] (defScope sHas) := ⟨rfl, rfl, rfl, by decide +kernel, rfl, by decide +kernel, by decide +kernel⟩
theorem ok_has {f C : Addr} {fd : FuncData} (F : Fun K "has_text" "Machine.has_text" sHas f fd) (B : Bi mg) (T : Txt K C) (mB : Met CX0 P w K mg base 5 C "state_behind" (spBeh C)) : FnOk P w K mg base CX0 6 f fd ["self", "row"] (spHas C) := by
  refine F.ok scHas (fun vs H Q E h => ?_) (fun cdv A outer s H vs Q E hr h => ?_)
  · obtain ⟨p, s, n, Ls, st, ms, xs, rfl, _⟩ := h
    rfl
  · obtain ⟨p, s0, n, Ls, st, ms, xs, rfl, M, O, hs, ok, q⟩ := h
    refine ⟨_, pss_one (ps_ret (pe_ix ix_list (pe_fld (pv 0) rfl) (pe_mt mB hr pass0 (pv 0) (pa_cons (pe_fld (pv 0) rfl) (pa_cons (pv 1) pa_nil))) (fun _ _ => rfl))), ?_⟩
    obtain ⟨dx, tb, rw_, mk, kd, ts, us, h1, h2, h3, h4, h5, h6, h7⟩ := id M
    refine ⟨_, rfl, p, C, dx, _, _, rfl, h1, T.cl, T.nK, mf_kinds _ _ _ _ _ _, _, rfl, p, dx, _, rfl, h1, mf_no _ _ _ _ _ _ (by decide +kernel) (by decide +kernel) (by decide +kernel) (by decide +kernel) (by decide +kernel) (by decide +kernel), _, rfl, p, C, dx, _, _, rfl, h1, T.cl, T.nA, mf_start _ _ _ _ _ _, _, rfl, ?_⟩
    refine ⟨p, s0, n, Ls, st, ms, xs, st, rfl, M, O, hs, ok, O.s1, O.s2, fun H' e => ?_⟩
    obtain ⟨w1, w2⟩ := O.wlk xs O.s1 O.s2 ok
    obtain ⟨j, ej⟩ := Int.eq_ofNat_of_zero_le w1
    have q2 := q H' e
    rw [ej] at q2 ⊢
    exact ⟨kd, _, _, _, rfl, rfl, SqL.of (e _ _ h7), atI_nat (kindsV_at (by omega)), q2⟩
/-- marked_in(row) -/
def spMkd (C : Addr) : Sp := fun vs H Q _ => ∃ (p s : Addr) (n : Nat) (Ls : List (List Int)) (st : Int) (ms xs : List Int), vs = [.ref p, .ref s] ∧ IsM C H p n Ls st ms ∧ OkMa n Ls st ms ∧ LT H s (xs.map V.int) ∧ (∀ x ∈ xs, 0 ≤ x ∧ x ≤ (n : Int) - 1) ∧ xs.length ≤ 2000 ∧
  ∀ t H', Same H H' → H t = none → H' t = some (.tup ((plc Ls ms st xs xs.length).map V.int)) → Q (.ref t) H'
theorem scMkd : FnScope ["self", "row", "state", "places", "place", "sign"] ["self", "row"] (defScope sMkd) := ⟨rfl, rfl, rfl, by decide +kernel, rfl, by decide +kernel, by decide +kernel⟩
theorem ok_mkd {f C : Addr} {fd : FuncData} (F : Fun K "marked_in" "Machine.marked_in" sMkd f fd) (B : Bi mg) (T : Txt K C) (mR : Met CX0 P w K mg base 4 C "_check_row" (spCkR C)) (cT : Cal CX0 P w K mg base 1 "target_of" spTarget) : FnOk P w K mg base CX0 5 f fd ["self", "row"] (spMkd C) := by
  refine F.ok scMkd (fun vs H Q E h => ?_) (fun cdv A outer s H vs Q E hr h => ?_)
  · obtain ⟨p, s, n, Ls, st, ms, xs, rfl, _⟩ := h
    rfl
  · obtain ⟨p, s0, n, Ls, st, ms, xs, rfl, M, O, hs, ok, len, q⟩ := h
    refine ⟨_, pss_cons (ps_expr (pe_mt mR hr pass0 (pv 0) (pa_cons (pv 1) pa_nil))) (pss_cons (ps_set (i := 2) scMkd.nd rfl (Or.inl rfl) (pe_fld (pv 0) rfl)) (pss_cons (ps_set (i := 3) scMkd.nd rfl (Or.inl rfl) (pe_lst pa_nil))
      (pss_cons (ps_for PassesOwn.never rfl (pi_enA B.enum (pa_cons (pv 1) pa_nil)) (pg_tup rfl (pgs_cons (pg_name (i := 4) scMkd.nd rfl (.inl rfl)) (pgs_cons (pg_name (i := 5) scMkd.nd rfl (.inl rfl)) pgs_nil)))
        (pss_cons (ps_set (i := 2) scMkd.nd rfl (Or.inl rfl) (pe_c cT hr pass0 (pa_cons (pe_ix ix_list (pe_fld (pv 0) rfl) (pv 2) (fun _ _ => rfl)) (pa_cons (pv 5) pa_nil))))
        (pss_one (ps_if (pt_val (pe_ix ix_list (pe_fld (pv 0) rfl) (pv 2) (fun _ _ => rfl))) (pss_one (ps_expr (pe_bm PySem.F.plainAttrs_list PySem.F.slot_list_append PySem.F.type_list_append mt_append (pv 3) (pa_cons (pv 4) pa_nil)))) pss_nil))))
      (pss_one (ps_ret (pe_tupleOf rfl B.tuple (pv 3))))))), ?_⟩
    obtain ⟨dx, tb, rw_, mk, kd, ts, us, h1, h2, h3, h4, h5, h6, h7⟩ := id M
    refine ⟨_, rfl, p, dx, _, rfl, h1, mf_no _ _ _ _ _ _ (by decide +kernel) (by decide +kernel) (by decide +kernel) (by decide +kernel) (by decide +kernel) (by decide +kernel), _, rfl, p, s0, n, Ls, st, ms, xs, rfl, M, hs, ok, fun HX eX => ?_⟩
    have h1 := eX _ _ h1
    have h2 := eX _ _ h2
    have h3 := h3.same eX
    have h7 := eX _ _ h7
    refine ⟨_, rfl, p, C, dx, _, _, rfl, h1, T.cl, T.nA, mf_start _ _ _ _ _ _, Nat.zero_le _, fun L nL => ?_⟩
    have sL : s0 ≠ L := (hs.same eX).elim (fun h => ne_of_none h nL) fun h => ne_of_none h nL
    have hs1 : LT (upd HX L (.lst [])) s0 (xs.map V.int) := (hs.same eX).same (same_new nL)
    refine ⟨_, rfl, s0, _, rfl, hs1.sq, fun J G wk hG => for_it wk (fun j σ H' => ∃ (a b : Option V), σ = [some (.ref p), some (.ref s0), some (.int (wlk Ls st (xs.take j))), some (.ref L), a, b] ∧ Same HX H' ∧ H' L = some (.lst ((plc Ls ms st xs j).map V.int)))
      ⟨none, none, rfl, same_new nL, upd_same⟩ (fun j σ H' _ ⟨_, _, _, e, _⟩ => hG H' fun o z => ?_) ?_ ?_⟩
    · rw [upd_ne sL] at z
      exact e _ _ z
    · rintro j x σ H1 H2 hj ⟨a, b, rfl, e, hL⟩ ⟨T0, y, v, rfl, nT0, rfl, ey, hv⟩
      have ey : y = .int (j : Nat) := (Option.some.inj ey).symm
      subst ey
      obtain ⟨x, hx, rfl⟩ := ints_at hv
      obtain ⟨x1, x2⟩ := ok x (List.mem_of_getElem? hx)
      obtain ⟨w1, w2⟩ := O.wlk (xs.take j) O.s1 O.s2 fun y hy => ok y (mem_take hy)
      obtain ⟨k, L0, ek, hL0, hLx, v1, v2⟩ := O.nxt w1 w2 x1 x2
      obtain ⟨tv, htv, ta, rs, rfl, hta, hpr⟩ := paired_to h3 hL0
      obtain ⟨xn, rfl⟩ := Int.eq_ofNat_of_zero_le x1
      rw [Int.toNat_natCast] at hLx
      have lr : rs.length ≤ 10000 := by
        have a1 := Paired.length hpr
        have a2 := rle_len L0
        have a3 := (O.row L0 (List.mem_of_getElem? hL0)).1
        have a4 := O.n2
        omega
      have x3 := same_new (o := .tup [.int (j : Nat), .int (xn : Nat)]) nT0
      have e2 := e.trans x3
      have hL2 := x3 _ _ hL
      have hT0 : upd H1 T0 (.tup [.int (j : Nat), .int (xn : Nat)]) T0 = some (.tup [.int (j : Nat), .int (xn : Nat)]) := upd_same
      generalize upd H1 T0 (.tup [.int (j : Nat), .int (xn : Nat)]) = H2 at x3 e2 hL2 hT0 ⊢
      have et : wlk Ls st (xs.take (j + 1)) = nxt Ls (wlk Ls st (xs.take j)) (xn : Nat) := by rw [take_snoc hx, wlk_snoc]
      refine ⟨T0, _, rfl, SqT.of hT0, rfl, _, _, rfl, _, _, rfl, rfl, ?_⟩
      refine ⟨_, rfl, p, C, dx, _, _, rfl, e2 _ _ h1, T.cl, T.nT, mf_table _ _ _ _ _ _, _, rfl, tb, ts, _, .ref ta, rfl, rfl, SqL.of (e2 _ _ h2), (by rw [ek]; exact atI_nat htv), _, rfl, ta, rs, L0, xn, _, rfl, e2 _ _ hta, hpr.same e2, lr, hLx, ?_⟩
      rw [← et] at v1 v2 ⊢
      obtain ⟨q1, eq1⟩ := Int.eq_ofNat_of_zero_le v1
      have ps := plc_succ Ls ms st xs j
      refine ⟨_, rfl, p, C, dx, _, _, rfl, e2 _ _ h1, T.cl, T.nK, mf_kinds _ _ _ _ _ _, _, rfl, kd, _, _, _, rfl, rfl, SqL.of (e2 _ _ h7), (by rw [eq1]; exact atI_nat (kindsV_at (by omega))), _, rfl, ?_⟩
      rw [← eq1]
      by_cases c : wlk Ls st (xs.take (j + 1)) ∈ ms
      · rw [decide_eq_true c]
        rw [if_pos c] at ps
        refine iteT ⟨_, rfl, .inl ⟨rfl, _, SqL.of hL2⟩, _, rfl, L, _, _, rfl, rfl, hL2, by rw [List.length_map]; exact small10 (Nat.le_trans (plc_len _ _ _ _ _) (by simp at hj; omega)), _, _, rfl, fun b' o' z => ?_, ?_⟩
        · rw [upd_ne (ne_of_none z nL)]
          exact e2 _ _ z
        · rw [upd_same, ps, List.map_append]
          rfl
      · rw [decide_eq_false c]
        rw [if_neg c, List.append_nil] at ps
        exact iteF ⟨_, _, rfl, e2, by rw [ps]; exact hL2⟩
    · rintro σ H1 ⟨a, b, rfl, e, hL⟩
      rw [List.length_map] at hL
      refine ⟨_, rfl, .inl ⟨L, _, rfl, SqL.of hL, fun t nt => q t _ ((eX.trans e).trans (same_new nt)) ((eX.trans e).free nt) upd_same⟩⟩
end
end K17
set_option Elab.async false
set_option linter.all false
set_option maxRecDepth 100001
set_option maxHeartbeats 3999999
namespace K17
open PySem L2
abbrev NIn : List Str := ["self", "signs", "rows", "start", "marks", "state", "row", "least", "index", "mark", "away", "moves", "_"]
def endI (ms : List Int) : Int := match ms.getLast? with
  | some x => x + 1
  | none => 0
theorem endI_snoc (ms : List Int) (x : Int) : endI (ms ++ [x]) = x + 1 := by
  unfold endI
  rw [List.getLast?_concat]
theorem asc_at {ms : List Int} {k : Int} (hm : ∀ m ∈ ms, 0 ≤ m ∧ m ≤ k - 1) (up : ms.Pairwise (· < ·)) {i : Nat} {x : Int} (h : ms[i]? = some x) : endI (ms.take i) ≤ x ∧ x ≤ k - 1 := by
  obtain ⟨lt, eq⟩ := List.getElem?_eq_some_iff.mp h
  have hx := hm x (List.mem_of_getElem? h)
  refine ⟨?_, hx.2⟩
  cases i with
  | zero =>
    show (0 : Int) ≤ x
    exact hx.1
  | succ j =>
    have hj : ms[j]? = some ms[j] := List.getElem?_eq_getElem (by omega)
    rw [take_snoc hj, endI_snoc]
    have := List.pairwise_iff_getElem.mp up j (j + 1) (by omega) lt (by omega)
    rw [eq] at this
    omega
theorem kindsV_nil (k : Nat) : kindsV k [] = (List.range k).map fun _ => V.bl false := by
  unfold kindsV
  refine List.map_congr_left fun i _ => ?_
  simp
theorem kindsV_len (k : Nat) (ms : List Int) : (kindsV k ms).length = k := by
  unfold kindsV
  rw [List.length_map, List.length_range]
theorem kindsV_set (k : Nat) (ms : List Int) (j : Nat) (h : j < k) : (kindsV k ms).set j (.bl true) = kindsV k (ms ++ [((j : Nat) : Int)]) := by
  refine List.ext_getElem? fun i => ?_
  rw [List.getElem?_set]
  by_cases c : i < k
  · rw [kindsV_at c, kindsV_at c]
    by_cases d : j = i
    · subst d
      rw [if_pos rfl, if_pos (by rw [kindsV_len]; exact c)]
      simp
    · rw [if_neg d]
      have : ¬ ((i : Nat) : Int) = ((j : Nat) : Int) := by omega
      simp [this]
  · have e1 : (kindsV k ms)[i]? = none := List.getElem?_eq_none (by rw [kindsV_len]; omega)
    have e2 : (kindsV k (ms ++ [((j : Nat) : Int)]))[i]? = none := List.getElem?_eq_none (by rw [kindsV_len]; omega)
    rw [e1, e2, if_neg (show ¬ j = i by omega)]
theorem expT_len {n k a : Int} {ms : List Mv} {m : Nat} (h : OkM (m : Nat) k ms) : (expT a ms m).length = m := by
  obtain ⟨l1, l2, l3⟩ := expM_len (a := a) h
  have l4 : endM ms ≤ (m : Nat) := by
    rcases l3 with z | z
    · rw [z]
      show (0 : Int) ≤ _
      omega
    · exact z
  unfold expT
  rw [List.length_append, List.length_replicate]
  omega
theorem kTup_lt {K : PySem.W.Frag} {H : Hp} {u : Addr} {ts : List V} {Q : VK} (h : LT H u ts) (q : ∀ mt H9, Same H H9 → H9 mt = some (.tup ts) → Q (.ref mt) H9) : kTup K (.ref u) H Q := by
  rcases h with h | h
  · exact .inl ⟨u, ts, rfl, SqL.of h, fun t nt => q t _ (same_new nt) upd_same⟩
  · exact .inr ⟨u, ts, rfl, SqT.of h, q u H (Same.refl H) h⟩
theorem LT.at_ {C p dx u : Addr} {fs : List (Str × V)} {H H' : Hp} {ts : List V} (h : LT H u ts) (e : ButI p H H') (hp : H p = some (.ins C dx fs)) : LT H' u ts := by
  rcases h with h | h
  · exact .inl (e _ _ (ne_of h hp fun z => nomatch z) h)
  · exact .inr (e _ _ (ne_of h hp fun z => nomatch z) h)
theorem ixN_nat {n j : Nat} (h : j < n) : ixN n ((j : Nat) : Int) = some j := by
  unfold ixN
  simp
  omega
/-- the constants of the module -/
structure Cs (mg : Str → Option Value) : Prop where
  sg : ∃ u, mg "MOST_SIGNS" = some u ∧ RelV (.int 2000) u
  st : ∃ u, mg "MOST_STATES" = some u ∧ RelV (.int 2000) u
section
variable {P : Program} {w : World} {K : PySem.W.Frag} {mg : Str → Option Value} {base : Heap}
/-- Machine(signs, rows, start, marks) -/
def spInit (C : Addr) : Sp := fun vs H Q _ => ∃ (p dx r mk : Addr) (n : Nat) (st : Int) (rvs : List V) (Ls : List (List Int)) (ms : List Int), vs = [.ref p, .int (n : Nat), .ref r, .int st, .ref mk] ∧ H p = some (.ins C dx []) ∧ LT H r rvs ∧ RowsAt H n (Ls.length : Int) rvs Ls ∧ LT H mk (ms.map V.int) ∧ OkMa n Ls st ms ∧
  ∀ H', ButI p H H' → IsM C H' p n Ls st ms → Q .non H'
theorem scInit : FnScope NIn ["self", "signs", "rows", "start", "marks"] (defScope sInit) := ⟨rfl, rfl, rfl, by decide +kernel, rfl, by decide +kernel, by decide +kernel⟩
theorem ok_init {f C : Addr} {fd : FuncData} (F : Fun K "__init__" "Machine.__init__" sInit f fd) (B : Bi mg) (T : Txt K C) (Z : Cs mg) (cB : Cal CX0 P w K mg base 2 "is_between" spBetween) (cR : Cal CX0 P w K mg base 3 "is_row" spIsRow) (cS : Cal CX0 P w K mg base 2 "stretch_row" spStr) (cT : Cal CX0 P w K mg base 1 "told_row" spTold) :
    FnOk P w K mg base CX0 4 f fd ["self", "signs", "rows", "start", "marks"] (spInit C) := by
  refine F.ok scInit (fun vs H Q E h => ?_) (fun cdv A outer s H vs Q E hr h => ?_)
  · obtain ⟨p, dx, r, mk, n, st, rvs, Ls, ms, rfl, _⟩ := h
    rfl
  · obtain ⟨p, dx, r, mk, n, st, rvs, Ls, ms, rfl, hp, hrw, rows, hmk, O, q⟩ := h
    refine ⟨_, pss_cons (ps_if (pt_not (pt_val (pe_c cB hr pass0 (pa_cons (pv 1) (pa_cons pe_int (pa_cons (C8.pe_gc rfl Z.sg) pa_nil)))))) pss_never pss_nil)
      (pss_cons (ps_if (pt_not (pt_chain op_le op_le pe_int (pe_len B.len (pa_cons (pv 2) pa_nil)) (C8.pe_gc rfl Z.st))) pss_never pss_nil)
      (pss_cons (ps_for PassesOwn.never rfl (pi_enA B.enum (pa_cons (pv 2) pa_nil)) (pg_tup rfl (pgs_cons (pg_name (i := 5) scInit.nd rfl (.inl rfl)) (pgs_cons (pg_name (i := 6) scInit.nd rfl (.inl rfl)) pgs_nil)))
        (pss_one (ps_if (pt_not (pt_val (pe_c cR hr pass0 (pa_cons (pv 6) (pa_cons (pv 1) (pa_cons (pe_len B.len (pa_cons (pv 2) pa_nil)) pa_nil)))))) pss_never pss_nil)))
      (pss_cons (ps_if (pt_not (pt_val (pe_c cB hr pass0 (pa_cons (pv 3) (pa_cons pe_int (pa_cons (pe_op op_sub (pe_len B.len (pa_cons (pv 2) pa_nil)) pe_int) pa_nil)))))) pss_never pss_nil)
      (pss_cons (ps_set (i := 7) scInit.nd rfl (Or.inl rfl) pe_int)
      (pss_cons (ps_for PassesOwn.never rfl (pi_enA B.enum (pa_cons (pv 4) pa_nil)) (pg_tup rfl (pgs_cons (pg_name (i := 8) scInit.nd rfl (.inl rfl)) (pgs_cons (pg_name (i := 9) scInit.nd rfl (.inl rfl)) pgs_nil)))
        (pss_cons (ps_if (pt_not (pt_val (pe_c cB hr pass0 (pa_cons (pv 9) (pa_cons (pv 7) (pa_cons (pe_op op_sub (pe_len B.len (pa_cons (pv 2) pa_nil)) pe_int) pa_nil)))))) pss_never pss_nil)
        (pss_one (ps_set (i := 7) scInit.nd rfl (Or.inl rfl) (pe_op op_add (pv 9) pe_int)))))
      (pss_cons (ps_fld (pv 0) (pv 1) rfl)
      (pss_cons (ps_fld (pv 0) (pe_lc (own := [("away", 10), ("moves", 11)]) rfl scInit.nd (pi_sqA (pv 2)) (blkOk_by (N := NIn) (sc := defScope sInit) (by decide +kernel))
          (fun _ _ _ _ _ => pg_pairK K rfl rfl (pg_name (i := 10) scInit.nd rfl (Or.inl rfl)) (pg_name (i := 11) scInit.nd rfl (Or.inl rfl))) (fun _ _ _ _ _ => pts_nil) (fun _ _ _ _ _ => pe_c cS hr pass0 (pa_cons (pv 10) (pa_cons (pv 11) (pa_cons (pv 1) pa_nil))))) rfl)
      (pss_cons (ps_fld (pv 0) (pe_tupleOf rfl B.tuple (pe_lc (own := [("row", 6)]) rfl scInit.nd (pi_sqA (pe_fld (pv 0) rfl)) (blkOk_by (N := NIn) (sc := defScope sInit) (by decide +kernel))
          (fun _ _ _ _ _ => pg_name (i := 6) scInit.nd rfl (Or.inl rfl)) (fun _ _ _ _ _ => pts_nil) (fun _ _ _ _ _ => pe_c cT hr pass0 (pa_cons (pv 6) (pa_cons (pv 1) pa_nil))))) rfl)
      (pss_cons (ps_fld (pv 0) (pv 3) rfl)
      (pss_cons (ps_fld (pv 0) (pe_tupleOf rfl B.tuple (pv 4)) rfl)
      (pss_cons (ps_fld (pv 0) (pe_lc (own := [("_", 12)]) rfl scInit.nd (pi_sqA (pv 2)) (blkOk_by (N := NIn) (sc := defScope sInit) (by decide +kernel))
          (fun _ _ _ _ _ => pg_name (i := 12) scInit.nd rfl (Or.inl rfl)) (fun _ _ _ _ _ => pts_nil) (fun _ _ _ _ _ => pe_bl)) rfl)
      (pss_one (ps_for PassesOwn.never rfl (pi_sqA (pv 4)) (pg_name (i := 9) scInit.nd rfl (.inl rfl)) (pss_one (ps_asg pe_bl (pg_sub (pe_fld (pv 0) rfl) (pv 9) set_list)))))))))))))))), ?_⟩
    have lk : rvs.length = Ls.length := Paired.length rows
    have n1 := O.n1
    have n2 := O.n2
    have k1 := O.k1
    have k2 := O.k2
    have tup_ne : ∀ {p : Addr} {H : Hp} {dx : Addr} {fs : List (Str × V)}, H p = some (.ins C dx fs) → ∀ xs, H p ≠ some (.tup xs) := fun h xs z => by
      rw [h] at z
      cases z
    refine ⟨_, rfl, .int (n : Nat), 1, 2000, rfl, .int _, _, rfl, ?_⟩
    rw [btw_t (by omega) (by omega)]
    refine iteF ?_
    refine ⟨_, rfl, r, rvs, rfl, hrw.sq, _, _, rfl, rfl, _, rfl, ?_⟩
    rw [decide_eq_true (show (1 : Int) ≤ ((rvs.length : Nat) : Int) by omega)]
    refine iteT ⟨_, _, rfl, rfl, _, rfl, ?_⟩
    rw [decide_eq_true (show ((rvs.length : Nat) : Int) ≤ 2000 by omega)]
    refine iteF ?_
    refine ⟨_, rfl, r, rvs, rfl, hrw.sq, fun J G wk hG => for_it wk (fun i σ H' => ∃ (a b : Option V), σ = [some (.ref p), some (.int (n : Nat)), some (.ref r), some (.int st), some (.ref mk), a, b, none, none, none, none, none, none] ∧ Same H H') ⟨none, none, rfl, Same.refl H⟩ (fun i σ H' _ ⟨_, _, _, e⟩ => hG H' fun o z => e _ _ z) ?_ ?_⟩
    · rintro i x σ H1 H2 hi ⟨a, b, rfl, e⟩ ⟨T0, y, v, rfl, nT0, rfl, ey, hv⟩
      have ey : y = .int (i : Nat) := (Option.some.inj ey).symm
      subst ey
      obtain ⟨L, hL, a0, mvs, hrow, okm, a1, a2, _⟩ := paired_at rows hv
      have e2 := e.trans (same_new (o := .tup [.int (i : Nat), v]) nT0)
      refine ⟨T0, _, rfl, SqT.of upd_same, rfl, _, _, rfl, _, _, rfl, rfl, ?_⟩
      refine ⟨_, rfl, _, rfl, _, rfl, r, rvs, rfl, (hrw.same e2).sq, v, (n : Nat), _, a0, mvs, rfl, hrow.same e2, (by rw [lk]; exact okm), a1, (by rw [lk]; exact a2), fun H3 e3 => ⟨_, rfl, iteF ⟨_, _, rfl, e2.trans e3⟩⟩⟩
    rintro σ H1 ⟨a, b, rfl, e1⟩
    refine ⟨_, rfl, _, rfl, r, rvs, rfl, (hrw.same e1).sq, _, _, rfl, rfl, .int st, 0, _, rfl, .int _, _, rfl, ?_⟩
    rw [btw_t O.s1 (by rw [lk]; exact O.s2)]
    refine iteF ?_
    refine ⟨_, rfl, mk, _, rfl, (hmk.same e1).sq, fun J G wk hG => for_it wk (fun i σ H' => ∃ (c d : Option V), σ = [some (.ref p), some (.int (n : Nat)), some (.ref r), some (.int st), some (.ref mk), a, b, some (.int (endI (ms.take i))), c, d, none, none, none] ∧ Same H H') ⟨none, none, rfl, e1⟩ (fun i σ H' _ ⟨_, _, _, e⟩ => hG H' fun o z => ?_) ?_ ?_⟩
    · rcases hmk with h | h
      · rw [e1 _ _ h] at z
        cases z
        exact e _ _ h
      · rw [e1 _ _ h] at z
        cases z
        exact e _ _ h
    · rintro i x σ H2 H3 hi ⟨c, d, rfl, e⟩ ⟨T0, y, v, rfl, nT0, rfl, ey, hv⟩
      have ey : y = .int (i : Nat) := (Option.some.inj ey).symm
      subst ey
      obtain ⟨x, hx, rfl⟩ := ints_at hv
      obtain ⟨x1, x2⟩ := asc_at O.mar O.up hx
      have e2 := e.trans (same_new (o := .tup [.int (i : Nat), .int x]) nT0)
      refine ⟨T0, _, rfl, SqT.of upd_same, rfl, _, _, rfl, _, _, rfl, rfl, ?_⟩
      refine ⟨_, rfl, _, rfl, _, rfl, r, rvs, rfl, (hrw.same e2).sq, _, _, rfl, rfl, .int x, _, _, rfl, .int _, _, rfl, ?_⟩
      rw [btw_t x1 (by rw [lk]; exact x2)]
      refine iteF ⟨_, rfl, _, _, rfl, rfl, some (.int (i : Nat)), some (.int x), ?_, e2⟩
      rw [take_snoc hx, endI_snoc]
      rfl
    rintro σ H2 ⟨c, d, rfl, e2⟩
    clear e1
    -- signs
    have hp2 := e2 _ _ hp
    have fe : ∀ {xs : List (Str × V)}, xs.length < 900 → xs.length < 1000 := fun h => by omega
    refine ⟨_, rfl, _, rfl, p, C, dx, [], rfl, hp2, T.cl, T.nS, by show 0 < 1000; decide, ?_⟩
    have b3 : ButI p H (upd H2 p (.ins C dx (putF "signs" (.int (n : Nat)) []))) := fun b' o' nb z => (upd_ne nb).trans (e2 _ _ z)
    have hp3 : upd H2 p (.ins C dx (putF "signs" (.int (n : Nat)) [])) p = _ := upd_same
    generalize upd H2 p (.ins C dx (putF "signs" (.int (n : Nat)) [])) = H3 at b3 hp3 ⊢
    clear e2 hp2
    -- all but p stays
    have ltb : ∀ {H4 : Hp} {u : Addr} {ts : List V}, LT H u ts → ButI p H H4 → LT H4 u ts := fun h b4 => LT.at_ h b4 hp
    have trb : ∀ {H4 : Hp} {ts : List V} {l : List Mv}, TrAt H ts l → ButI p H H4 → TrAt H4 ts l := fun h b4 => h.at_ b4 (tup_ne hp)
    -- table
    refine ⟨_, rfl, r, rvs, rfl, (ltb hrw b3).sq, fun J G wk hG D nD => lc_it wk (fun i H' => ∃ ts : List V, Same H3 H' ∧ H' D = some (.lst ts) ∧ StrAt H' ts (Ls.take i)) ⟨[], same_new nD, upd_same, .nil⟩ (fun i H' _ ⟨_, z, _⟩ => hG H' fun o w => z _ _ w) ?_ ?_⟩
    · rintro i x H4 H5 hi ⟨ts, e4, hD, str⟩ ⟨rfl, hx⟩
      obtain ⟨L, hL, a0, mvs, ⟨t, u, tv, rfl, g1, g2, g3⟩, okm, a1, a2, rfl⟩ := paired_at rows hx
      have b4 : ButI p H H5 := fun b' o' nb z => e4 _ _ (b3 _ _ nb z)
      refine ⟨t, _, rfl, SqT.of (b4 _ _ (ne_of g1 hp fun z => nomatch z) g1), rfl, _, _, rfl, _, _, rfl, rfl, rfl, ?_⟩
      unfold tYes
      refine iteT ?_
      refine ⟨_, rfl, _, rfl, _, rfl, a0, u, n, _, tv, mvs, rfl, ltb g2 b4, trb g3 b4, okm, by omega, fun t' H6 rs e6 nt' ht' pr' => ?_⟩
      have hD6 := e6 _ _ hD
      refine ⟨_, hD6, ?_, ts ++ [.ref t'], fun b' o' z => ?_, upd_same, ?_⟩
      · have := Paired.length str
        rw [List.length_take] at this
        exact small10 (by omega)
      · rw [upd_ne (ne_of_none z nD)]
        exact e6 _ _ (e4 _ _ z)
      · rw [take_snoc hL]
        have b7 : ButI D H6 (upd H6 D (.lst (ts ++ [.ref t']))) := fun b' o' nb z => (upd_ne nb).trans z
        have nl : ∀ xs, H6 D ≠ some (.tup xs) := fun xs z => by rw [hD6] at z; cases z
        exact Paired.snoc ((str.same e6).at_ b7 nl) ⟨t', rs, rfl, (upd_ne (ne_of ht' hD6 fun z => nomatch z)).trans ht', pr'.at_ b7 nl⟩
    rintro H4 ⟨ts, e4, hD, str⟩
    rw [lk, List.take_length] at str
    have hp4 := e4 _ _ hp3
    refine ⟨_, rfl, p, C, dx, _, rfl, hp4, T.cl, T.nT, by show 1 < 1000; decide, ?_⟩
    have x5 : ButI p H4 (upd H4 p (.ins C dx (putF "table" (.ref D) (putF "signs" (.int (n : Nat)) [])))) := fun b' o' nb z => (upd_ne nb).trans z
    have b5 : ButI p H (upd H4 p (.ins C dx (putF "table" (.ref D) (putF "signs" (.int (n : Nat)) [])))) := fun b' o' nb z => x5 _ _ nb (e4 _ _ (b3 _ _ nb z))
    have hp5 : upd H4 p (.ins C dx (putF "table" (.ref D) (putF "signs" (.int (n : Nat)) []))) p = _ := upd_same
    have str5 := str.at_ x5 (tup_ne hp4)
    have hD5 := x5 _ _ (ne_of hD hp4 fun z => nomatch z) hD
    generalize upd H4 p (.ins C dx (putF "table" (.ref D) (putF "signs" (.int (n : Nat)) []))) = H5 at b5 hp5 str5 hD5 ⊢
    clear x5 str hD e4 hp4 b3 hp3
    -- rows
    have lt5 : (putF "table" (.ref D) (putF "signs" (.int (n : Nat)) [])).lookup ("table" : Str) = some (.ref D) := by rw [lookup_putF, if_pos rfl]
    refine ⟨_, rfl, p, C, dx, _, _, rfl, hp5, T.cl, T.nT, lt5, D, ts, rfl, .inl (SqL.of hD5), fun J G wk hG D2 nD2 => lc_it wk (fun i H' => ∃ us : List V, Same H5 H' ∧ H' D2 = some (.lst us) ∧ KrAt H' us (Ls.take i)) ⟨[], same_new nD2, upd_same, .nil⟩ (fun i H' _ ⟨_, z, _⟩ => hG H' fun o w => z _ _ w) ?_ ?_⟩
    · rintro i x H6 H7 hi ⟨us, e6, hD2, kr⟩ ⟨rfl, hx⟩
      obtain ⟨L, hL, t, rs, rfl, ht, pr⟩ := paired_at str5 hx
      have lenL := (O.row L (List.mem_of_getElem? hL)).1
      refine ⟨rfl, ?_⟩
      unfold tYes
      refine iteT ?_
      refine ⟨_, rfl, _, rfl, t, rs, L, (by rw [lenL]; rfl), e6 _ _ ht, pr.same e6, (fun z => by rw [z] at lenL; simp at lenL; omega), by omega, fun r' u' H8 mvs e8 nr' hr' hu' tr' => ?_⟩
      have hD8 := e8 _ _ hD2
      refine ⟨_, hD8, ?_, us ++ [.ref r'], fun b' o' z => ?_, upd_same, ?_⟩
      · have := Paired.length kr
        rw [List.length_take] at this
        exact small10 (by omega)
      · rw [upd_ne (ne_of_none z nD2)]
        exact e8 _ _ (e6 _ _ z)
      · rw [take_snoc hL]
        have b7 : ButI D2 H8 (upd H8 D2 (.lst (us ++ [.ref r']))) := fun b' o' nb z => (upd_ne nb).trans z
        have nl : ∀ xs, H8 D2 ≠ some (.tup xs) := fun xs z => by rw [hD8] at z; cases z
        exact Paired.snoc ((kr.same e8).at_ b7 nl) ⟨r', u', mvs, rfl, (upd_ne (ne_of hr' hD8 fun z => nomatch z)).trans hr', (upd_ne (ne_of hu' hD8 fun z => nomatch z)).trans hu', tr'.at_ b7 nl⟩
    rintro H6 ⟨us, e6, hD2, kr⟩
    rw [Paired.length str5, List.take_length] at kr
    refine .inl ⟨D2, us, rfl, SqL.of hD2, fun W nW => ?_⟩
    have hp6 : upd H6 W (.tup us) p = _ := (same_new nW) _ _ (e6 _ _ hp5)
    have kr6 := kr.same (same_new (o := .tup us) nW)
    have hW6 : upd H6 W (.tup us) W = some (.tup us) := upd_same
    have str6 := (str5.same e6).same (same_new (o := .tup us) nW)
    have hD6 := same_new (o := .tup us) nW _ _ (e6 _ _ hD5)
    have b6 : ButI p H (upd H6 W (.tup us)) := fun b' o' nb z => same_new nW _ _ (e6 _ _ (b5 _ _ nb z))
    generalize upd H6 W (.tup us) = H7 at hp6 kr6 hW6 str6 hD6 b6 ⊢
    clear str5 hD5 hp5 b5 e6 hD2 kr nW
    refine ⟨_, rfl, p, C, dx, _, rfl, hp6, T.cl, T.nR, by show 2 < 1000; decide, ?_⟩
    -- start, marks
    refine ⟨_, rfl, _, rfl, p, C, dx, _, rfl, upd_same, T.cl, T.nA, by show 3 < 1000; decide, ?_⟩
    have x8 : ButI p H7 (upd (upd H7 p (.ins C dx (putF "rows" (.ref W) (putF "table" (.ref D) (putF "signs" (.int (n : Nat)) []))))) p (.ins C dx (putF "start" (.int st) (putF "rows" (.ref W) (putF "table" (.ref D) (putF "signs" (.int (n : Nat)) [])))))) := fun b' o' nb z => (upd_ne nb).trans ((upd_ne nb).trans z)
    have hp8 : upd (upd H7 p (.ins C dx (putF "rows" (.ref W) (putF "table" (.ref D) (putF "signs" (.int (n : Nat)) []))))) p (.ins C dx (putF "start" (.int st) (putF "rows" (.ref W) (putF "table" (.ref D) (putF "signs" (.int (n : Nat)) []))))) p = _ := upd_same
    generalize upd (upd H7 p (.ins C dx (putF "rows" (.ref W) (putF "table" (.ref D) (putF "signs" (.int (n : Nat)) []))))) p (.ins C dx (putF "start" (.int st) (putF "rows" (.ref W) (putF "table" (.ref D) (putF "signs" (.int (n : Nat)) []))))) = H8 at x8 hp8 ⊢
    have kr8 := kr6.at_ x8 (tup_ne hp6)
    have str8 := str6.at_ x8 (tup_ne hp6)
    have hW8 := x8 _ _ (ne_of hW6 hp6 fun z => nomatch z) hW6
    have hD8 := x8 _ _ (ne_of hD6 hp6 fun z => nomatch z) hD6
    have b8 : ButI p H H8 := fun b' o' nb z => x8 _ _ nb (b6 _ _ nb z)
    clear x8 kr6 str6 hW6 hD6 b6 hp6
    have hmk8 := ltb hmk b8
    -- behind the marks
    refine ⟨_, rfl, kTup_lt hmk8 fun mt H9 e9 hmt => ?_⟩
    have hp9 := e9 _ _ hp8
    refine ⟨_, rfl, p, C, dx, _, rfl, hp9, T.cl, T.nM, by show 4 < 1000; decide, ?_⟩
    generalize eF : putF "marks" (V.ref mt) (putF "start" (.int st) (putF "rows" (.ref W) (putF "table" (.ref D) (putF "signs" (.int (n : Nat)) [])))) = FS
    have x10 : ButI p H9 (upd H9 p (.ins C dx FS)) := fun b' o' nb z => (upd_ne nb).trans z
    have hp10 : upd H9 p (.ins C dx FS) p = some (.ins C dx FS) := upd_same
    generalize upd H9 p (.ins C dx FS) = H10 at x10 hp10 ⊢
    have kr10 := (kr8.same e9).at_ x10 (tup_ne hp9)
    have str10 := (str8.same e9).at_ x10 (tup_ne hp9)
    have hW10 := x10 _ _ (ne_of (e9 _ _ hW8) hp9 fun z => nomatch z) (e9 _ _ hW8)
    have hD10 := x10 _ _ (ne_of (e9 _ _ hD8) hp9 fun z => nomatch z) (e9 _ _ hD8)
    have hmt10 := x10 _ _ (ne_of hmt hp9 fun z => nomatch z) hmt
    have b10 : ButI p H H10 := fun b' o' nb z => x10 _ _ nb (e9 _ _ (b8 _ _ nb z))
    clear x10 kr8 str8 hW8 hD8 b8 hp8 hp9 e9 hmt hmk8
    have hr10 := ltb hrw b10
    have hmk10 := ltb hmk b10
    refine ⟨_, rfl, r, rvs, rfl, hr10.sq, fun J G wk hG D3 nD3 => lc_it wk (fun i H' => Same H10 H' ∧ H' D3 = some (.lst ((List.range i).map fun _ => V.bl false))) ⟨same_new nD3, upd_same⟩ (fun i H' _ z => hG H' fun o w => z.1 _ _ w) ?_ ?_⟩
    · rintro i x H6 H7 hi ⟨e6, hD3⟩ ⟨rfl, hx⟩
      refine ⟨rfl, ?_⟩
      unfold tYes
      refine iteT ⟨_, hD3, by rw [List.length_map, List.length_range]; exact small10 (by omega), fun b' o' z => ?_, ?_⟩
      · rw [upd_ne (ne_of_none z nD3)]
        exact e6 _ _ z
      · rw [upd_same, List.range_succ, List.map_append]
        rfl
    rintro H11 ⟨e11, hD3⟩
    rw [lk, ← kindsV_nil] at hD3
    have hp11 := e11 _ _ hp10
    have x12 : ButI p H11 (upd H11 p (.ins C dx (putF "kinds" (.ref D3) FS))) := fun b' o' nb z => (upd_ne nb).trans z
    have l5 : FS.length < 1000 := by
      rw [← eF]
      show 5 < 1000
      decide
    refine ⟨_, rfl, p, C, dx, _, rfl, hp11, T.cl, T.nK, l5, ?_⟩
    have eM : putF "kinds" (V.ref D3) FS = machF (n : Nat) D W st mt D3 := by
      rw [← eF]
      rfl
    rw [eM] at x12 ⊢
    have hp12 : upd H11 p (.ins C dx (machF (n : Nat) D W st mt D3)) p = some (.ins C dx (machF (n : Nat) D W st mt D3)) := upd_same
    generalize upd H11 p (.ins C dx (machF (n : Nat) D W st mt D3)) = H12 at x12 hp12 ⊢
    have up12 : ButI p H10 H12 := fun b' o' nb z => x12 _ _ nb (e11 _ _ z)
    have hD12 : H12 D3 = some (.lst (kindsV Ls.length [])) := x12 _ _ (ne_of hD3 hp11 fun z => nomatch z) hD3
    clear x12 hD3 hp11 e11 eF eM l5
    have nmk : mk ≠ D3 := hmk10.elim (fun h => ne_of_none h nD3) fun h => ne_of_none h nD3
    have hmk12 : LT H12 mk (ms.map V.int) := LT.at_ hmk10 up12 hp10
    refine ⟨_, rfl, mk, _, rfl, hmk12.sq, fun J G wk hG => for_it wk (fun i σ H' => ∃ (c d : Option V), σ = [some (.ref p), some (.int (n : Nat)), some (.ref r), some (.int st), some (.ref mk), a, b, some (.int (endI (ms.take (ms.map V.int).length))), c, d, none, none, none] ∧ ButI D3 H12 H' ∧ H' D3 = some (.lst (kindsV Ls.length (ms.take i))))
      ⟨c, d, rfl, (fun _ _ _ z => z), hD12⟩ (fun i σ H' _ ⟨_, _, _, e, _⟩ => hG H' fun o z => e _ _ nmk z) ?_ ?_⟩
    · rintro i x σ H13 H14 hi ⟨c', d', rfl, e13, hK⟩ ⟨rfl, hv⟩
      obtain ⟨x, hx, rfl⟩ := ints_at hv
      obtain ⟨x1, x2⟩ := O.mar x (List.mem_of_getElem? hx)
      obtain ⟨j, rfl⟩ := Int.eq_ofNat_of_zero_le x1
      have hp14 := e13 _ _ (ne_of hp12 hD12 fun z => nomatch z) hp12
      refine ⟨_, rfl, p, C, dx, _, _, rfl, hp14, T.cl, T.nK, mf_kinds _ _ _ _ _ _, _, rfl, D3, _, (j : Nat), j, rfl, rfl, hK, ?_, c', some (.int (j : Nat)), rfl, fun b' o' nb z => (upd_ne nb).trans (e13 _ _ nb z), ?_⟩
      · rw [kindsV_len]
        exact ixN_nat (by omega)
      · rw [upd_same, kindsV_set _ _ _ (by omega), take_snoc hx]
    · rintro σ H13 ⟨c', d', rfl, e13, hK⟩
      rw [List.length_map, List.take_length] at hK
      have nD : ∀ {b' : Addr} {o' : HO}, H10 b' = some o' → b' ≠ D3 := fun z => ne_of_none z nD3
      have up13 : ∀ {b' : Addr} {o' : HO}, b' ≠ p → H10 b' = some o' → H13 b' = some o' := fun nb z => e13 _ _ (nD z) (up12 _ _ nb z)
      have tn : ∀ {b' : Addr} {xs : List V}, H10 b' = some (.tup xs) → b' ≠ p := fun z => ne_of z hp10 fun z => nomatch z
      refine q H13 (fun b' o' nb z => up13 nb (b10 _ _ nb z)) ⟨dx, D, W, mt, D3, ts, us, e13 _ _ (ne_of hp12 hD12 fun z => nomatch z) hp12, up13 (ne_of hD10 hp10 fun z => nomatch z) hD10, ?_, up13 (tn hW10) hW10, ?_, up13 (tn hmt10) hmt10, hK⟩
      · exact Paired.mapP str10 fun _ _ ⟨a', rs, g1, g2, g3⟩ => ⟨a', rs, g1, up13 (tn g2) g2, Paired.mapP g3 fun _ _ ⟨a2, g4, g5⟩ => ⟨a2, g4, up13 (tn g5) g5⟩⟩
      · exact Paired.mapP kr10 fun _ _ ⟨r', u', mv, g1, g2, g3, g4⟩ => ⟨r', u', mv, g1, up13 (tn g2) g2, up13 (tn g3) g3, Paired.mapP g4 fun _ _ ⟨a2, g5, g6⟩ => ⟨a2, g5, up13 (tn g6) g6⟩⟩
end
end K17
set_option Elab.async false
set_option linter.all false
set_option maxRecDepth 100001
set_option maxHeartbeats 3999999
namespace K17
open PySem L2
/-! ### values told as data -/
structure Enc {α : Type} [DecidableEq α] (f : α → PyData) (d : Nat) : Prop where
  eqv : ∀ a b, PyData.eqv (f a) (f b) = decide (a = b)
  lay : ∀ a, PyData.canLay0 (f a) = true
  dep : ∀ a, PyData.depth (f a) ≤ d
section
variable {α β γ δ : Type} [DecidableEq α] [DecidableEq β] [DecidableEq γ] [DecidableEq δ] {f : α → PyData} {g : β → PyData} {h : γ → PyData} {i : δ → PyData} {d d2 d3 d4 : Nat}
theorem enc_int : Enc PyData.int 0 := ⟨fun a b => by by_cases c : a = b <;> simp [PyData.eqv, c], fun a => by simp [PyData.canLay0], fun a => by simp [PyData.depth]⟩
theorem enc_bool : Enc PyData.bool 0 := ⟨fun a b => by cases a <;> cases b <;> simp [PyData.eqv], fun a => by simp [PyData.canLay0], fun a => by simp [PyData.depth]⟩
theorem Enc.mono (e : Enc f d) (h : d ≤ d2) : Enc f d2 := ⟨e.eqv, e.lay, fun a => Nat.le_trans (e.dep a) h⟩
theorem Enc.eqvAll (e : Enc f d) : ∀ xs ys : List α, PyData.eqvAll (xs.map f) (ys.map f) = decide (xs = ys)
  | [], [] => by simp [PyData.eqvAll]
  | [], _ :: _ => by simp [PyData.eqvAll]
  | _ :: _, [] => by simp [PyData.eqvAll]
  | x :: xs, y :: ys => by
    have ih := Enc.eqvAll e xs ys
    have e2 : PyData.eqvAll ((x :: xs).map f) ((y :: ys).map f) = (PyData.eqv (f x) (f y) && PyData.eqvAll (xs.map f) (ys.map f)) := by simp only [List.map_cons, PyData.eqvAll]
    rw [e2, ih, e.eqv]
    by_cases h1 : x = y
    · by_cases h2 : xs = ys
      · simp [h1, h2]
      · simp [h1, h2]
    · simp [h1]
theorem Enc.layAll (e : Enc f d) : ∀ xs : List α, PyData.canLayAll0 (xs.map f) = true
  | [] => by simp [PyData.canLayAll0]
  | x :: xs => by rw [List.map_cons, PyData.canLayAll0, e.lay, Enc.layAll e xs]; rfl
theorem Enc.depAll (e : Enc f d) : ∀ xs : List α, PyData.depthAll (xs.map f) ≤ d
  | [] => by simp [PyData.depthAll]
  | x :: xs => by
    have h1 := e.dep x
    have h2 := Enc.depAll e xs
    simp only [List.map_cons, PyData.depthAll]
    omega
theorem Enc.tup (e : Enc f d) : Enc (fun xs : List α => PyData.tuple (xs.map f)) (d + 1) :=
  ⟨fun a b => by simp only [PyData.eqv]; exact e.eqvAll a b, fun a => by simp only [PyData.canLay0]; exact e.layAll a, fun a => by simp only [PyData.depth]; have := e.depAll a; omega⟩
theorem Enc.lst (e : Enc f d) : Enc (fun xs : List α => PyData.list (xs.map f)) (d + 1) :=
  ⟨fun a b => by simp only [PyData.eqv]; exact e.eqvAll a b, fun a => by simp only [PyData.canLay0]; exact e.layAll a, fun a => by simp only [PyData.depth]; have := e.depAll a; omega⟩
theorem Enc.two (e : Enc f d) (e2 : Enc g d) : Enc (fun p : α × β => PyData.tuple [f p.1, g p.2]) (d + 1) := by
  refine ⟨fun a b => ?_, fun a => ?_, fun a => ?_⟩
  · simp only [PyData.eqv, PyData.eqvAll, e.eqv, e2.eqv, Bool.and_true]
    obtain ⟨a1, a2⟩ := a
    obtain ⟨b1, b2⟩ := b
    by_cases h1 : a1 = b1 <;> by_cases h2 : a2 = b2 <;> simp [h1, h2]
  · simp only [PyData.canLay0, PyData.canLayAll0, e.lay, e2.lay]
    rfl
  · have h1 := e.dep a.1
    have h2 := e2.dep a.2
    simp only [PyData.depth, PyData.depthAll]
    omega
theorem Enc.three (e : Enc f d) (e2 : Enc g d) (e3 : Enc h d) : Enc (fun p : α × β × γ => PyData.tuple [f p.1, g p.2.1, h p.2.2]) (d + 1) := by
  refine ⟨fun a b => ?_, fun a => ?_, fun a => ?_⟩
  · simp only [PyData.eqv, PyData.eqvAll, e.eqv, e2.eqv, e3.eqv, Bool.and_true]
    obtain ⟨a1, a2, a3⟩ := a
    obtain ⟨b1, b2, b3⟩ := b
    by_cases h1 : a1 = b1 <;> by_cases h2 : a2 = b2 <;> by_cases h3 : a3 = b3 <;> simp [h1, h2, h3]
  · simp only [PyData.canLay0, PyData.canLayAll0, e.lay, e2.lay, e3.lay]
    rfl
  · have h1 := e.dep a.1
    have h2 := e2.dep a.2.1
    have h3 := e3.dep a.2.2
    simp only [PyData.depth, PyData.depthAll]
    omega
theorem Enc.four (e : Enc f d) (e2 : Enc g d) (e3 : Enc h d) (e4 : Enc i d) : Enc (fun p : α × β × γ × δ => PyData.tuple [f p.1, g p.2.1, h p.2.2.1, i p.2.2.2]) (d + 1) := by
  refine ⟨fun a b => ?_, fun a => ?_, fun a => ?_⟩
  · simp only [PyData.eqv, PyData.eqvAll, e.eqv, e2.eqv, e3.eqv, e4.eqv, Bool.and_true]
    obtain ⟨a1, a2, a3, a4⟩ := a
    obtain ⟨b1, b2, b3, b4⟩ := b
    by_cases h1 : a1 = b1 <;> by_cases h2 : a2 = b2 <;> by_cases h3 : a3 = b3 <;> by_cases h4 : a4 = b4 <;> simp [h1, h2, h3, h4]
  · simp only [PyData.canLay0, PyData.canLayAll0, e.lay, e2.lay, e3.lay, e4.lay]
    rfl
  · have h1 := e.dep a.1
    have h2 := e2.dep a.2.1
    have h3 := e3.dep a.2.2.1
    have h4 := e4.dep a.2.2.2
    simp only [PyData.depth, PyData.depthAll]
    omega
theorem Enc.sh (e : Enc f d) (hd : d ≤ 64) (a : α) : SeqAt.shaped (f a) = true := by
  show (PyData.canLay0 (f a) && decide (PyData.depth (f a) ≤ 64)) = true
  rw [Bool.and_eq_true]
  exact ⟨e.lay a, decide_eq_true (Nat.le_trans (e.dep a) hd)⟩
/-- two values that are told as data by one rule -/
def rEqE {α : Type} [DecidableEq α] (K : PySem.W.Frag) (f : α → PyData) : R2 := fun x y H Q => ∃ a b : α, Dp K H x (f a) ∧ Dp K H y (f b) ∧ Q (.bl (decide (a = b))) H
def rNeE {α : Type} [DecidableEq α] (K : PySem.W.Frag) (f : α → PyData) : R2 := fun x y H Q => ∃ a b : α, Dp K H x (f a) ∧ Dp K H y (f b) ∧ Q (.bl (!decide (a = b))) H
theorem op_eqE {X : Cx} (hu : X.A.units + 64 < cLine) (e : Enc f d) (hd : d ≤ 64) : OpR X (compareOp .Eq) (rEqE X.K f) := by
  intro pins s σ H x y v u Q I rx ry h
  obtain ⟨a, b, d1, d2, q⟩ := h
  refine op_eqD hu pins s σ H _ _ v u Q I rx ry ⟨f a, f b, d1, d2, e.sh hd a, e.sh hd b, ?_⟩
  rw [e.eqv]
  exact q
theorem op_neE {X : Cx} (hu : X.A.units + 64 < cLine) (e : Enc f d) (hd : d ≤ 64) : OpR X (compareOp .NotEq) (rNeE X.K f) := by
  intro pins s σ H x y v u Q I rx ry h
  obtain ⟨a, b, d1, d2, q⟩ := h
  refine op_neD hu pins s σ H _ _ v u Q I rx ry ⟨f a, f b, d1, d2, e.sh hd a, e.sh hd b, ?_⟩
  rw [e.eqv]
  exact q
end
abbrev Rw := Int × List Mv
def dMv (t : Mv) : PyData := .tuple [.int t.1, .int t.2.1, .int t.2.2]
def dRow (r : Rw) : PyData := .tuple [.int r.1, .tuple (r.2.map dMv)]
def dRows (rs : List Rw) : PyData := .tuple (rs.map dRow)
def dInts (xs : List Int) : PyData := .tuple (xs.map .int)
def dAll (q : Int × List Rw × Int × List Int) : PyData := .tuple [.int q.1, dRows q.2.1, .int q.2.2.1, dInts q.2.2.2]
theorem enc_mv : Enc dMv 1 := enc_int.three enc_int enc_int
theorem enc_row : Enc dRow 3 := (enc_int.mono (by decide)).two enc_mv.tup
theorem enc_rows : Enc dRows 4 := enc_row.tup
theorem enc_ints : Enc dInts 1 := enc_int.tup
set_option synthInstance.maxHeartbeats 400000 in
set_option synthInstance.maxSize 4000 in
theorem enc_all : Enc dAll 5 := (enc_int.mono (by decide)).four enc_rows (enc_int.mono (by decide)) (enc_ints.mono (by decide))
section
variable {K : PySem.W.Frag} {H : Hp}
theorem dpAll_ints : ∀ xs : List Int, DpAll K H (xs.map V.int) (xs.map .int)
  | [] => .nil
  | _ :: xs => .cons (.int _) (dpAll_ints xs)
theorem dpAll_mvs : ∀ {ts : List V} {ms : List Mv}, TrAt H ts ms → DpAll K H ts (ms.map dMv)
  | _, _, .nil => .nil
  | _, _, .cons ⟨a, e, h⟩ t => by
    subst e
    exact .cons (.tup (SqT.of h) (.cons (.int _) (.cons (.int _) (.cons (.int _) .nil)))) (dpAll_mvs t)
theorem dpAll_rows : ∀ {us : List V} {Ls : List (List Int)}, KrAt H us Ls → DpAll K H us ((Ls.map Kr).map dRow)
  | _, _, .nil => .nil
  | _, _, .cons ⟨r, u, ms, e, h1, h2, h3⟩ t => by
    subst e
    exact .cons (.tup (SqT.of h1) (.cons (.int _) (.cons (.tup (SqT.of h2) (dpAll_mvs h3)) .nil))) (dpAll_rows t)
theorem dp_rows {a : Addr} {us : List V} {Ls : List (List Int)} (h : H a = some (.tup us)) (kr : KrAt H us Ls) : Dp K H (.ref a) (dRows (Ls.map Kr)) := .tup (SqT.of h) (dpAll_rows kr)
theorem dp_ints {a : Addr} {xs : List Int} (h : H a = some (.tup (xs.map V.int))) : Dp K H (.ref a) (dInts xs) := .tup (SqT.of h) (dpAll_ints xs)
end
theorem krs_inj : ∀ {Ls Ls' : List (List Int)} {n : Nat}, (∀ L ∈ Ls, L.length = n) → (∀ L ∈ Ls', L.length = n) → Ls.map Kr = Ls'.map Kr → Ls = Ls'
  | [], [], _, _, _, _ => rfl
  | [], _ :: _, _, _, _, h => by cases h
  | _ :: _, [], _, _, _, h => by cases h
  | L :: Ls, L' :: Ls', n, h1, h2, h => by
    rw [List.map_cons, List.map_cons] at h
    have e1 := List.cons.inj h
    rw [kr_inj e1.1 ((h1 L List.mem_cons_self).trans (h2 L' List.mem_cons_self).symm), krs_inj (fun M m => h1 M (List.mem_cons_of_mem _ m)) (fun M m => h2 M (List.mem_cons_of_mem _ m)) e1.2]
/-- rows in the one form are rows that are told -/
theorem kr_rows {H : Hp} {n : Nat} {Ls : List (List Int)} {us : List V} {k : Int} (kr : KrAt H us Ls) (hn : 1 ≤ n) (ok : ∀ L ∈ Ls, L.length = n ∧ ∀ x ∈ L, 0 ≤ x ∧ x ≤ k - 1) : RowsAt H n k us Ls := by
  have key : ∀ {us : List V} {Ms : List (List Int)}, KrAt H us Ms → (∀ L ∈ Ms, L ∈ Ls) → RowsAt H n k us Ms := by
    intro us Ms kr
    induction kr with
    | nil => exact fun _ => .nil
    | @cons v L vs Ms h t ih =>
      intro hm
      obtain ⟨r, u, ms, rfl, h1, h2, h3⟩ := h
      obtain ⟨l1, l2⟩ := ok L (hm L List.mem_cons_self)
      have ne : L ≠ [] := fun z => by rw [z] at l1; simp at l1; omega
      obtain ⟨k1, k2⟩ := kept_exp (L := L) (awayF L)
      obtain ⟨o1, _⟩ := k2 k l2
      have aw := l2 _ (awayF_of ne).1
      rw [l1] at o1 k1
      exact .cons ⟨awayF L, _, ⟨r, u, ms, rfl, h1, .inr h2, h3⟩, o1, aw.1, aw.2, k1.2⟩ (ih fun M m => hm M (List.mem_cons_of_mem _ m))
  exact key kr fun _ m => m
/-- what more the class is known by -/
structure TxE (K : PySem.W.Frag) (C : Addr) : Prop where
  cc : PySem.W.findIn K (.ref C) "__class__" = some (some (.builtin "object.__class__"))
  gg : PySem.W.specialIn K (.builtin "object.__class__") "__get__" = some (some (.builtin "getset_descriptor.__get__"))
  tk : PySem.W.takesIn K (.builtin "object.__class__") = some true
  mr : PySem.W.mroIn K C (.type "object") = some true
  kT : PySem.W.kitOne K (.type "tuple") (.ref C) = some false
theorem IsM.ty {K : PySem.W.Frag} {C : Addr} {H : Hp} {p : Addr} {n : Nat} {Ls : List (List Int)} {st : Int} {ms : List Int} (T : Txt K C) (E : TxE K C) (q : IsM C H p n Ls st ms) : TyX K H (.ref p) (.ref C) :=
  let ⟨_, _, _, _, _, _, _, h1, _⟩ := q
  .base (.ins h1 T.cl E.cc E.gg E.tk E.mr)
/-- one == other -/
def spEq (C : Addr) : Sp := fun vs H Q _ => ∃ (p : Addr) (y : V) (n : Nat) (Ls : List (List Int)) (st : Int) (ms : List Int), vs = [.ref p, y] ∧ IsM C H p n Ls st ms ∧ OkMa n Ls st ms ∧
  ((∃ (q : Addr) (n2 : Nat) (Ls2 : List (List Int)) (st2 : Int) (ms2 : List Int), y = .ref q ∧ IsM C H q n2 Ls2 st2 ms2 ∧ OkMa n2 Ls2 st2 ms2 ∧ Q (.bl (decide (n = n2 ∧ Ls = Ls2 ∧ st = st2 ∧ ms = ms2))) H) ∨ (∃ t xs, y = .ref t ∧ H t = some (.tup xs) ∧ Q (.bl false) H))
section
variable {P : Program} {w : World} {K : PySem.W.Frag} {mg : Str → Option Value} {base : Heap}
theorem scEq : FnScope ["self", "other"] ["self", "other"] (defScope sEq) := ⟨rfl, rfl, rfl, by decide +kernel, rfl, by decide +kernel, by decide +kernel⟩
theorem ok_eq {f C : Addr} {fd : FuncData} (F : Fun K "__eq__" "Machine.__eq__" sEq f fd) (B : Bi mg) (T : Txt K C) (TE : TxE K C) (gC : mg "Machine" = some (.ref C)) : FnOk P w K mg base CX0 1 f fd ["self", "other"] (spEq C) := by
  refine F.ok scEq (fun vs H Q E h => ?_) (fun cdv A outer s H vs Q E hr h => ?_)
  · obtain ⟨p, y, n, Ls, st, ms, rfl, _⟩ := h
    rfl
  · obtain ⟨p, y, n, Ls, st, ms, rfl, M, O, h⟩ := h
    refine ⟨_, pss_one (ps_ret (pe_and (pe_isi B.isi (pa_cons (pv 1) (pa_cons (pe_glob (v := .ref C) rfl gC rfl) pa_nil))) (pe_and (pe_cmpR op_eq (pe_fld (pv 0) rfl) (pe_fld (pv 1) rfl) (nomark _)) (pe_and (pe_cmpR (op_eqE (hu64 hr) enc_rows (by decide)) (pe_fld (pv 0) rfl) (pe_fld (pv 1) rfl) (nomark _))
        (pe_and (pe_cmpR op_eq (pe_fld (pv 0) rfl) (pe_fld (pv 1) rfl) (nomark _)) (pe_one (pe_cmpR (op_eqE (hu64 hr) enc_ints (by decide)) (pe_fld (pv 0) rfl) (pe_fld (pv 1) rfl) (nomark _)))))))), ?_⟩
    obtain ⟨dx, tb, rw_, mk, kd, ts, us, h1, h2, h3, h4, h5, h6, h7⟩ := id M
    rcases h with ⟨q, n2, Ls2, st2, ms2, rfl, M2, O2, h⟩ | ⟨t2, xs, rfl, ht, h⟩
    · obtain ⟨dx2, tb2, rw2, mk2, kd2, ts2, us2, g1, g2, g3, g4, g5, g6, g7⟩ := id M2
      refine ⟨_, rfl, _, _, _, _, _, rfl, .own C, M2.ty T TE, kit_self, _, rfl, ?_⟩
      refine ⟨_, rfl, p, C, dx, _, _, rfl, h1, T.cl, T.nS, mf_signs _ _ _ _ _ _, _, rfl, q, C, dx2, _, _, rfl, g1, T.cl, T.nS, mf_signs _ _ _ _ _ _, rfl, _, rfl, ?_⟩
      rw [dec_int]
      by_cases e1 : n = n2
      · rw [show (((n : Nat) : Int) == ((n2 : Nat) : Int)) = true by rw [e1]; simp]
        refine ⟨_, rfl, p, C, dx, _, _, rfl, h1, T.cl, T.nR, mf_rows _ _ _ _ _ _, _, rfl, q, C, dx2, _, _, rfl, g1, T.cl, T.nR, mf_rows _ _ _ _ _ _, _, _, dp_rows h4 h5, dp_rows g4 g5, _, rfl, ?_⟩
        by_cases e2 : Ls = Ls2
        · rw [decide_eq_true (congrArg (List.map Kr) e2)]
          refine ⟨_, rfl, p, C, dx, _, _, rfl, h1, T.cl, T.nA, mf_start _ _ _ _ _ _, _, rfl, q, C, dx2, _, _, rfl, g1, T.cl, T.nA, mf_start _ _ _ _ _ _, rfl, _, rfl, ?_⟩
          rw [dec_int]
          by_cases e3 : st = st2
          · rw [show (st == st2) = true by rw [e3]; simp]
            refine ⟨_, rfl, p, C, dx, _, _, rfl, h1, T.cl, T.nM, mf_marks _ _ _ _ _ _, _, rfl, q, C, dx2, _, _, rfl, g1, T.cl, T.nM, mf_marks _ _ _ _ _ _, _, _, dp_ints h6, dp_ints g6, ?_⟩
            have e : decide (n = n2 ∧ Ls = Ls2 ∧ st = st2 ∧ ms = ms2) = decide (ms = ms2) := by simp [e1, e2, e3]
            rw [e] at h
            exact h
          · rw [show (st == st2) = false by simpa using e3]
            rw [decide_eq_false fun z => e3 z.2.2.1] at h
            exact h
        · rw [decide_eq_false fun z => e2 (krs_inj (fun L m => (O.row L m).1) (fun L m => (O2.row L m).1.trans e1.symm) z)]
          rw [decide_eq_false fun z => e2 z.2.1] at h
          exact h
      · rw [show (((n : Nat) : Int) == ((n2 : Nat) : Int)) = false from beq_eq_false_iff_ne.mpr (by omega)]
        rw [decide_eq_false fun z => e1 z.1] at h
        exact h
    · exact ⟨_, rfl, _, _, _, _, _, rfl, .own C, .base (.tup ht), TE.kT, _, rfl, h⟩
/-- what comes of Machine(..) -/
theorem mk_ok {C : Addr} {H : Hp} {r mk : Addr} {n : Nat} {st : Int} {rvs : List V} {Ls : List (List Int)} {ms : List Int} {Q : VK} {E : XK} (hr : LT H r rvs) (rows : RowsAt H n (Ls.length : Int) rvs Ls) (hm : LT H mk (ms.map V.int)) (O : OkMa n Ls st ms)
    (q : ∀ x H', H x = none → Same H H' → IsM C H' x n Ls st ms → Q (.ref x) H') : ∀ x dx, H x = none → H dx = none → dx ≠ x → spInit C [.ref x, .int (n : Nat), .ref r, .int st, .ref mk] (upd (upd H dx (.own x)) x (.ins C dx [])) (fun v H2 => v = .non ∧ Q (.ref x) H2) E := by
  intro x dx nx ndx ne
  have nx2 : upd H dx (.own x) x = none := (upd_ne (Ne.symm ne)).trans nx
  have e : Same H (upd (upd H dx (.own x)) x (.ins C dx [])) := (same_new ndx).trans (same_new nx2)
  exact ⟨x, dx, r, mk, n, st, rvs, Ls, ms, rfl, upd_same, hr.same e, rows.same e, hm.same e, O, fun H' b M => ⟨rfl, q x H' nx (fun b' o' z => b _ _ (ne_of_none z nx) (e _ _ z)) M⟩⟩
/-- begun_at(state) -/
def spBeg (C : Addr) : Sp := fun vs H Q _ => ∃ (p : Addr) (n : Nat) (Ls : List (List Int)) (st : Int) (ms : List Int) (i : Int), vs = [.ref p, .int i] ∧ IsM C H p n Ls st ms ∧ OkMa n Ls st ms ∧ 0 ≤ i ∧ i ≤ (Ls.length : Int) - 1 ∧ ∀ x H', H x = none → Same H H' → IsM C H' x n Ls i ms → Q (.ref x) H'
theorem scBeg : FnScope ["self", "state"] ["self", "state"] (defScope sBeg) := ⟨rfl, rfl, rfl, by decide +kernel, rfl, by decide +kernel, by decide +kernel⟩
theorem ok_beg {f C : Addr} {fd : FuncData} (F : Fun K "begun_at" "Machine.begun_at" sBeg f fd) (B : Bi mg) (T : Txt K C) (mS : Met CX0 P w K mg base 3 C "_check_state" (spCkS C)) (mkC : Mak CX0 P w K mg base 4 "Machine" C (spInit C)) : FnOk P w K mg base CX0 6 f fd ["self", "state"] (spBeg C) := by
  refine F.ok scBeg (fun vs H Q E h => ?_) (fun cdv A outer s H vs Q E hr h => ?_)
  · obtain ⟨p, n, Ls, st, ms, i, rfl, _⟩ := h
    rfl
  · obtain ⟨p, n, Ls, st, ms, i, rfl, M, O, i0, i1, q⟩ := h
    refine ⟨_, pss_cons (ps_expr (pe_mt mS hr pass0 (pv 0) (pa_cons (pv 1) pa_nil))) (pss_one (ps_ret (pe_mk mkC hr pass0 (pa_cons (pe_fld (pv 0) rfl) (pa_cons (pe_fld (pv 0) rfl) (pa_cons (pv 1) (pa_cons (pe_fld (pv 0) rfl) pa_nil))))))), ?_⟩
    obtain ⟨dx, tb, rw_, mk, kd, ts, us, h1, h2, h3, h4, h5, h6, h7⟩ := id M
    refine ⟨_, rfl, p, dx, _, rfl, h1, mf_no _ _ _ _ _ _ (by decide +kernel) (by decide +kernel) (by decide +kernel) (by decide +kernel) (by decide +kernel) (by decide +kernel), _, rfl, p, n, Ls, st, ms, i, rfl, M, i0, i1, ?_⟩
    refine ⟨_, rfl, p, C, dx, _, _, rfl, h1, T.cl, T.nS, mf_signs _ _ _ _ _ _, _, rfl, p, C, dx, _, _, rfl, h1, T.cl, T.nR, mf_rows _ _ _ _ _ _, _, rfl, _, rfl, p, C, dx, _, _, rfl, h1, T.cl, T.nM, mf_marks _ _ _ _ _ _, ?_⟩
    exact mk_ok (.inr h4) (kr_rows h5 O.n1 O.row) (.inr h6) ⟨O.n1, O.n2, O.k1, O.k2, O.row, i0, i1, O.mar, O.up⟩ q
end
end K17
set_option Elab.async false
set_option linter.all false
set_option maxRecDepth 100001
set_option maxHeartbeats 3999999
namespace K17
open PySem L2
abbrev sMof : Stmt := topS 26
abbrev sInv : Stmt := topS 27
abbrev sTab : Stmt := topS 32
/-- the states of which it holds -/
def selM (f : Nat → Bool) (k : Nat) : List Int := ((List.range k).filter f).map fun i => ((i : Nat) : Int)
def selV (f : Nat → Bool) (k : Nat) : List V := (List.range k).map fun i => V.bl (f i)
theorem selM_succ (f : Nat → Bool) (k : Nat) : selM f (k + 1) = selM f k ++ (if f k = true then [((k : Nat) : Int)] else []) := by
  unfold selM
  rw [List.range_succ, List.filter_append, List.map_append]
  congr 1
  by_cases c : f k = true
  · rw [if_pos c, List.filter_cons, if_pos c]
    rfl
  · rw [if_neg c, List.filter_cons, if_neg c]
    rfl
theorem selM_mem (f : Nat → Bool) (k : Nat) {m : Int} : m ∈ selM f k ↔ ∃ i : Nat, m = (i : Nat) ∧ i < k ∧ f i = true := by
  unfold selM
  rw [List.mem_map]
  constructor
  · rintro ⟨i, hi, rfl⟩
    obtain ⟨h1, h2⟩ := List.mem_filter.mp hi
    exact ⟨i, rfl, List.mem_range.mp h1, h2⟩
  · rintro ⟨i, rfl, h1, h2⟩
    exact ⟨i, List.mem_filter.mpr ⟨List.mem_range.mpr h1, h2⟩, rfl⟩
theorem selM_up (f : Nat → Bool) (k : Nat) : (selM f k).Pairwise (· < ·) := by
  unfold selM
  refine List.Pairwise.map _ (fun a b (h : a < b) => ?_) (List.Pairwise.filter _ List.pairwise_lt_range)
  omega
theorem selM_len (f : Nat → Bool) (k : Nat) : (selM f k).length ≤ k := by
  unfold selM
  rw [List.length_map]
  exact Nat.le_trans (List.length_filter_le _ _) (by rw [List.length_range]; exact Nat.le_refl _)
theorem OkMa.sel {n : Nat} {Ls : List (List Int)} {st : Int} {ms : List Int} (O : OkMa n Ls st ms) (f : Nat → Bool) : OkMa n Ls st (selM f Ls.length) :=
  ⟨O.n1, O.n2, O.k1, O.k2, O.row, O.s1, O.s2, fun m hm => by obtain ⟨i, rfl, h, _⟩ := (selM_mem _ _).mp hm; omega, selM_up _ _⟩
abbrev NMo : List Str := ["signs", "table", "start", "kinds", "marks", "state", "kind", "row"]
section
variable {P : Program} {w : World} {K : PySem.W.Frag} {mg : Str → Option Value} {base : Heap}
/-- machine_of(signs, table, start, kinds) -/
def spMof (C : Addr) : Sp := fun vs H Q _ => ∃ (tb kd : Addr) (n : Nat) (Ls : List (List Int)) (st : Int) (ts : List V) (f : Nat → Bool), vs = [.int (n : Nat), .ref tb, .int st, .ref kd] ∧ H tb = some (.lst ts) ∧ StrAt H ts Ls ∧ H kd = some (.lst (selV f Ls.length)) ∧ OkMa n Ls st (selM f Ls.length) ∧
  ∀ x H', H x = none → Same H H' → IsM C H' x n Ls st (selM f Ls.length) → Q (.ref x) H'
theorem scMof : FnScope NMo ["signs", "table", "start", "kinds"] (defScope sMof) := ⟨rfl, rfl, rfl, by decide +kernel, rfl, by decide +kernel, by decide +kernel⟩
theorem ok_mof {f C : Addr} {fd : FuncData} (F : Fun K "machine_of" "machine_of" sMof f fd) (B : Bi mg) (cT : Cal CX0 P w K mg base 1 "told_row" spTold) (mkC : Mak CX0 P w K mg base 4 "Machine" C (spInit C)) : FnOk P w K mg base CX0 6 f fd ["signs", "table", "start", "kinds"] (spMof C) := by
  refine F.ok scMof (fun vs H Q E h => ?_) (fun cdv A outer s H vs Q E hr h => ?_)
  · obtain ⟨tb, kd, n, Ls, st, ts, f, rfl, _⟩ := h
    rfl
  · obtain ⟨tb, kd, n, Ls, st, ts, f, rfl, htb, str, hkd, O, q⟩ := h
    refine ⟨_, pss_cons (ps_setLc (i := 4) (own := [("state", 5), ("kind", 6)]) rfl scMof.nd rfl rfl (sw_true rfl rfl rfl (by decide +kernel)) (pi_enA B.enum (pa_cons (pv 3) pa_nil)) (blkOk_by (N := NMo) (sc := defScope sMof) (by decide +kernel))
          (fun _ _ _ _ _ => pg_pairK K rfl rfl (pg_name (i := 5) scMof.nd rfl (Or.inl rfl)) (pg_name (i := 6) scMof.nd rfl (Or.inl rfl))) (fun _ _ _ _ _ => pts_one (pt_val (pv 6))) (fun _ _ _ _ _ => pv 5))
      (pss_one (ps_ret (pe_mk mkC hr pass0 (pa_cons (pv 0) (pa_cons (pe_lc (own := [("row", 7)]) rfl scMof.nd (pi_sqA (pv 1)) (blkOk_by (N := NMo) (sc := defScope sMof) (by decide +kernel))
          (fun _ _ _ _ _ => pg_name (i := 7) scMof.nd rfl (Or.inl rfl)) (fun _ _ _ _ _ => pts_nil) (fun _ _ _ _ _ => pe_c cT hr pass0 (pa_cons (pv 7) (pa_cons (pv 0) pa_nil)))) (pa_cons (pv 2) (pa_cons (pv 4) pa_nil))))))), ?_⟩
    have n1 := O.n1
    have n2 := O.n2
    have k2 := O.k2
    have lv : (selV f Ls.length).length = Ls.length := by unfold selV; rw [List.length_map, List.length_range]
    refine ⟨_, rfl, kd, _, rfl, .inl (SqL.of hkd), fun J G wk hG D nD => lc_it wk (fun i H' => Same H H' ∧ H' D = some (.lst ((selM f i).map V.int))) ⟨same_new nD, upd_same⟩ (fun i H' _ z => hG H' fun o w => z.1 _ _ w) ?_ ?_⟩
    · rintro i x H1 H2 hi ⟨e, hD⟩ ⟨T0, y, v, rfl, nT0, rfl, ey, hv⟩
      have ey : y = .int (i : Nat) := (Option.some.inj ey).symm
      subst ey
      have hv : (selV f Ls.length)[i]? = some v := hv
      rw [lv] at hi
      unfold selV at hv
      rw [List.getElem?_map, List.getElem?_range hi] at hv
      have ev : V.bl (f i) = v := Option.some.inj hv
      subst ev
      have x1 := same_new (o := .tup [.int (i : Nat), .bl (f i)]) nT0
      have hD1 := x1 _ _ hD
      refine ⟨T0, _, rfl, SqT.of upd_same, rfl, _, _, rfl, _, _, rfl, rfl, rfl, ?_⟩
      refine ⟨_, rfl, _, rfl, ?_⟩
      have ss := selM_succ f i
      cases c : f i with
      | true =>
        rw [if_pos c] at ss
        refine iteT ⟨_, rfl, _, (by rw [← c]; exact hD1), ?_, fun b' o' z => ?_, ?_⟩
        · rw [List.length_map]
          exact small10 (Nat.le_trans (selM_len _ _) (by omega))
        · rw [upd_ne (ne_of_none z nD), ← c]
          exact x1 _ _ (e _ _ z)
        · rw [upd_same, ss, List.map_append]
          rfl
      | false =>
        rw [if_neg (by rw [c]; decide), List.append_nil] at ss
        refine iteF ⟨?_, ?_⟩
        · rw [← c]
          exact e.trans x1
        · rw [ss, ← c]
          exact hD1
    rintro H1 ⟨e1, hD⟩
    rw [lv] at hD
    refine ⟨_, rfl, _, rfl, tb, ts, rfl, .inl (SqL.of (e1 _ _ htb)), fun J G wk hG D2 nD2 => lc_it wk (fun i H' => ∃ us : List V, Same H1 H' ∧ H' D2 = some (.lst us) ∧ KrAt H' us (Ls.take i)) ⟨[], same_new nD2, upd_same, .nil⟩ (fun i H' _ ⟨_, z, _⟩ => hG H' fun o w => z _ _ w) ?_ ?_⟩
    · rintro i x H6 H7 hi ⟨us, e6, hD2, kr⟩ ⟨rfl, hx⟩
      obtain ⟨L, hL, t, rs, rfl, ht, pr⟩ := paired_at str hx
      have lenL := (O.row L (List.mem_of_getElem? hL)).1
      refine ⟨rfl, ?_⟩
      unfold tYes
      refine iteT ?_
      refine ⟨_, rfl, _, rfl, t, rs, L, (by rw [lenL]; rfl), (e1.trans e6) _ _ ht, pr.same (e1.trans e6), (fun z => by rw [z] at lenL; simp at lenL; omega), by omega, fun r' u' H8 mvs e8 nr' hr' hu' tr' => ?_⟩
      have hD8 := e8 _ _ hD2
      refine ⟨_, hD8, ?_, us ++ [.ref r'], fun b' o' z => ?_, upd_same, ?_⟩
      · have := Paired.length kr
        rw [List.length_take] at this
        exact small10 (by omega)
      · rw [upd_ne (ne_of_none z nD2)]
        exact e8 _ _ (e6 _ _ z)
      · rw [take_snoc hL]
        have b7 : ButI D2 H8 (upd H8 D2 (.lst (us ++ [.ref r']))) := fun b' o' nb z => (upd_ne nb).trans z
        have nl : ∀ xs, H8 D2 ≠ some (.tup xs) := fun xs z => by rw [hD8] at z; cases z
        exact Paired.snoc ((kr.same e8).at_ b7 nl) ⟨r', u', mvs, rfl, (upd_ne (ne_of hr' hD8 fun z => nomatch z)).trans hr', (upd_ne (ne_of hu' hD8 fun z => nomatch z)).trans hu', tr'.at_ b7 nl⟩
    rintro H6 ⟨us, e6, hD2, kr⟩
    rw [Paired.length str, List.take_length] at kr
    refine ⟨_, rfl, _, rfl, ?_⟩
    have e7 := e1.trans e6
    exact mk_ok (.inl hD2) (kr_rows kr n1 O.row) (.inl (e6 _ _ hD)) O fun x H' nx e M => q x H' (e7.free nx) (e7.trans e) M
/-- inverted(machine) -/
def notM (k : Nat) (ms : List Int) : List Int := selM (fun i => !decide (((i : Nat) : Int) ∈ ms)) k
def spInv (C : Addr) : Sp := fun vs H Q _ => ∃ (p : Addr) (n : Nat) (Ls : List (List Int)) (st : Int) (ms : List Int), vs = [.ref p] ∧ IsM C H p n Ls st ms ∧ OkMa n Ls st ms ∧ ∀ x H', H x = none → Same H H' → IsM C H' x n Ls st (notM Ls.length ms) → Q (.ref x) H'
theorem scInv : FnScope ["machine", "kind"] ["machine"] (defScope sInv) := ⟨rfl, rfl, rfl, by decide +kernel, rfl, by decide +kernel, by decide +kernel⟩
theorem ok_inv {f C : Addr} {fd : FuncData} (F : Fun K "inverted" "inverted" sInv f fd) (B : Bi mg) (T : Txt K C) (cM : Cal CX0 P w K mg base 6 "machine_of" (spMof C)) : FnOk P w K mg base CX0 7 f fd ["machine"] (spInv C) := by
  refine F.ok scInv (fun vs H Q E h => ?_) (fun cdv A outer s H vs Q E hr h => ?_)
  · obtain ⟨p, n, Ls, st, ms, rfl, _⟩ := h
    rfl
  · obtain ⟨p, n, Ls, st, ms, rfl, M, O, q⟩ := h
    refine ⟨_, pss_one (ps_ret (pe_c cM hr pass0 (pa_cons (pe_fld (pv 0) rfl) (pa_cons (pe_fld (pv 0) rfl) (pa_cons (pe_fld (pv 0) rfl) (pa_cons (pe_lc (own := [("kind", 1)]) rfl scInv.nd (pi_sqA (pe_fld (pv 0) rfl)) (blkOk_by (N := ["machine", "kind"]) (sc := defScope sInv) (by decide +kernel))
          (fun _ _ _ _ _ => pg_name (i := 1) scInv.nd rfl (Or.inl rfl)) (fun _ _ _ _ _ => pts_nil) (fun _ _ _ _ _ => pe_not (pv 1))) pa_nil)))))), ?_⟩
    obtain ⟨dx, tb, rw_, mk, kd, ts, us, h1, h2, h3, h4, h5, h6, h7⟩ := id M
    have k2 := O.k2
    refine ⟨_, rfl, p, C, dx, _, _, rfl, h1, T.cl, T.nS, mf_signs _ _ _ _ _ _, _, rfl, p, C, dx, _, _, rfl, h1, T.cl, T.nT, mf_table _ _ _ _ _ _, _, rfl, p, C, dx, _, _, rfl, h1, T.cl, T.nA, mf_start _ _ _ _ _ _, ?_⟩
    refine ⟨_, rfl, p, C, dx, _, _, rfl, h1, T.cl, T.nK, mf_kinds _ _ _ _ _ _, kd, _, rfl, .inl (SqL.of h7), fun J G wk hG D nD => lc_it wk (fun i H' => Same H H' ∧ H' D = some (.lst (selV (fun i => !decide (((i : Nat) : Int) ∈ ms)) i))) ⟨same_new nD, upd_same⟩ (fun i H' _ z => hG H' fun o w => z.1 _ _ w) ?_ ?_⟩
    · rintro i x H1 H2 hi ⟨e, hD⟩ ⟨rfl, hv⟩
      rw [kindsV_len] at hi
      rw [kindsV_at hi] at hv
      cases hv
      refine ⟨rfl, ?_⟩
      unfold tYes
      refine iteT ⟨_, rfl, _, rfl, _, hD, ?_, fun b' o' z => ?_, ?_⟩
      · unfold selV
        rw [List.length_map, List.length_range]
        exact small10 (by omega)
      · rw [upd_ne (ne_of_none z nD)]
        exact e _ _ z
      · rw [upd_same]
        unfold selV
        rw [List.range_succ, List.map_append]
        rfl
    rintro H1 ⟨e1, hD⟩
    rw [kindsV_len] at hD
    exact ⟨tb, D, n, Ls, st, ts, _, rfl, e1 _ _ h2, h3.same e1, hD, O.sel _, fun x H' nx e M2 => q x H' (e1.free nx) (e1.trans e) M2⟩
/-! ### the law's table -/
/-- lists of ints in the heap -/
def TabAt (H : Hp) : List V → List (List Int) → Prop := Paired fun v L => ∃ a, v = .ref a ∧ H a = some (.lst (L.map V.int))
theorem TabAt.same {H H' : Hp} {ts : List V} {T : List (List Int)} (h : TabAt H ts T) (e : Same H H') : TabAt H' ts T := Paired.mapP h fun _ _ ⟨a, h1, h2⟩ => ⟨a, h1, e _ _ h2⟩
/-- a table of so many states over s signs -/
def OkT (s : Nat) (T : List (List Int)) (k : Nat) : Prop := ∀ L ∈ T, L.length = s ∧ ∀ x ∈ L, 0 ≤ x ∧ x ≤ (k : Int) - 1
def spTab : Sp := fun vs H Q _ => ∃ (pn cl : Addr) (s b : Nat), vs = [.ref pn, .int (s : Nat)] ∧ Pen H pn cl b ∧ b ≤ 800000 ∧ 1 ≤ s ∧ s ≤ 8 ∧
  ∀ L ts T H', H L = none → But pn H H' → Pen H' pn cl (b + 100) → H' L = some (.lst ts) → TabAt H' ts T → 1 ≤ T.length → T.length ≤ 5 → OkT s T T.length → Q (.ref L) H'
theorem scTab : FnScope ["_law_pen_here", "_law_signs", "_law_many", "_law_found", "_law_state", "_law_row", "_law_sign"] ["_law_pen_here", "_law_signs"] (defScope sTab) := ⟨rfl, rfl, rfl, by decide +kernel, rfl, by decide +kernel, by decide +kernel⟩
theorem TabAt.but {pn : Addr} {H H' : Hp} {ts : List V} {T : List (List Int)} (h : TabAt H ts T) (e : But pn H H') (hp : ∀ xs, H pn ≠ some (.lst xs)) : TabAt H' ts T := Paired.mapP h fun _ _ ⟨a, h1, h2⟩ => ⟨a, h1, e _ _ (fun z => hp _ (z ▸ h2)) h2⟩
/-- none of them at L -/
def TabN (L : Addr) (H : Hp) : List V → List (List Int) → Prop := Paired fun v R => ∃ a, v = .ref a ∧ a ≠ L ∧ H a = some (.lst (R.map V.int))
theorem TabN.but {pn L : Addr} {H H' : Hp} {ts : List V} {T : List (List Int)} (h : TabN L H ts T) (e : But pn H H') (hp : ∀ xs, H pn ≠ some (.lst xs)) : TabN L H' ts T := Paired.mapP h fun _ _ ⟨a, h1, h2, h3⟩ => ⟨a, h1, h2, e _ _ (fun z => hp _ (z ▸ h3)) h3⟩
theorem Pen.nl {H : Hp} {pn cl : Addr} {b : Nat} (h : Pen H pn cl b) : ∀ xs, H pn ≠ some (.lst xs) := fun xs z => by
  obtain ⟨_, _, _, h1, _⟩ := h
  rw [h1] at z
  cases z
theorem Pen.nt {H : Hp} {pn cl : Addr} {b : Nat} (h : Pen H pn cl b) : ∀ xs, H pn ≠ some (.tup xs) := fun xs z => by
  obtain ⟨_, _, _, h1, _⟩ := h
  rw [h1] at z
  cases z
theorem ok_tab {f : Addr} {fd : FuncData} (F : Fun K "_law_table" "_law_table" sTab f fd) (B : Bi mg) (cD : Cal CX0 P w K mg base 1 "_law_draw" spDraw) : FnOk P w K mg base CX0 2 f fd ["_law_pen_here", "_law_signs"] spTab := by
  refine F.ok scTab (fun vs H Q E h => ?_) (fun cdv A outer s H vs Q E hr h => ?_)
  · obtain ⟨pn, cl, s, b, rfl, _⟩ := h
    rfl
  · obtain ⟨pn, cl, sg, b, rfl, pen, hb, s1, s8, q⟩ := h
    refine ⟨_, pss_cons (ps_par (i := 2) (j := 3) rfl scTab.nd rfl rfl (by decide) rfl rfl (pa_cons (pe_op op_add pe_int (pe_c cD hr pass0 (pa_cons (pv 0) (pa_cons pe_int pa_nil)))) (pa_cons (pe_lst pa_nil) pa_nil)) rfl)
      (pss_cons (ps_for PassesOwn.never rfl (pi_range1 rfl B.range (pa_cons (pv 2) pa_nil)) (pg_name (i := 4) scTab.nd rfl (.inl rfl))
        (pss_cons (ps_set (i := 5) scTab.nd rfl (Or.inl rfl) (pe_lst (pa_cons (pe_c cD hr pass0 (pa_cons (pv 0) (pa_cons (pv 2) pa_nil))) pa_nil)))
        (pss_cons (ps_for PassesOwn.never rfl (pi_range1 rfl B.range (pa_cons (pe_op op_sub (pv 1) pe_int) pa_nil)) (pg_name (i := 6) scTab.nd rfl (.inl rfl))
          (pss_one (ps_expr (pe_bm PySem.F.plainAttrs_list PySem.F.slot_list_append PySem.F.type_list_append mt_append (pv 5) (pa_cons (pe_ifExp (pt_cmpR op_eq (pe_c cD hr pass0 (pa_cons (pv 0) (pa_cons pe_int pa_nil))) pe_int (nomark _)) (pe_ix ix_list (pv 5) (pe_un un_neg pe_int) (fun _ _ => rfl)) (pe_c cD hr pass0 (pa_cons (pv 0) (pa_cons (pv 2) pa_nil)))) pa_nil)))))
        (pss_one (ps_expr (pe_bm PySem.F.plainAttrs_list PySem.F.slot_list_append PySem.F.type_list_append mt_append (pv 3) (pa_cons (pv 5) pa_nil)))))))
      (pss_one (ps_ret (pv 3)))), ?_⟩
    refine ⟨_, rfl, pn, cl, 5, b, rfl, pen, by omega, by decide, by decide, fun r H1 r0 r1 b1 pen1 => ?_⟩
    obtain ⟨k0, rfl⟩ := Int.eq_ofNat_of_zero_le r0
    refine ⟨_, _, rfl, rfl, Nat.zero_le _, fun L nL => ?_⟩
    rw [show (fun i j : Int => V.int (i + j)) 1 ((k0 : Nat) : Int) = V.int ((k0 + 1 : Nat) : Int) from congrArg V.int (by omega)]
    have nL0 : H L = none := by
      cases z : H L with
      | none => rfl
      | some o =>
        by_cases c : L = pn
        · obtain ⟨_, _, _, g, _⟩ := pen1
          rw [c, g] at nL
          cases nL
        · rw [b1 _ _ c z] at nL
          cases nL
    have nLp : pn ≠ L := (pen1.off nL).1
    have nLc : cl ≠ L := (pen1.off nL).2
    refine ⟨_, _, rfl, _, rfl, ((k0 + 1 : Nat) : Int), rfl, by omega, by omega, for_range (lo := 0) (n := (((k0 + 1 : Nat) : Int)).toNat) (fun i σ H' => ∃ (x y z : Option V) (ts : List V) (T : List (List Int)), σ = [some (.ref pn), some (.int (sg : Nat)), some (.int ((k0 + 1 : Nat) : Int)), some (.ref L), x, y, z] ∧ But pn H H' ∧ Pen H' pn cl (b + 1 + i * 15) ∧ H' L = some (.lst ts) ∧ TabN L H' ts T ∧ T.length = i ∧ OkT sg T (k0 + 1))
      ⟨none, none, none, [], [], rfl, fun b' o' nb z => (same_new nL) _ _ (b1 _ _ nb z), ?_, upd_same, .nil, rfl, (fun _ z => nomatch z)⟩ ?_ ?_⟩
    · exact (pen1.upd nLp nLc).mono (by omega)
    · rintro i σ H2 hi ⟨x, y, z, ts, T, rfl, b2, pen2, hL, tab, lT, okT⟩
      have hi2 : i < k0 + 1 := by omega
      refine ⟨_, rfl, _, rfl, pn, cl, _, _, rfl, pen2, by omega, by omega, by omega, fun r H3 r0 r1' b3 pen3 => ?_⟩
      refine ⟨by show 1 ≤ sizeLine; decide, fun R nR => ?_⟩
      have hL3 := b3 _ _ (pen2.ne hL fun _ z => nomatch z) hL
      have nRp := (pen3.off nR).1
      have nRc := (pen3.off nR).2
      have nRL : L ≠ R := ne_of_none hL3 nR
      have tab3 : TabN L H3 ts T := tab.but b3 pen2.nl
      refine ⟨_, rfl, _, _, rfl, rfl, _, rfl, by omega, by omega, for_range (lo := 0) (n := (((sg : Nat) : Int) - 1).toNat) (fun j σ H' => ∃ (z : Option V) (row : List Int), σ = [some (.ref pn), some (.int (sg : Nat)), some (.int ((k0 + 1 : Nat) : Int)), some (.ref L), some (.int (0 + (i : Nat))), some (.ref R), z] ∧ But pn H3 H' ∧ Pen H' pn cl (b + 1 + i * 15 + 1 + j * 2) ∧ H' R = some (.lst (row.map V.int)) ∧ row.length = j + 1 ∧ ∀ x ∈ row, 0 ≤ x ∧ x ≤ ((k0 + 1 : Nat) : Int) - 1)
        ⟨z, [r], rfl, same_but (same_new nR), pen3.upd nRp nRc, upd_same, rfl, fun x hx => by rw [List.mem_singleton.mp hx]; omega⟩ ?_ ?_⟩
      · rintro j σ H4 hj ⟨z, row, rfl, b4, pen4, hR4, lr, okr⟩
        have hj2 : j + 1 < sg := by omega
        have fin : ∀ (x : Int) (H5 : Hp), 0 ≤ x → x ≤ ((k0 + 1 : Nat) : Int) - 1 → But pn H4 H5 → Pen H5 pn cl (b + 1 + i * 15 + 1 + j * 2 + 2) → rAppend (.ref R) [.int x] H5 fun _ H' => ∃ (z : Option V) (row : List Int), [some (V.ref pn), some (.int (sg : Nat)), some (.int ((k0 + 1 : Nat) : Int)), some (.ref L), some (.int (0 + (i : Nat))), some (.ref R), some (.int (0 + (j : Nat)))] = [some (.ref pn), some (.int (sg : Nat)), some (.int ((k0 + 1 : Nat) : Int)), some (.ref L), some (.int (0 + (i : Nat))), some (.ref R), z] ∧ But pn H3 H' ∧ Pen H' pn cl (b + 1 + i * 15 + 1 + (j + 1) * 2) ∧ H' R = some (.lst (row.map V.int)) ∧ row.length = j + 1 + 1 ∧ ∀ x ∈ row, 0 ≤ x ∧ x ≤ ((k0 + 1 : Nat) : Int) - 1 := by
          intro x H5 x0 x1 b5 pen5
          have hR5 := b5 _ _ (pen4.ne hR4 fun _ z => nomatch z) hR4
          refine ⟨R, _, _, rfl, rfl, hR5, by rw [List.length_map]; exact small10 (by omega), some (.int (0 + (j : Nat))), row ++ [x], rfl, fun b' o' nb z => ?_, (pen5.upd nRp nRc).mono (by omega), ?_, by simp [lr], fun x' hx' => ?_⟩
          · exact (upd_ne (ne_of_none z nR)).trans (b5 _ _ nb (b4 _ _ nb z))
          · rw [upd_same, List.map_append]
            rfl
          · rcases List.mem_append.mp hx' with h | h
            · exact okr _ h
            · rw [List.mem_singleton.mp h]
              exact ⟨x0, x1⟩
        refine ⟨_, rfl, .inl ⟨rfl, _, SqL.of hR4⟩, _, rfl, pn, cl, 3, _, rfl, pen4, by omega, by decide, by decide, fun r H5 r0 r1' b5 pen5 => ?_⟩
        have hR5 := b5 _ _ (pen4.ne hR4 fun _ z => nomatch z) hR4
        refine ⟨rfl, _, rfl, ?_⟩
        rw [dec_int]
        have lpos : 0 < row.length := by omega
        by_cases c : r = 0
        · rw [show (r == 0) = true by rw [c]; rfl]
          obtain ⟨rs, x, rfl⟩ : ∃ rs x, row = rs ++ [x] := by
            rcases List.eq_nil_or_concat row with e | ⟨rs, x, e⟩
            · rw [e] at lpos
              exact absurd lpos (Nat.lt_irrefl _)
            · exact ⟨rs, x, by rw [e, List.concat_eq_append]⟩
          have hx := okr x (List.mem_append_right _ (List.mem_singleton.mpr rfl))
          refine iteT ⟨_, rfl, _, rfl, R, _, _, _, rfl, rfl, SqL.of hR5, ?_, fin x H5 hx.1 hx.2 b5 (pen5.mono (by omega))⟩
          rw [List.map_append]
          exact atI_last _ _
        · rw [show (r == 0) = false by simpa using c]
          refine iteF ⟨_, rfl, _, rfl, pn, cl, _, _, rfl, pen5, by omega, by omega, by omega, fun r2 H6 q0 q1 b6 pen6 => fin r2 H6 q0 (by omega) (b5.trans b6) (pen6.mono (by omega))⟩
      · rintro σ H4 ⟨z, row, rfl, b4, pen4, hR4, lr, okr⟩
        have hL4 := b4 _ _ (pen3.ne hL3 fun _ z => nomatch z) hL3
        have tab4 : TabN L H4 ts T := tab3.but b4 pen3.nl
        refine ⟨_, rfl, .inl ⟨rfl, _, SqL.of hL4⟩, _, rfl, L, ts, _, rfl, rfl, hL4, ?_, _, _, _, ts ++ [.ref R], T ++ [row], rfl, fun b' o' nb z => ?_, (pen4.upd nLp nLc).mono (by omega), upd_same, ?_, by simp [lT], ?_⟩
        · have := Paired.length tab4
          exact small10 (by omega)
        · exact (upd_ne (ne_of_none z nL0)).trans (b4 _ _ nb (b3 _ _ nb (b2 _ _ nb z)))
        · refine Paired.snoc (Paired.mapP tab4 fun _ _ ⟨a', g1, g2, g3⟩ => ⟨a', g1, g2, (upd_ne g2).trans g3⟩) ⟨R, rfl, Ne.symm nRL, (upd_ne (Ne.symm nRL)).trans hR4⟩
        · intro L' hL'
          rcases List.mem_append.mp hL' with h | h
          · exact okT _ h
          · rw [List.mem_singleton.mp h]
            exact ⟨by omega, okr⟩
    · rintro σ H2 ⟨x, y, z, ts, T, rfl, b2, pen2, hL, tab, lT, okT⟩
      have lT2 : T.length = k0 + 1 := by omega
      refine ⟨_, rfl, q L ts T H2 nL0 b2 (pen2.mono (by omega)) hL (Paired.mapP tab fun _ _ ⟨a', g1, _, g3⟩ => ⟨a', g1, g3⟩) (by omega) (by omega) (by rw [lT2]; exact okT)⟩
end
end K17
set_option Elab.async false
set_option linter.all false
set_option maxRecDepth 100001
set_option maxHeartbeats 3999999
namespace K17
open PySem L2
abbrev sLTo : Stmt := topS 33
abbrev sKept : Stmt := topS 34
/-! ### rows told in drawn forms -/
structure Good (a : Int) (row : List Int) (w : Nat) (k : Int) (i : Nat) (ms : List Mv) : Prop where
  ok : OkM ((row.length * w : Nat) : Int) k ms
  en : endM ms ≤ ((i * w : Nat) : Int)
  ex : expT a ms (i * w) = widen (row.take i) w
theorem good_nil (a : Int) (row : List Int) (w : Nat) (k : Int) : Good a row w k 0 [] := by
  refine ⟨okM_nil, ?_, ?_⟩
  · show (0 : Int) ≤ _
    omega
  · rw [Nat.zero_mul, List.take_zero]
    rfl
theorem fit_le {i n w : Nat} (h : i < n) : i * w + w ≤ n * w := by
  have := Nat.mul_le_mul_right w (show i + 1 ≤ n from h)
  rw [Nat.succ_mul] at this
  exact this
section
variable {a : Int} {row : List Int} {w : Nat} {k : Int} {i : Nat} {ms : List Mv}
theorem good_push (G : Good a row w k i ms) (hw : 1 ≤ w) {x : Int} (hx : row[i]? = some x) (x1 : 0 ≤ x) (x2 : x ≤ k - 1) : Good a row w k (i + 1) (ms ++ [(((i * w : Nat) : Int), ((i * w : Nat) : Int) + (w : Nat) - 1, x)]) := by
  obtain ⟨ok, en, ex⟩ := G
  have lt := (List.getElem?_eq_some_iff.mp hx).1
  have fl := fit_le (w := w) lt
  obtain ⟨l1, l2, _⟩ := expM_len (a := a) ok
  have e : expM a (ms ++ [(((i * w : Nat) : Int), ((i * w : Nat) : Int) + (w : Nat) - 1, x)]) = widen (row.take (i + 1)) w := by
    rw [take_snoc hx, widen_snoc, ← ex, expM_snoc]
    unfold stepE expT
    congr 2
    show (((i * w : Nat) : Int) + (w : Nat) - 1 + 1 - ((i * w : Nat) : Int)).toNat = w
    omega
  refine ⟨okM_snoc.mpr ⟨ok, en, ?_, ?_, x1, x2⟩, ?_, ?_⟩
  · show ((i * w : Nat) : Int) ≤ ((i * w : Nat) : Int) + (w : Nat) - 1
    omega
  · show ((i * w : Nat) : Int) + (w : Nat) - 1 ≤ ((row.length * w : Nat) : Int) - 1
    omega
  · rw [endM_snoc, Nat.succ_mul]
    show ((i * w : Nat) : Int) + (w : Nat) - 1 + 1 ≤ _
    omega
  · unfold expT
    rw [e, widen_len, List.length_take, Nat.min_eq_left (by omega), Nat.sub_self]
    simp
theorem good_skip (G : Good a row w k i ms) (hx : row[i]? = some a) : Good a row w k (i + 1) ms := by
  obtain ⟨ok, en, ex⟩ := G
  obtain ⟨l1, l2, _⟩ := expM_len (a := a) ok
  have e2 : (i + 1) * w = i * w + w := Nat.succ_mul _ _
  refine ⟨ok, by rw [e2]; omega, ?_⟩
  rw [take_snoc hx, widen_snoc, ← ex]
  unfold expT
  rw [List.append_assoc, List.replicate_append_replicate, e2]
  congr 2
  omega
theorem good_join {f x : Int} (G : Good a row w k i (ms ++ [(f, ((i * w : Nat) : Int) - 1, x)])) (hx : row[i]? = some x) : Good a row w k (i + 1) (ms ++ [(f, ((i * w : Nat) : Int) + (w : Nat) - 1, x)]) := by
  obtain ⟨ok, en, ex⟩ := G
  obtain ⟨ok1, o1, o2, o3, o4, o5⟩ := okM_snoc.mp ok
  have o2 : f ≤ ((i * w : Nat) : Int) - 1 := o2
  have lt := (List.getElem?_eq_some_iff.mp hx).1
  have fl := fit_le (w := w) lt
  obtain ⟨l1, l2, _⟩ := expM_len (a := a) ok
  rw [endM_snoc] at l1
  have l1 : (((expM a (ms ++ [(f, ((i * w : Nat) : Int) - 1, x)])).length : Nat) : Int) = ((i * w : Nat) : Int) - 1 + 1 := l1
  have ex0 : expM a (ms ++ [(f, ((i * w : Nat) : Int) - 1, x)]) = widen (row.take i) w := by
    rw [← ex]
    unfold expT
    rw [show i * w - (expM a (ms ++ [(f, ((i * w : Nat) : Int) - 1, x)])).length = 0 by omega]
    simp
  have e : expM a (ms ++ [(f, ((i * w : Nat) : Int) + (w : Nat) - 1, x)]) = widen (row.take (i + 1)) w := by
    rw [take_snoc hx, widen_snoc, ← ex0, expM_snoc, expM_snoc]
    unfold stepE
    rw [List.append_assoc (expM a ms ++ _), List.replicate_append_replicate]
    congr 2
    show (((i * w : Nat) : Int) + (w : Nat) - 1 + 1 - f).toNat = (((i * w : Nat) : Int) - 1 + 1 - f).toNat + w
    omega
  refine ⟨okM_snoc.mpr ⟨ok1, o1, ?_, ?_, o4, o5⟩, ?_, ?_⟩
  · show f ≤ ((i * w : Nat) : Int) + (w : Nat) - 1
    omega
  · show ((i * w : Nat) : Int) + (w : Nat) - 1 ≤ ((row.length * w : Nat) : Int) - 1
    omega
  · rw [endM_snoc, Nat.succ_mul]
    show ((i * w : Nat) : Int) + (w : Nat) - 1 + 1 ≤ _
    omega
  · unfold expT
    rw [e, widen_len, List.length_take, Nat.min_eq_left (by omega), Nat.sub_self]
    simp
end
def dMvL (ms : List Mv) : PyData := .list (ms.map dMv)
theorem enc_mvL : Enc dMvL 2 := enc_mv.lst
theorem dp_mvL {K : PySem.W.Frag} {H : Hp} {a : Addr} {ts : List V} {ms : List Mv} (h : H a = some (.lst ts)) (t : TrAt H ts ms) : Dp K H (.ref a) (dMvL ms) := .lst (SqL.of h) (dpAll_mvs t)
section
variable {P : Program} {w : World} {K : PySem.W.Frag} {mg : Str → Option Value} {base : Heap}
theorem cut2 {T : Hp → Option V → Prop} {G : Prop} (C : Hp → Option V → Prop) (main : (∀ H y, C H y → T H y) → G) (els : ∀ H y, C H y → T H y) : G := main els
theorem cut1 {T : Hp → Prop} {G : Prop} (C : Hp → Prop) (main : (∀ H, C H → T H) → G) (els : ∀ H, C H → T H) : G := main els
theorem set_last {α : Type} (xs : List α) (x y : α) : (xs ++ [x]).set xs.length y = xs ++ [y] := by
  induction xs with
  | nil => rfl
  | cons z zs ih => simp [ih]
theorem ixN_last {α : Type} (xs : List α) (x : α) : ixN (xs ++ [x]).length (-1) = some xs.length := by
  unfold ixN
  simp
  omega
/-- a move more at M -/
theorem app_mv {pn cl M tt : Addr} {H H5 : Hp} {B : Nat} {ts : List V} {ms : List Mv} {p : Mv} (b5 : But pn H H5) (pen : Pen H5 pn cl B) (hM : H5 M = some (.lst ts)) (tr : TrAt H5 ts ms) (nM0 : H M = none) (nMp : pn ≠ M) (nMc : cl ≠ M) (ntt : H5 tt = none) {H6 : Hp} (e6 : H6 = upd (upd H5 tt (.tup [.int p.1, .int p.2.1, .int p.2.2])) M (.lst (ts ++ [.ref tt]))) :
    But pn H H6 ∧ Pen H6 pn cl B ∧ H6 M = some (.lst (ts ++ [.ref tt])) ∧ TrAt H6 (ts ++ [.ref tt]) (ms ++ [p]) := by
  subst e6
  have nt : tt ≠ M := Ne.symm (ne_of_none hM ntt)
  obtain ⟨q1, q2⟩ := pen.off ntt
  refine ⟨fun b' o' nb z => ?_, (pen.upd q1 q2).upd nMp nMc, upd_same, ?_⟩
  · rw [upd_ne (ne_of_none z nM0), upd_ne (ne_of_none (b5 _ _ nb z) ntt)]
    exact b5 _ _ nb z
  · refine Paired.snoc (Paired.mapP tr fun _ _ ⟨a', g1, g2⟩ => ⟨a', g1, ?_⟩) ⟨tt, rfl, (upd_ne nt).trans upd_same⟩
    exact (upd_ne (ne_of g2 hM fun z => nomatch z)).trans ((upd_ne (ne_of_none g2 ntt)).trans g2)
theorem set_mv {pn cl M tt : Addr} {H H5 : Hp} {B : Nat} {ts : List V} {v : V} {ms : List Mv} {p : Mv} (b5 : But pn H H5) (pen : Pen H5 pn cl B) (hM : H5 M = some (.lst (ts ++ [v]))) (tr : TrAt H5 ts ms) (nM0 : H M = none) (nMp : pn ≠ M) (nMc : cl ≠ M) (ntt : H5 tt = none) {H6 : Hp} (e6 : H6 = upd (upd H5 tt (.tup [.int p.1, .int p.2.1, .int p.2.2])) M (.lst ((ts ++ [v]).set ts.length (.ref tt)))) :
    But pn H H6 ∧ Pen H6 pn cl B ∧ H6 M = some (.lst (ts ++ [.ref tt])) ∧ TrAt H6 (ts ++ [.ref tt]) (ms ++ [p]) := by
  subst e6
  have nt : tt ≠ M := Ne.symm (ne_of_none hM ntt)
  obtain ⟨q1, q2⟩ := pen.off ntt
  rw [set_last]
  refine ⟨fun b' o' nb z => ?_, (pen.upd q1 q2).upd nMp nMc, upd_same, ?_⟩
  · rw [upd_ne (ne_of_none z nM0), upd_ne (ne_of_none (b5 _ _ nb z) ntt)]
    exact b5 _ _ nb z
  · refine Paired.snoc (Paired.mapP tr fun _ _ ⟨a', g1, g2⟩ => ⟨a', g1, ?_⟩) ⟨tt, rfl, (upd_ne nt).trans upd_same⟩
    exact (upd_ne (ne_of g2 hM fun z => nomatch z)).trans ((upd_ne (ne_of_none g2 ntt)).trans g2)
def spLTo : Sp := fun vs H Q _ => ∃ (pn cl s : Addr) (b w k : Nat) (row : List Int), vs = [.ref pn, .ref s, .int (w : Nat)] ∧ Pen H pn cl b ∧ b ≤ 800000 ∧ H s = some (.lst (row.map V.int)) ∧ 1 ≤ row.length ∧ row.length ≤ 8 ∧ 1 ≤ w ∧ w ≤ 250 ∧ (∀ x ∈ row, 0 ≤ x ∧ x ≤ (k : Int) - 1) ∧
  ∀ v a ms H', But pn H H' → Pen H' pn cl (b + 30) → RowAt H' v a ms → OkM ((row.length * w : Nat) : Int) k ms → 0 ≤ a → a ≤ (k : Int) - 1 → expT a ms (row.length * w) = widen row w → (∀ t u, v = .ref t → H' t = some (.tup [.int a, .ref u]) → (∃ xs, H' u = some (.tup xs)) ∨ H u = none) → Q v H'
theorem scLTo : FnScope ["_law_pen_here", "_law_row", "_law_wide", "_law_away", "_law_moves", "_law_sign", "_law_joins"] ["_law_pen_here", "_law_row", "_law_wide"] (defScope sLTo) := ⟨rfl, rfl, rfl, by decide +kernel, rfl, by decide +kernel, by decide +kernel⟩
theorem ok_lto {f : Addr} {fd : FuncData} (F : Fun K "_law_told" "_law_told" sLTo f fd) (B : Bi mg) (cD : Cal CX0 P w K mg base 1 "_law_draw" spDraw) (cP : Cal CX0 P w K mg base 2 "_law_pick" spPick) : FnOk P w K mg base CX0 3 f fd ["_law_pen_here", "_law_row", "_law_wide"] spLTo := by
  refine F.ok scLTo (fun vs H Q E h => ?_) (fun cdv A outer s H vs Q E hr h => ?_)
  · obtain ⟨pn, cl, s, b, w, k, row, rfl, _⟩ := h
    rfl
  · obtain ⟨pn, cl, s0, b, w, k, row, rfl, pen, hb, hs, n1, n8, w1, w2, okr, q⟩ := h
    refine ⟨_, pss_cons (ps_par (i := 3) (j := 4) rfl scLTo.nd rfl rfl (by decide) rfl rfl (pa_cons (pe_c cP hr pass0 (pa_cons (pv 0) (pa_cons (pv 1) pa_nil))) (pa_cons (pe_lst pa_nil) pa_nil)) rfl)
      (pss_cons (ps_for PassesOwn.never rfl (pi_range1 rfl B.range (pa_cons (pe_len B.len (pa_cons (pv 1) pa_nil)) pa_nil)) (pg_name (i := 5) scLTo.nd rfl (.inl rfl))
        (pss_cons (ps_set (i := 6) scLTo.nd rfl (Or.inl rfl) (pe_and (pe_cmpR (op_neE (hu64 hr) enc_mvL (by decide)) (pv 4) (pe_lst pa_nil) (nomark _)) (pe_and (pe_cmpR op_eq (pe_ix ix_tup (pe_ix ix_list (pv 4) (pe_un un_neg pe_int) (fun _ _ => rfl)) pe_int (fun _ _ => rfl)) (pe_op op_sub (pe_op op_mul (pv 5) (pv 2)) pe_int) (nomark _))
            (pe_one (pe_cmpR op_eq (pe_ix ix_tup (pe_ix ix_list (pv 4) (pe_un un_neg pe_int) (fun _ _ => rfl)) pe_int (fun _ _ => rfl)) (pe_ix ix_list (pv 1) (pv 5) (fun _ _ => rfl)) (nomark _))))))
        (pss_one (ps_if (PW.pt (pw_and (pt_val (pv 6)) (pw_and1 (pt_cmpR op_eq (pe_c cD hr pass0 (pa_cons (pv 0) (pa_cons pe_int pa_nil))) pe_int (nomark _)))))
          (pss_one (ps_asg (pe_tup (pa_cons (pe_ix ix_tup (pe_ix ix_list (pv 4) (pe_un un_neg pe_int) (fun _ _ => rfl)) pe_int (fun _ _ => rfl)) (pa_cons (pe_op op_sub (pe_op op_add (pe_op op_mul (pv 5) (pv 2)) (pv 2)) pe_int) (pa_cons (pe_ix ix_list (pv 1) (pv 5) (fun _ _ => rfl)) pa_nil)))) (pg_sub (pv 4) (pe_un un_neg pe_int) set_list)))
          (pss_one (ps_if (PW.pt (pw_or (pt_cmpR op_ne (pe_ix ix_list (pv 1) (pv 5) (fun _ _ => rfl)) (pv 3) (nomark _)) (pw_or1 (pt_cmpR op_eq (pe_c cD hr pass0 (pa_cons (pv 0) (pa_cons pe_int pa_nil))) pe_int (nomark _)))))
            (pss_one (ps_expr (pe_bm PySem.F.plainAttrs_list PySem.F.slot_list_append PySem.F.type_list_append mt_append (pv 4) (pa_cons (pe_tup (pa_cons (pe_op op_mul (pv 5) (pv 2)) (pa_cons (pe_op op_sub (pe_op op_add (pe_op op_mul (pv 5) (pv 2)) (pv 2)) pe_int) (pa_cons (pe_ix ix_list (pv 1) (pv 5) (fun _ _ => rfl)) pa_nil)))) pa_nil)))) pss_nil))))))
      (pss_cons (ps_if (pt_cmpR op_eq (pe_c cD hr pass0 (pa_cons (pv 0) (pa_cons pe_int pa_nil))) pe_int (nomark _)) (pss_one (ps_ret (pe_tup (pa_cons (pv 3) (pa_cons (pe_tupleOf rfl B.tuple (pv 4)) pa_nil))))) pss_nil)
      (pss_one (ps_ret (pe_tup (pa_cons (pv 3) (pa_cons (pv 4) pa_nil))))))), ?_⟩
    have lr : (row.map V.int).length = row.length := List.length_map _
    refine ⟨_, rfl, _, rfl, pn, cl, s0, _, b, rfl, pen, by omega, hs, by omega, by omega, fun xa H1 hxa b1 pen1 => ?_⟩
    obtain ⟨a, ha, rfl⟩ := List.mem_map.mp hxa
    obtain ⟨a1, a2⟩ := okr a ha
    refine ⟨Nat.zero_le _, fun M nM => ?_⟩
    have hs1 := b1 _ _ (pen.ne hs fun _ z => nomatch z) hs
    have nMp := (pen1.off nM).1
    have nMc := (pen1.off nM).2
    have nMs : s0 ≠ M := ne_of_none hs1 nM
    have nM0 : H M = none := by
      cases z : H M with
      | none => rfl
      | some o => rw [b1 _ _ (Ne.symm nMp) z] at nM; cases nM
    refine ⟨_, _, rfl, _, rfl, s0, _, rfl, .inl (SqL.of ((upd_ne nMs).trans hs1)), ((row.length : Nat) : Int), by rw [lr], by omega, by omega, for_range (lo := 0) (n := (((row.length : Nat) : Int)).toNat) (fun i σ H' => ∃ (x y : Option V) (ts : List V) (ms : List Mv), σ = [some (.ref pn), some (.ref s0), some (.int (w : Nat)), some (.int a), some (.ref M), x, y] ∧ But pn H H' ∧ Pen H' pn cl (b + 1 + i * 2) ∧ H' M = some (.lst ts) ∧ TrAt H' ts ms ∧ ms.length ≤ i ∧ Good a row w k i ms)
      ⟨none, none, [], [], rfl, fun b' o' nb z => (same_new nM) _ _ (b1 _ _ nb z), pen1.upd nMp nMc, upd_same, .nil, Nat.le_refl _, good_nil _ _ _ _⟩ ?_ ?_⟩
    · rintro i σ H2 hi ⟨x, y, ts, ms, rfl, b2, pen2, hM, tr, lm, G⟩
      have lt : i < row.length := by omega
      have hx : row[i]? = some row[i] := List.getElem?_eq_getElem lt
      obtain ⟨v1, v2⟩ := okr row[i] (List.getElem_mem lt)
      have hv : (row.map V.int)[i]? = some (.int row[i]) := by rw [List.getElem?_map, hx]; rfl
      have atv : atI (row.map V.int) (0 + (i : Nat)) = some (.int row[i]) := by
        rw [Int.zero_add]
        exact atI_nat hv
      have pw : (0 + ((i : Nat) : Int)) * ((w : Nat) : Int) = ((i * w : Nat) : Int) := by rw [Int.zero_add, Int.natCast_mul]
      generalize row[i] = xv at hx v1 v2 hv atv
      have i8 : (0 + ((i : Nat) : Int)) < 2 ^ 64 := by omega
      have i0 : -(2 ^ 64) < (0 + ((i : Nat) : Int)) := by omega
      have pen2p : pn ≠ M := nMp
      have hs2 : H2 s0 = some (.lst (row.map V.int)) := b2 _ _ (pen.ne hs fun _ z => nomatch z) hs
      have b3 := b2
      have pen3 : Pen H2 pn cl (b + 1 + i * 2) := pen2
      apply cut2 (fun H5 (_ : Option V) => But pn H H5 ∧ Pen H5 pn cl (b + 1 + i * 2 + 1) ∧ H5 M = some (.lst ts) ∧ TrAt H5 ts ms ∧ H5 s0 = some (.lst (row.map V.int)))
      · intro els
        -- joins
        refine ⟨_, rfl, Nat.zero_le _, fun e ne => ?_⟩
        have x3 : Same H2 (upd H2 e (.lst [])) := same_new ne
        have he3 : upd H2 e (.lst []) e = some (.lst []) := upd_same
        have b3 : But pn H (upd H2 e (.lst [])) := fun b' o' nb z => x3 _ _ (b2 _ _ nb z)
        have pen3 := pen3.same x3
        have hM3 := x3 _ _ hM
        have tr3 := tr.same x3
        have hs3 := x3 _ _ hs2
        generalize upd H2 e (.lst []) = H3 at x3 he3 b3 pen3 hM3 tr3 hs3 ⊢
        refine ⟨ms, [], dp_mvL hM3 tr3, .lst (SqL.of he3) .nil, _, rfl, ?_⟩
        have fls : ∀ (H5 : Hp) (yv : Option V), But pn H H5 → Pen H5 pn cl (b + 1 + i * 2 + 1) → H5 M = some (.lst ts) → TrAt H5 ts ms → H5 s0 = some (.lst (row.map V.int)) → _ := fun H5 yv q1 q2 q3 q4 q5 => els H5 yv ⟨q1, q2, q3, q4, q5⟩
        rcases List.eq_nil_or_concat ms with e0 | ⟨ms', t, e0⟩
        · rw [show (!decide (ms = [])) = false by rw [e0]; simp]
          refine ⟨_, rfl, _, rfl, iteF (iteF ?_)⟩
          obtain ⟨yv, ey⟩ : ∃ yv, some (V.bl false) = yv := ⟨_, rfl⟩
          simp only [List.set_cons_succ, List.set_cons_zero]
          rw [ey]
          exact fls H3 yv b3 (pen3.mono (by omega)) hM3 tr3 hs3
        · rw [List.concat_eq_append] at e0
          have tr4 : TrAt H3 ts (ms' ++ [t]) := by rw [← e0]; exact tr3
          obtain ⟨us, v, eu, tu, x0, rfl, hx0⟩ := paired_last tr4
          have hM4 : H3 M = some (.lst (us ++ [V.ref x0])) := by rw [← eu]; exact hM3
          rw [show (!decide (ms = [])) = true by rw [e0]; simp]
          have two : atI [V.int t.1, V.int t.2.1, V.int t.2.2] 1 = some (V.int t.2.1) := rfl
          have three : atI [V.int t.1, V.int t.2.1, V.int t.2.2] 2 = some (V.int t.2.2) := rfl
          have one : atI [V.int t.1, V.int t.2.1, V.int t.2.2] 0 = some (V.int t.1) := rfl
          refine ⟨_, rfl, _, rfl, M, _, _, _, rfl, rfl, SqL.of hM4, atI_last us (V.ref x0), x0, _, _, _, rfl, rfl, SqT.of hx0, two, _, rfl, _, rfl, _, _, rfl, rfl, .inl ⟨i0, i8⟩, _, _, rfl, rfl, rfl, _, rfl, ?_⟩
          rw [dec_int, pw]
          by_cases c1 : t.2.1 = ((i * w : Nat) : Int) - 1
          · rw [show (t.2.1 == ((i * w : Nat) : Int) - 1) = true by simpa using c1]
            refine ⟨_, rfl, _, rfl, M, _, _, _, rfl, rfl, SqL.of hM4, atI_last us (V.ref x0), x0, _, _, _, rfl, rfl, SqT.of hx0, three, _, rfl, _, rfl, s0, _, _, _, rfl, rfl, SqL.of hs3, atv, rfl, ?_⟩
            rw [dec_int]
            by_cases c2 : t.2.2 = xv
            · rw [show (t.2.2 == xv) = true by simpa using c2]
              refine ⟨_, rfl, _, rfl, iteT ⟨_, rfl, pn, cl, 2, _, rfl, pen3, by omega, by decide, by decide, fun r H5 r0 r1 b5 pen5 => ?_⟩⟩
              have tr5 : TrAt H5 us ms' := TrAt.at_ (l := ms') tu b5 pen3.nt
              have tr6 : TrAt H5 ts ms := tr3.at_ b5 pen3.nt
              have hx5 := b5 _ _ (pen3.ne hx0 fun _ z => nomatch z) hx0
              have hM5 := b5 _ _ (pen3.ne hM4 fun _ z => nomatch z) hM4
              have hM6 := b5 _ _ (pen3.ne hM3 fun _ z => nomatch z) hM3
              have hs5 := b5 _ _ (pen3.ne hs3 fun _ z => nomatch z) hs3
              have b5 := b3.trans b5
              refine ⟨rfl, _, rfl, ?_⟩
              rw [dec_int]
              by_cases c3 : r = 0
              · rw [show (r == 0) = true by rw [c3]; rfl]
                refine iteT ⟨_, rfl, _, rfl, M, _, _, _, rfl, rfl, SqL.of hM5, atI_last us (V.ref x0), x0, _, _, _, rfl, rfl, SqT.of hx5, one, _, rfl, _, rfl, _, _, rfl, rfl, .inl ⟨i0, i8⟩, _, rfl, _, _, rfl, rfl, _, _, rfl, rfl, _, rfl, _, rfl, s0, _, _, _, rfl, rfl, SqL.of hs5, atv, by show 3 ≤ sizeLine; decide, fun tt ntt => ?_⟩
                have hM7 : upd H5 tt (.tup [.int t.1, .int ((0 + ((i : Nat) : Int)) * ((w : Nat) : Int) + ((w : Nat) : Int) - 1), .int xv]) M = some (.lst (us ++ [V.ref x0])) := (upd_ne (ne_of_none hM5 ntt)).trans hM5
                obtain ⟨g1, g2, g3, g4⟩ := set_mv (p := (t.1, ((i * w : Nat) : Int) + ((w : Nat) : Int) - 1, xv)) b5 pen5 hM5 tr5 nM0 nMp nMc ntt rfl
                refine ⟨_, rfl, _, rfl, M, _, _, us.length, rfl, rfl, hM7, ixN_last _ _, ?_⟩
                rw [pw]
                refine ⟨_, _, _, _, rfl, g1, g2.mono (by omega), g3, g4, ?_, ?_⟩
                · rw [e0] at lm
                  simp at lm ⊢
                  omega
                · rw [e0] at G
                  obtain ⟨t1, t2, t3⟩ := t
                  cases c1
                  cases c2
                  exact good_join G hx
              · rw [show (r == 0) = false by simpa using c3]
                refine iteF ?_
                obtain ⟨yv, ey⟩ : ∃ yv, some (V.bl true) = yv := ⟨_, rfl⟩
                simp only [List.set_cons_succ, List.set_cons_zero]
                rw [ey]
                exact fls H5 yv b5 pen5 hM6 tr6 hs5
            · rw [show (t.2.2 == xv) = false by simpa using c2]
              refine ⟨_, rfl, _, rfl, iteF (iteF ?_)⟩
              obtain ⟨yv, ey⟩ : ∃ yv, some (V.bl false) = yv := ⟨_, rfl⟩
              simp only [List.set_cons_succ, List.set_cons_zero]
              rw [ey]
              exact fls H3 yv b3 (pen3.mono (by omega)) hM3 tr3 hs3
          · rw [show (t.2.1 == ((i * w : Nat) : Int) - 1) = false by simpa using c1]
            refine ⟨_, rfl, _, rfl, iteF (iteF ?_)⟩
            obtain ⟨yv, ey⟩ : ∃ yv, some (V.bl false) = yv := ⟨_, rfl⟩
            simp only [List.set_cons_succ, List.set_cons_zero]
            rw [ey]
            exact fls H3 yv b3 (pen3.mono (by omega)) hM3 tr3 hs3
      · rintro H5 yv ⟨b5, pen5, hM5, tr5, hs5⟩
        refine ⟨_, rfl, _, rfl, s0, _, _, _, rfl, rfl, SqL.of hs5, atv, _, rfl, rfl, _, rfl, ?_⟩
        rw [dec_int]
        apply cut1 (fun H6 => But pn H H6 ∧ Pen H6 pn cl (b + 1 + (i + 1) * 2) ∧ H6 M = some (.lst ts) ∧ TrAt H6 ts ms ∧ H6 s0 = some (.lst (row.map V.int)))
        · intro app
          by_cases c : xv = a
          · rw [show (xv == a) = true by simpa using c]
            refine iteF ⟨_, rfl, pn, cl, 3, _, rfl, pen5, by omega, by decide, by decide, fun r H6 r0 r1 b6 pen6 => ?_⟩
            have tr6 : TrAt H6 ts ms := tr5.at_ b6 pen5.nt
            have hM6 := b6 _ _ (pen5.ne hM5 fun _ z => nomatch z) hM5
            have hs6 := b6 _ _ (pen5.ne hs5 fun _ z => nomatch z) hs5
            have b6 := b5.trans b6
            refine ⟨rfl, _, rfl, ?_⟩
            rw [dec_int]
            by_cases c3 : r = 0
            · rw [show (r == 0) = true by rw [c3]; rfl]
              refine iteT ?_
              exact app H6 ⟨b6, pen6.mono (by omega), hM6, tr6, hs6⟩
            · rw [show (r == 0) = false by simpa using c3]
              refine iteF ⟨_, _, ts, ms, rfl, b6, pen6.mono (by omega), hM6, tr6, by omega, good_skip G (by rw [hx, c])⟩
          · rw [show (xv == a) = false by simpa using c]
            refine iteT (iteT ?_)
            obtain ⟨H7, e7⟩ : ∃ H7, H5 = H7 := ⟨_, rfl⟩
            rw [e7] at b5 pen5 hM5 tr5 hs5 ⊢
            exact app H7 ⟨b5, pen5.mono (by omega), hM5, tr5, hs5⟩
        · rintro H6 ⟨b6, pen6, hM6, tr6, hs6⟩
          have lts : ts.length ≤ 10000 := by
            have := Paired.length tr6
            omega
          refine ⟨_, rfl, .inl ⟨rfl, _, SqL.of hM6⟩, _, rfl, _, rfl, _, _, rfl, rfl, .inl ⟨i0, i8⟩, _, rfl, _, rfl, _, _, rfl, rfl, .inl ⟨i0, i8⟩, _, rfl, _, _, rfl, rfl, _, _, rfl, rfl, _, rfl, _, rfl, s0, _, _, _, rfl, rfl, SqL.of hs6, atv, by show 3 ≤ sizeLine; decide, fun tt ntt => ⟨M, ts, _, rfl, rfl, (upd_ne (ne_of_none hM6 ntt)).trans hM6, small10 lts, ?_⟩⟩
          obtain ⟨g1, g2, g3, g4⟩ := app_mv (p := (((i * w : Nat) : Int), ((i * w : Nat) : Int) + ((w : Nat) : Int) - 1, xv)) (H6 := upd (upd H6 tt (.tup [.int ((0 + ((i : Nat) : Int)) * ((w : Nat) : Int)), .int ((0 + ((i : Nat) : Int)) * ((w : Nat) : Int) + ((w : Nat) : Int) - 1), .int xv])) M (.lst (ts ++ [.ref tt]))) b6 pen6 hM6 tr6 nM0 nMp nMc ntt (by rw [pw])
          exact ⟨_, _, _, _, rfl, g1, g2, g3, g4, by simp; omega, good_push G w1 hx v1 v2⟩
    · rintro σ H2 ⟨x, y, ts, ms, rfl, b2, pen2, hM, tr, lm, G⟩
      rw [show (((row.length : Nat) : Int)).toNat = row.length from Int.toNat_natCast _] at pen2 G
      have ex := G.ex
      rw [List.take_length] at ex
      refine ⟨_, rfl, pn, cl, 2, _, rfl, pen2, by omega, by decide, by decide, fun r H3 r0 r1 b3 pen3 => ?_⟩
      have tr3 : TrAt H3 ts ms := tr.at_ b3 pen2.nt
      have hM3 := b3 _ _ (pen2.ne hM fun _ z => nomatch z) hM
      have b4 := b2.trans b3
      refine ⟨rfl, _, rfl, ?_⟩
      rw [dec_int]
      by_cases c3 : r = 0
      · rw [show (r == 0) = true by rw [c3]; rfl]
        refine iteT ⟨_, rfl, _, rfl, kTup_lt (.inl hM3) fun mt H9 e9 hmt => ⟨by show 2 ≤ sizeLine; decide, fun p np => ?_⟩⟩
        have x9 := e9.trans (same_new (o := .tup [.int a, .ref mt]) np)
        refine q _ a ms _ (fun b' o' nb z => x9 _ _ (b4 _ _ nb z)) ((pen3.same x9).mono (by omega)) ⟨p, mt, ts, rfl, upd_same, .inr (same_new np _ _ hmt), tr3.same x9⟩ G.ok a1 a2 ex fun t u et hu => ?_
        cases et
        rw [upd_same] at hu
        cases hu
        exact .inl ⟨_, same_new np _ _ hmt⟩
      · rw [show (r == 0) = false by simpa using c3]
        refine iteF ⟨_, rfl, _, rfl, by show 2 ≤ sizeLine; decide, fun p np => ?_⟩
        have x9 := same_new (o := .tup [.int a, .ref M]) np
        refine q _ a ms _ (fun b' o' nb z => x9 _ _ (b4 _ _ nb z)) ((pen3.same x9).mono (by omega)) ⟨p, M, ts, rfl, upd_same, .inl (x9 _ _ hM3), tr3.same x9⟩ G.ok a1 a2 ex fun t u et hu => ?_
        cases et
        rw [upd_same] at hu
        cases hu
        exact .inr nM0
end
end K17
set_option Elab.async false
set_option linter.all false
set_option maxRecDepth 100001
set_option maxHeartbeats 3999999
namespace K17
open PySem L2
section
variable {X : Cx} (K : PySem.W.Frag)
theorem pe_countK (hK : X.K = K) {o e : Expr} {to te : TE} {apos cpos : Pos} (ho : PE X o to) (he : PE X e te) (hbase : attributeBase o "count" X.env (eval o X.env) = eval o X.env := by rfl)
    (hfew : ((backTo cpos (starEach [e] X.env)).all (fun x => !x.1) && (backToKw cpos (keywordEach [] X.env)).all (fun x => x.1.isSome)
      && decide (([e] : List Expr).length + ([] : List Keyword).length + (if ([] : List Keyword).isEmpty then 0 else 1) < 30)) = true := by rfl)
    (hline : (apos.endLine == cpos.line) = true := by rfl) (hs : starEach [e] X.env = (false, eval e X.env) :: starEach [] X.env := by rfl) (hplain : (backTo cpos (starEach [] X.env)).any (·.1) = false := by rfl) :
    PE X (.Call (.Attribute o "count" apos) [e] [] cpos) (tBM K "list" (rCntI K) to (tCons te tNil)) := by
  subst hK
  exact pe_bm F.plainAttrs_list F.slot_list_count F.type_list_count mt_lcount ho (pa_cons he pa_nil hs) hbase hfew hline hs hplain
theorem pi_sqAK (hK : X.K = K) {tg e : Expr} {te : TE} (he : PE X e te) : PI X tg e (iSqA K te) := by
  subst hK
  exact pi_sqA he
theorem mx_K (hK : X.K = K) (hc : X.calm = true) : CallR X (.builtin "max") (rMax K) := by
  subst hK
  exact cr_max hc
end
/-- the runs of a row -/
structure Run (a : Int) (row : List Int) (w : Nat) (i0 i : Nat) (ms : List Mv) : Prop where
  le : i0 ≤ i
  li : i ≤ row.length
  sm : ∀ j, i0 ≤ j → j ≤ i → j < row.length → row[j]? = row[i0]?
  en : i = row.length → i0 = i
  br : ∀ y, (row.take i0).getLast? = some y → row[i0]? ≠ some y
  kp : keptM (widen (row.take i0) w) a = ms
theorem run_nil (a : Int) (row : List Int) (w : Nat) (h : 1 ≤ row.length) : Run a row w 0 0 [] := by
  refine ⟨Nat.le_refl _, Nat.zero_le _, fun j h1 h2 _ => by rw [show j = 0 by omega], fun e => by omega, fun y h => by simp at h, ?_⟩
  rw [List.take_zero]
  rfl
section
variable {a : Int} {row : List Int} {w i0 i : Nat} {ms : List Mv} {x : Int}
/-- the run goes on -/
theorem run_on (R : Run a row w i0 i ms) (hx : row[i]? = some x) (hn : row[i + 1]? = some x) : Run a row w i0 (i + 1) ms := by
  have lt := (List.getElem?_eq_some_iff.mp hn).1
  have e0 := R.sm i R.le (Nat.le_refl _) (by omega)
  refine ⟨Nat.le_succ_of_le R.le, Nat.le_of_lt lt, fun j h1 h2 h3 => ?_, fun e => by omega, R.br, R.kp⟩
  by_cases c : j = i + 1
  · rw [c, hn, ← e0, hx]
  · exact R.sm j h1 (by omega) h3
/-- the run ends -/
theorem run_end (R : Run a row w i0 i ms) (hw : 1 ≤ w) (hx : row[i]? = some x) (hn : row[i + 1]? ≠ some x) : Run a row w (i + 1) (i + 1) (ms ++ if x = a then [] else [(((i0 * w : Nat) : Int), ((i * w : Nat) : Int) + (w : Nat) - 1, x)]) := by
  have lt := (List.getElem?_eq_some_iff.mp hx).1
  have le := R.le
  have tk : ∀ d, i0 + d ≤ i → row.take (i0 + d + 1) = row.take i0 ++ List.replicate (d + 1) x := by
    intro d
    induction d with
    | zero =>
      intro h
      have : row[i0]? = some x := by rw [← R.sm i le (Nat.le_refl _) lt, hx]
      rw [take_snoc this]
      rfl
    | succ d ih =>
      intro h
      have : row[i0 + d + 1]? = some x := by rw [R.sm (i0 + d + 1) (by omega) (by omega) (by omega), ← R.sm i le (Nat.le_refl _) lt, hx]
      rw [show i0 + (d + 1) + 1 = (i0 + d + 1) + 1 by omega, take_snoc this, ih (by omega), List.append_assoc, rep_snoc]
  have tk1 := tk (i - i0) (by omega)
  rw [show i0 + (i - i0) + 1 = i + 1 by omega] at tk1
  have wr : ∀ d, widen (row.take i0 ++ List.replicate d x) w = widen (row.take i0) w ++ List.replicate (d * w) x := by
    intro d
    induction d with
    | zero => simp
    | succ d ih => rw [List.replicate_succ', ← List.append_assoc, widen_snoc, ih, List.append_assoc, List.replicate_append_replicate, Nat.succ_mul]
  refine ⟨Nat.le_refl _, lt, fun j h1 h2 _ => by rw [show j = i + 1 by omega], fun _ => rfl, fun y h => ?_, ?_⟩
  · rw [tk1, List.replicate_succ', ← List.append_assoc, List.getLast?_concat] at h
    cases h
    exact hn
  · obtain ⟨m, em⟩ : ∃ m, (i - i0 + 1) * w = m + 1 := ⟨(i - i0 + 1) * w - 1, by have := Nat.mul_le_mul (show 1 ≤ i - i0 + 1 by omega) hw; omega⟩
    have len : (widen (row.take i0) w).length = i0 * w := by rw [widen_len, List.length_take, Nat.min_eq_left (by omega)]
    have br : ∀ y, (widen (row.take i0) w).getLast? = some y → y ≠ x := by
      intro y hy e
      subst e
      rcases List.eq_nil_or_concat (row.take i0) with e | ⟨us, z, e⟩
      · rw [e] at hy
        simp [widen] at hy
      · rw [List.concat_eq_append] at e
        have hz : z = y := by
          rw [e, widen_snoc, show w = (w - 1) + 1 by omega, List.replicate_succ', ← List.append_assoc, List.getLast?_concat] at hy
          exact Option.some.inj hy
        have := R.br z (by rw [e, List.getLast?_concat])
        rw [← R.sm i le (Nat.le_refl _) lt, hx, hz] at this
        exact this rfl
    rw [tk1, wr, em, keptM_snoc a br, R.kp, len]
    have e2 : ((i0 * w : Nat) : Int) + ((m : Nat) : Int) = ((i * w : Nat) : Int) + ((w : Nat) : Int) - 1 := by
      have e3 : (i - i0 + 1) * w + i0 * w = i * w + w := by
        rw [← Nat.add_mul, show i - i0 + 1 + i0 = i + 1 by omega, Nat.succ_mul]
      omega
    rw [e2]
end
def scSt : Scope := { kind := .function, names := [(".0", .local), ("_law_state", .local), ("max", .globalImplicit), ("_law_row", .cell)], isGenerator := false, isCoroutine := false }
/-- none comes oftener -/
def mostB (row : List Int) (x : Int) : Bool := row.all fun y => decide (row.count y ≤ row.count x)
theorem mostB_iff {row : List Int} {x : Int} : mostB row x = true ↔ ∀ y ∈ row, row.count y ≤ row.count x := by
  unfold mostB
  rw [List.all_eq_true]
  exact ⟨fun h y hy => of_decide_eq_true (h y hy), fun h y hy => decide_eq_true (h y hy)⟩
theorem away_most {row : List Int} {a : Int} (h : AwayOf row a) : mostB row a = true := mostB_iff.mpr fun y hy => by
  rcases h.2 y hy with c | ⟨c, _⟩ <;> omega
theorem away_of {row : List Int} {a : Int} (ha : a ∈ row.filter (mostB row)) (hm : ∀ y ∈ row.filter (mostB row), a ≤ y) : AwayOf row a := by
  obtain ⟨h1, h2⟩ := List.mem_filter.mp ha
  have h2 := mostB_iff.mp h2
  refine ⟨h1, fun b hb => ?_⟩
  by_cases c : row.count b = row.count a
  · exact .inr ⟨c, hm b (List.mem_filter.mpr ⟨hb, mostB_iff.mpr fun y hy => by rw [c]; exact h2 y hy⟩)⟩
  · have := h2 b hb
    exact .inl (by omega)
theorem most_eq {row : List Int} {x : Int} {m : Int} (hx : x ∈ row) (h1 : m ∈ row.map fun y => ((row.count y : Nat) : Int)) (h2 : ∀ y ∈ row.map fun y => ((row.count y : Nat) : Int), y ≤ m) : decide (((row.count x : Nat) : Int) = m) = mostB row x := by
  rw [Bool.eq_iff_iff, decide_eq_true_iff, mostB_iff]
  obtain ⟨z, hz, rfl⟩ := List.mem_map.mp h1
  constructor
  · intro e y hy
    have := h2 _ (List.mem_map.mpr ⟨y, hy, rfl⟩)
    omega
  · intro e
    have h3 := e z hz
    have h4 := h2 _ (List.mem_map.mpr ⟨x, hx, rfl⟩)
    omega
abbrev NKp : List Str := ["_law_row", "_law_wide", "_law_away", "_law_moves", "_law_first", "_law_sign", "_law_state", "_law_other"]
section
variable {P : Program} {w : World} {K : PySem.W.Frag} {mg : Str → Option Value} {base : Heap}
def spKept : Sp := fun vs H Q _ => ∃ (s : Addr) (w : Nat) (row : List Int), vs = [.ref s, .int (w : Nat)] ∧ H s = some (.lst (row.map V.int)) ∧ 1 ≤ row.length ∧ row.length ≤ 8 ∧ 1 ≤ w ∧ w ≤ 250 ∧ ∀ v H', Same H H' → KrAt H' [v] [widen row w] → Q v H'
theorem scKept : FnScope NKp ["_law_row", "_law_wide"] (defScope sKept) := ⟨rfl, rfl, rfl, by decide +kernel, rfl, by decide +kernel, by decide +kernel⟩
theorem ok_kept {f : Addr} {fd : FuncData} (F : Fun K "_law_kept" "_law_kept" sKept f fd) (B : Bi mg) : FnOk P w K mg base CX0 1 f fd ["_law_row", "_law_wide"] spKept := by
  refine F.ok scKept (fun vs H Q E h => ?_) (fun cdv A outer s H vs Q E hr h => ?_)
  · obtain ⟨s, w, row, rfl, _⟩ := h
    rfl
  · obtain ⟨s0, w, row, rfl, hs, n1, n8, w1, w2, q⟩ := h
    refine ⟨_, pss_cons (ps_set (i := 2) scKept.nd rfl (Or.inl rfl) (pe_callB (cr_min rfl) rfl B.min (by decide +kernel) (pa_cons (pe_lc (own := [("_law_state", 6)]) rfl scKept.nd (pi_sqA (pv 0)) (blkOk_by (N := NKp) (sc := defScope sKept) (by decide +kernel)) (fun _ _ _ _ _ => pg_name (i := 6) scKept.nd rfl (Or.inl rfl))
          (fun _ _ _ _ _ => pts_one (pt_cmpR op_eq (pe_countK K rfl (pv 0) (pv 6)) (pe_callB (mx_K K rfl rfl) rfl B.max (by decide +kernel) (pa_cons (pe_lc (own := [("_law_other", 7)]) rfl scKept.nd (pi_sqAK K rfl (pv 0)) (blkOk_by (N := NKp) (sc := scSt) (by decide +kernel)) (fun _ _ _ _ _ => pg_name (i := 7) scKept.nd rfl (Or.inl rfl)) (fun _ _ _ _ _ => pts_nil) (fun _ _ _ _ _ => pe_countK K rfl (pv 0) (pv 7))) pa_nil)) (nomark _)))
          (fun _ _ _ _ _ => pv 6)) pa_nil)))
      (pss_cons (ps_par (i := 3) (j := 4) rfl scKept.nd rfl rfl (by decide) rfl rfl (pa_cons (pe_lst pa_nil) (pa_cons pe_int pa_nil)) rfl)
      (pss_cons (ps_for PassesOwn.never rfl (pi_range1 rfl B.range (pa_cons (pe_len B.len (pa_cons (pv 0) pa_nil)) pa_nil)) (pg_name (i := 5) scKept.nd rfl (.inl rfl))
        (pss_one (ps_if (PW.pt (pw_or (pt_cmpR op_eq (pe_op op_add (pv 5) pe_int) (pe_len B.len (pa_cons (pv 0) pa_nil)) (nomark _)) (pw_or1 (pt_cmpR op_ne (pe_ix ix_list (pv 0) (pe_op op_add (pv 5) pe_int) (fun _ _ => rfl)) (pe_ix ix_list (pv 0) (pv 5) (fun _ _ => rfl)) (nomark _)))))
          (pss_cons (ps_if (pt_cmpR op_ne (pe_ix ix_list (pv 0) (pv 5) (fun _ _ => rfl)) (pv 2) (nomark _))
            (pss_one (ps_expr (pe_bm PySem.F.plainAttrs_list PySem.F.slot_list_append PySem.F.type_list_append mt_append (pv 3) (pa_cons (pe_tup (pa_cons (pe_op op_mul (pv 4) (pv 1)) (pa_cons (pe_op op_sub (pe_op op_add (pe_op op_mul (pv 5) (pv 1)) (pv 1)) pe_int) (pa_cons (pe_ix ix_list (pv 0) (pv 5) (fun _ _ => rfl)) pa_nil)))) pa_nil)))) pss_nil)
          (pss_one (ps_set (i := 4) scKept.nd rfl (Or.inl rfl) (pe_op op_add (pv 5) pe_int)))) pss_nil)))
      (pss_one (ps_ret (pe_tup (pa_cons (pv 2) (pa_cons (pe_tupleOf rfl B.tuple (pv 3)) pa_nil))))))), ?_⟩
    have lr : (row.map V.int).length = row.length := List.length_map _
    have ner : row ≠ [] := fun z => by rw [z] at n1; exact absurd n1 (by decide)
    refine ⟨_, rfl, s0, _, rfl, .inl (SqL.of hs), fun J G wk hG D nD => lc_it wk (fun i H' => Same H H' ∧ H' D = some (.lst (((row.take i).filter (mostB row)).map V.int))) ⟨same_new nD, upd_same⟩ (fun i H' _ z => hG H' fun o w => z.1 _ _ w) ?_ ?_⟩
    · rintro i x H1 H2 hi ⟨e1, hD⟩ ⟨rfl, hv⟩
      obtain ⟨x, hx, rfl⟩ := ints_at hv
      have hs2 := e1 _ _ hs
      have tk := take_snoc hx
      refine ⟨rfl, _, rfl, .inl ⟨rfl, _, SqL.of hs2⟩, _, rfl, s0, row, x, rfl, rfl, SqL.of hs2, ?_⟩
      refine ⟨_, rfl, s0, _, rfl, .inl (SqL.of hs2), fun J2 G2 wk2 hG2 D2 nD2 => lc_it wk2 (fun j H' => Same H2 H' ∧ H' D2 = some (.lst (((row.take j).map fun y => ((row.count y : Nat) : Int)).map V.int))) ⟨same_new nD2, upd_same⟩ (fun j H' _ z => hG2 H' fun o w => z.1 _ _ w) ?_ ?_⟩
      · rintro j y H3 H4 hj ⟨e3, hD2⟩ ⟨rfl, hv2⟩
        obtain ⟨y, hy, rfl⟩ := ints_at hv2
        have hs4 := e3 _ _ hs2
        refine ⟨rfl, ?_⟩
        unfold tYes
        refine iteT ⟨_, rfl, .inl ⟨rfl, _, SqL.of hs4⟩, _, rfl, s0, row, y, rfl, rfl, SqL.of hs4, _, hD2, ?_, fun b' o' z => ?_, ?_⟩
        · rw [List.length_map, List.length_map, List.length_take]
          exact small10 (by omega)
        · rw [upd_ne (ne_of_none z nD2)]
          exact e3 _ _ z
        · rw [upd_same, take_snoc hy, List.map_append, List.map_append]
          rfl
      rintro H3 ⟨e3, hD2⟩
      rw [lr, List.take_length] at hD2
      refine ⟨D2, _, rfl, SqL.of hD2, by rw [List.length_map]; omega, fun m hm hle => ?_⟩
      refine ⟨rfl, _, rfl, ?_⟩
      have hD3 := e3 _ _ hD
      rw [dec_int]
      have em := most_eq (List.mem_of_getElem? hx) hm hle
      by_cases c : mostB row x = true
      · rw [c] at em
        rw [show (((row.count x : Nat) : Int) == m) = true by simpa using of_decide_eq_true em]
        refine iteT ⟨_, rfl, _, hD3, ?_, fun b' o' z => ?_, ?_⟩
        · rw [List.length_map]
          exact small10 (Nat.le_trans (List.length_filter_le _ _) (by rw [List.length_take]; omega))
        · rw [upd_ne (ne_of_none z nD)]
          exact e3 _ _ (e1 _ _ z)
        · rw [upd_same, tk, List.filter_append, List.filter_cons, if_pos c, List.map_append]
          rfl
      · rw [Bool.not_eq_true] at c
        rw [c] at em
        rw [show (((row.count x : Nat) : Int) == m) = false by simpa using of_decide_eq_false em]
        refine iteF ⟨fun b' o' z => e3 _ _ (e1 _ _ z), ?_⟩
        rw [tk, List.filter_append, List.filter_cons, if_neg (by rw [c]; decide), List.filter_nil, List.append_nil]
        exact hD3
    rintro H1 ⟨e1, hD⟩
    rw [lr, List.take_length] at hD
    have aw0 := awayF_of ner
    refine ⟨D, _, rfl, SqL.of hD, List.length_pos_of_mem (List.mem_filter.mpr ⟨aw0.1, away_most aw0⟩), fun a ha hle => ?_⟩
    have aw := away_of ha hle
    have ea := awayF_eq (widen_away (w := w) w1 aw)
    clear aw0 ha hle hD nD
    refine ⟨Nat.zero_le _, fun M nM => ?_⟩
    have nM0 : H M = none := e1.free nM
    have hs1 := e1 _ _ hs
    have nMs : s0 ≠ M := ne_of_none hs1 nM
    refine ⟨_, _, rfl, _, rfl, s0, _, rfl, .inl (SqL.of ((upd_ne nMs).trans hs1)), ((row.length : Nat) : Int), by rw [lr], by omega, by omega, for_range (lo := 0) (n := (((row.length : Nat) : Int)).toNat) (fun i σ H' => ∃ (y : Option V) (ts : List V) (ms : List Mv) (i0 : Nat), σ = [some (.ref s0), some (.int (w : Nat)), some (.int a), some (.ref M), some (.int (i0 : Nat)), y, none, none] ∧ Same H H' ∧ H' M = some (.lst ts) ∧ TrAt H' ts ms ∧ ms.length ≤ i ∧ Run a row w i0 i ms)
      ⟨none, [], [], 0, rfl, e1.trans (same_new nM), upd_same, .nil, Nat.le_refl _, run_nil _ _ _ n1⟩ ?_ ?_⟩
    · rintro i σ H2 hi ⟨y, ts, ms, i0, rfl, e2, hM, tr, lm, R⟩
      have lt : i < row.length := by omega
      have hx : row[i]? = some row[i] := List.getElem?_eq_getElem lt
      generalize row[i] = x at hx
      have atx : atI (row.map V.int) (0 + (i : Nat)) = some (.int x) := by
        rw [Int.zero_add]
        refine atI_nat ?_
        rw [List.getElem?_map, hx]
        rfl
      have hs2 := e2 _ _ hs
      have pw : (0 + ((i : Nat) : Int)) * ((w : Nat) : Int) = ((i * w : Nat) : Int) := by rw [Int.zero_add, Int.natCast_mul]
      have pw0 : ((i0 : Nat) : Int) * ((w : Nat) : Int) = ((i0 * w : Nat) : Int) := by rw [Int.natCast_mul]
      have i8 : (0 + ((i : Nat) : Int)) < 2 ^ 64 := by omega
      have im : -(2 ^ 64) < (0 + ((i : Nat) : Int)) := by omega
      have j8 : ((i0 : Nat) : Int) < 2 ^ 64 := by have := R.le; omega
      have jm : -(2 ^ 64) < ((i0 : Nat) : Int) := by omega
      refine ⟨_, rfl, _, _, rfl, rfl, _, rfl, s0, _, rfl, .inl (SqL.of hs2), rfl, _, rfl, ?_⟩
      rw [dec_int, lr]
      apply cut1 (fun H6 => Same H H6 ∧ H6 M = some (.lst ts) ∧ TrAt H6 ts ms ∧ row[i + 1]? ≠ some x)
      · intro els
        by_cases c : i + 1 = row.length
        · rw [show (0 + ((i : Nat) : Int) + 1 == ((row.length : Nat) : Int)) = true from beq_iff_eq.mpr (by omega)]
          refine iteT (iteT ?_)
          obtain ⟨H7, e7⟩ : ∃ H7, H2 = H7 := ⟨_, rfl⟩
          rw [e7] at e2 hM tr ⊢
          exact els H7 ⟨e2, hM, tr, by rw [List.getElem?_eq_none (by omega)]; exact fun z => nomatch z⟩
        · rw [show (0 + ((i : Nat) : Int) + 1 == ((row.length : Nat) : Int)) = false from beq_eq_false_iff_ne.mpr (by omega)]
          have hn : row[i + 1]? = some row[i + 1] := List.getElem?_eq_getElem (by omega)
          generalize row[i + 1] = x2 at hn
          have atn : atI (row.map V.int) (0 + ((i : Nat) : Int) + 1) = some (.int x2) := by
            rw [Int.zero_add, show ((i : Nat) : Int) + 1 = ((i + 1 : Nat) : Int) by omega]
            refine atI_nat ?_
            rw [List.getElem?_map, hn]
            rfl
          refine iteF ⟨_, rfl, _, rfl, _, _, rfl, rfl, s0, _, _, _, rfl, rfl, SqL.of hs2, atn, _, rfl, _, rfl, s0, _, _, _, rfl, rfl, SqL.of hs2, atx, rfl, _, rfl, ?_⟩
          rw [dec_int]
          by_cases d : x2 = x
          · rw [show (x2 == x) = true by simpa using d]
            refine iteF ⟨_, ts, ms, i0, rfl, e2, hM, tr, by omega, run_on R hx (by rw [hn, d])⟩
          · rw [show (x2 == x) = false by simpa using d]
            refine iteT ?_
            obtain ⟨H7, e7⟩ : ∃ H7, H2 = H7 := ⟨_, rfl⟩
            rw [e7] at e2 hM tr ⊢
            exact els H7 ⟨e2, hM, tr, by rw [hn]; exact fun z => d (Option.some.inj z)⟩
      · rintro H6 ⟨e6, hM6, tr6, hn⟩
        have hs6 := e6 _ _ hs
        have R2 := run_end R w1 hx hn
        refine ⟨_, rfl, _, rfl, s0, _, _, _, rfl, rfl, SqL.of hs6, atx, _, rfl, rfl, _, rfl, ?_⟩
        rw [dec_int]
        by_cases c : x = a
        · rw [show (x == a) = true by simpa using c]
          rw [if_pos c, List.append_nil] at R2
          refine iteF ⟨_, rfl, _, _, rfl, rfl, some (.int (0 + (i : Nat))), ts, ms, i + 1, ?_, e6, hM6, tr6, by omega, R2⟩
          rw [Int.zero_add]
          rfl
        · rw [show (x == a) = false by simpa using c]
          rw [if_neg c] at R2
          have lts : ts.length ≤ 10000 := by
            have := Paired.length tr6
            omega
          refine iteT ⟨_, rfl, .inl ⟨rfl, _, SqL.of hM6⟩, _, rfl, _, rfl, _, _, rfl, rfl, .inl ⟨jm, j8⟩, _, rfl, _, rfl, _, _, rfl, rfl, .inl ⟨im, i8⟩, _, rfl, _, _, rfl, rfl, _, _, rfl, rfl, _, rfl, _, rfl, s0, _, _, _, rfl, rfl, SqL.of hs6, atx, by show 3 ≤ sizeLine; decide, fun tt ntt => ⟨M, ts, _, rfl, rfl, (upd_ne (ne_of_none hM6 ntt)).trans hM6, small10 lts, ?_⟩⟩
          have nt : tt ≠ M := Ne.symm (ne_of_none hM6 ntt)
          refine ⟨_, rfl, _, _, rfl, rfl, some (.int (0 + (i : Nat))), ts ++ [.ref tt], _, i + 1, ?_, fun b' o' z => ?_, upd_same, ?_, ?_, R2⟩
          · rw [Int.zero_add]
            rfl
          · rw [upd_ne (ne_of_none z nM0), upd_ne (ne_of_none (e6 _ _ z) ntt)]
            exact e6 _ _ z
          · refine Paired.snoc (Paired.mapP tr6 fun _ _ ⟨a', g1, g2⟩ => ⟨a', g1, ?_⟩) ⟨tt, rfl, ?_⟩
            · exact (upd_ne (ne_of g2 hM6 fun z => nomatch z)).trans ((upd_ne (ne_of_none g2 ntt)).trans g2)
            · rw [upd_ne nt, upd_same, ← pw, ← pw0]
          · simp
            omega
    · rintro σ H2 ⟨y, ts, ms, i0, rfl, e2, hM, tr, lm, R⟩
      rw [show (((row.length : Nat) : Int)).toNat = row.length from Int.toNat_natCast _] at R
      have kp := R.kp
      rw [R.en rfl, List.take_length] at kp
      refine ⟨_, rfl, _, rfl, .inl ⟨M, ts, rfl, SqL.of hM, fun mt nmt => ⟨by show 2 ≤ sizeLine; decide, fun p np => ?_⟩⟩⟩
      have x9 := (same_new (o := .tup ts) nmt).trans (same_new (o := .tup [.int a, .ref mt]) np)
      refine q _ _ (e2.trans x9) (.cons ⟨p, mt, ts, rfl, ?_, same_new np _ _ upd_same, ?_⟩ .nil)
      · rw [upd_same, ea]
      · rw [ea, kp]
        exact tr.same x9
end
end K17
set_option Elab.async false
set_option linter.all false
set_option maxRecDepth 100001
set_option maxHeartbeats 3999999
namespace K17
open PySem L2
abbrev sOth : Stmt := topS 35
theorem OkM.mono {n n' k : Int} {ms : List Mv} (h : OkM n k ms) (e : n ≤ n') : OkM n' k ms := fun i t z => by
  obtain ⟨h1, h2, h3, h4⟩ := h i t z
  exact ⟨h1, h2, by omega, h4⟩
/-- one sign more -/
theorem kr_rows1 {H : Hp} {n : Nat} {Ls : List (List Int)} {us : List V} {k : Int} (kr : KrAt H us Ls) (hn : 1 ≤ n) (ok : ∀ L ∈ Ls, L.length = n ∧ ∀ x ∈ L, 0 ≤ x ∧ x ≤ k - 1) : RowsAt H (n + 1) k us (Ls.map fun L => L ++ [awayF L]) := by
  have key : ∀ {us : List V} {Ms : List (List Int)}, KrAt H us Ms → (∀ L ∈ Ms, L ∈ Ls) → RowsAt H (n + 1) k us (Ms.map fun L => L ++ [awayF L]) := by
    intro us Ms kr
    induction kr with
    | nil => exact fun _ => .nil
    | @cons v L vs Ms h t ih =>
      intro hm
      obtain ⟨r, u, ms, rfl, h1, h2, h3⟩ := h
      obtain ⟨l1, l2⟩ := ok L (hm L List.mem_cons_self)
      have ne : L ≠ [] := fun z => by rw [z] at l1; simp at l1; omega
      obtain ⟨k1, k2⟩ := kept_exp (L := L) (awayF L)
      obtain ⟨o1, _⟩ := k2 k l2
      have aw := l2 _ (awayF_of ne).1
      rw [l1] at o1 k1
      refine .cons ⟨awayF L, _, ⟨r, u, ms, rfl, h1, .inr h2, h3⟩, o1.mono (by omega), aw.1, aw.2, ?_⟩ (ih fun M m => hm M (List.mem_cons_of_mem _ m))
      have e := k1.2
      unfold expT at e ⊢
      rw [Nat.succ_sub k1.1, List.replicate_succ', ← List.append_assoc, e]
  exact key kr fun _ m => m
theorem OkMa.more {n : Nat} {Ls : List (List Int)} {st : Int} {ms : List Int} (O : OkMa n Ls st ms) (h : n + 1 ≤ 2000) : OkMa (n + 1) (Ls.map fun L => L ++ [awayF L]) st ms := by
  have n1 := O.n1
  refine ⟨by omega, h, by rw [List.length_map]; exact O.k1, by rw [List.length_map]; exact O.k2, fun L hL => ?_, O.s1, by rw [List.length_map]; exact O.s2, by rw [List.length_map]; exact O.mar, O.up⟩
  rw [List.length_map]
  obtain ⟨L0, h0, rfl⟩ := List.mem_map.mp hL
  obtain ⟨l1, l2⟩ := O.row L0 h0
  have ne : L0 ≠ [] := fun z => by rw [z] at l1; simp at l1; omega
  refine ⟨by rw [List.length_append, l1]; rfl, fun x hx => ?_⟩
  rcases List.mem_append.mp hx with h | h
  · exact l2 x h
  · rw [List.mem_singleton.mp h]
    exact l2 _ (awayF_of ne).1
theorem inV_ints (i : Int) : ∀ xs : List Int, inV (.int i) (xs.map V.int) = decide (i ∈ xs)
  | [] => by simp [inV]
  | x :: xs => by
    have ih := inV_ints i xs
    unfold inV at ih ⊢
    rw [List.map_cons, List.any_cons, ih]
    by_cases c : i = x
    · subst c
      simp [eqV]
    · have c2 : ¬ x = i := fun z => c z.symm
      simp [eqV, c, c2]
theorem flat_ints : ∀ xs : List Int, (xs.map V.int).all flatV = true
  | [] => rfl
  | x :: xs => by rw [List.map_cons, List.all_cons, flat_ints xs]; rfl
/-- another machine, not equal -/
def OthM (C : Addr) (H : Hp) (n : Nat) (Ls : List (List Int)) (st : Int) (ms : List Int) (v : V) : Prop := ∃ (q : Addr) (n2 : Nat) (Ls2 : List (List Int)) (st2 : Int) (ms2 : List Int), v = .ref q ∧ IsM C H q n2 Ls2 st2 ms2 ∧ OkMa n2 Ls2 st2 ms2 ∧ ¬ (n = n2 ∧ Ls = Ls2 ∧ st = st2 ∧ ms = ms2)
theorem OthM.same {C : Addr} {H H' : Hp} {n : Nat} {Ls : List (List Int)} {st : Int} {ms : List Int} {v : V} (h : OthM C H n Ls st ms v) (e : Same H H') : OthM C H' n Ls st ms v :=
  let ⟨q, n2, Ls2, st2, ms2, h1, h2, h3⟩ := h
  ⟨q, n2, Ls2, st2, ms2, h1, h2.same e, h3⟩
/-- a list of machines may be written -/
theorem IsM.put {C C' L q dx' : Addr} {fs : List (Str × V)} {qs : List V} {o : HO} {H : Hp} {p : Addr} {n : Nat} {Ls : List (List Int)} {st : Int} {ms : List Int} (M : IsM C H p n Ls st ms) (k1 : 1 ≤ Ls.length) (hL : H L = some (.lst (.ref q :: qs))) (hq : H q = some (.ins C' dx' fs)) : IsM C (upd H L o) p n Ls st ms := by
  obtain ⟨dx, tb, rw_, mk, kd, ts, us, h1, h2, h3, h4, h5, h6, h7⟩ := M
  have b : ButI L H (upd H L o) := fun b' o' nb z => (upd_ne nb).trans z
  have nt : ∀ xs, H L ≠ some (.tup xs) := fun xs z => by rw [hL] at z; cases z
  refine ⟨dx, tb, rw_, mk, kd, ts, us, b _ _ (ne_of h1 hL fun z => nomatch z) h1, b _ _ (fun z => ?_) h2, h3.at_ b nt, b _ _ (ne_of h4 hL fun z => nomatch z) h4, h5.at_ b nt, b _ _ (ne_of h6 hL fun z => nomatch z) h6, b _ _ (fun z => ?_) h7⟩
  · rw [z, hL] at h2
    cases h2
    cases h3 with
    | cons a t =>
      obtain ⟨a', rs, e1, e2, _⟩ := a
      cases e1
      rw [hq] at e2
      cases e2
  · rw [z, hL] at h7
    have e := kindsV_at (ms := ms) (show 0 < Ls.length from k1)
    rw [← HO.lst.inj (Option.some.inj h7)] at e
    cases e
theorem IsM.but {C : Addr} {H H' : Hp} {p pn cl : Addr} {b : Nat} {n : Nat} {Ls : List (List Int)} {st : Int} {ms : List Int} (M : IsM C H p n Ls st ms) (pen : Pen H pn cl b) (bt : But pn H H') : IsM C H' p n Ls st ms := by
  obtain ⟨dx, tb, rw_, mk, kd, ts, us, h1, h2, h3, h4, h5, h6, h7⟩ := M
  exact ⟨dx, tb, rw_, mk, kd, ts, us, bt _ _ (pen.ne h1 fun _ z => nomatch z) h1, bt _ _ (pen.ne h2 fun _ z => nomatch z) h2, h3.at_ bt pen.nt, bt _ _ (pen.ne h4 fun _ z => nomatch z) h4, h5.at_ bt pen.nt, bt _ _ (pen.ne h6 fun _ z => nomatch z) h6, bt _ _ (pen.ne h7 fun _ z => nomatch z) h7⟩
/-- the rows of a table, each sign w times -/
def wid (T : List (List Int)) (w : Nat) : List (List Int) := T.map fun L => widen L w
theorem wid_len (T : List (List Int)) (w : Nat) : (wid T w).length = T.length := List.length_map _
theorem wid_row {s w : Nat} {T : List (List Int)} {k : Nat} (h : OkT s T k) : ∀ L ∈ wid T w, L.length = s * w ∧ ∀ x ∈ L, 0 ≤ x ∧ x ≤ (k : Int) - 1 := fun L hL => by
  obtain ⟨R, hR, rfl⟩ := List.mem_map.mp hL
  obtain ⟨h1, h2⟩ := h R hR
  exact ⟨by rw [widen_len, h1], fun x hx => h2 x (widen_mem hx)⟩
theorem step_ne {st : Int} {k : Nat} (h0 : 0 ≤ st) (h1 : st ≤ (k : Int) - 1) (h2 : 1 < k) : 0 ≤ (st + 1) % (k : Int) ∧ (st + 1) % (k : Int) ≤ (k : Int) - 1 ∧ st ≠ (st + 1) % (k : Int) := by
  by_cases c : st + 1 < (k : Int)
  · rw [Int.emod_eq_of_lt (by omega) c]
    omega
  · rw [show st + 1 = (k : Int) by omega, Int.emod_self]
    omega
theorem cutA {T : Addr → Hp → Prop} {G : Prop} (C : Addr → Hp → Prop) (main : (∀ a H, C a H → T a H) → G) (els : ∀ a H, C a H → T a H) : G := main els
theorem asc_len : ∀ {ms : List Int} {lo k : Int}, (∀ m ∈ ms, lo ≤ m ∧ m ≤ k - 1) → ms.Pairwise (· < ·) → lo ≤ k → lo + (ms.length : Nat) ≤ k
  | [], lo, k, _, _, h => by simpa using h
  | m :: r, lo, k, h, p, _ => by
    obtain ⟨p1, p2⟩ := List.pairwise_cons.mp p
    have hm := h m List.mem_cons_self
    have := asc_len (lo := m + 1) (k := k) (fun x hx => ⟨by have := p1 x hx; omega, (h x (List.mem_cons_of_mem _ hx)).2⟩) p2 (by omega)
    rw [List.length_cons]
    omega
theorem OkMa.mlen {n : Nat} {Ls : List (List Int)} {st : Int} {ms : List Int} (O : OkMa n Ls st ms) : ms.length ≤ Ls.length := by
  have := asc_len (k := (Ls.length : Int)) O.mar O.up (by omega)
  omega
/-- what comes of Machine(..), in a term -/
theorem mk_ok2 {C : Addr} {H : Hp} {r mk : Addr} {n : Nat} {st : Int} {rvs : List V} {Ls : List (List Int)} {ms : List Int} {R : Addr → Hp → Prop} {E : XK} (hr : LT H r rvs) (rows : RowsAt H n (Ls.length : Int) rvs Ls) (hm : LT H mk (ms.map V.int)) (O : OkMa n Ls st ms)
    (q : ∀ x H', H x = none → Same H H' → IsM C H' x n Ls st ms → R x H') : ∀ x dx, H x = none → H dx = none → dx ≠ x → spInit C [.ref x, .int (n : Nat), .ref r, .int st, .ref mk] (upd (upd H dx (.own x)) x (.ins C dx [])) (fun v H2 => v = .non ∧ R x H2) E := by
  intro x dx nx ndx ne
  have nx2 : upd H dx (.own x) x = none := (upd_ne (Ne.symm ne)).trans nx
  have e : Same H (upd (upd H dx (.own x)) x (.ins C dx [])) := (same_new ndx).trans (same_new nx2)
  exact ⟨x, dx, r, mk, n, st, rvs, Ls, ms, rfl, upd_same, hr.same e, rows.same e, hm.same e, O, fun H' b M => ⟨rfl, q x H' nx (fun b' o' z => b _ _ (ne_of_none z nx) (e _ _ z)) M⟩⟩
/-- the marks with the first state's turned about -/
def flipM (ms : List Int) : List Int := if (0 : Int) ∈ ms then ms.drop 1 else 0 :: ms
theorem OkMa.flip {n : Nat} {Ls : List (List Int)} {st : Int} {ms : List Int} (O : OkMa n Ls st ms) : OkMa n Ls st (flipM ms) ∧ ms ≠ flipM ms := by
  have k1 := O.k1
  unfold flipM
  by_cases c : (0 : Int) ∈ ms
  · rw [if_pos c]
    refine ⟨⟨O.n1, O.n2, O.k1, O.k2, O.row, O.s1, O.s2, fun m hm => O.mar m (List.mem_of_mem_drop hm), O.up.sublist (List.drop_sublist _ _)⟩, fun z => ?_⟩
    have := congrArg List.length z
    rw [List.length_drop] at this
    have := List.length_pos_of_mem c
    omega
  · rw [if_neg c]
    refine ⟨⟨O.n1, O.n2, O.k1, O.k2, O.row, O.s1, O.s2, fun m hm => ?_, List.pairwise_cons.mpr ⟨fun m hm => ?_, O.up⟩⟩, fun z => ?_⟩
    · rcases List.mem_cons.mp hm with rfl | h
      · omega
      · exact O.mar m h
    · have := (O.mar m hm).1
      have ne : m ≠ 0 := fun z => c (z ▸ hm)
      omega
    · have := congrArg List.length z
      rw [List.length_cons] at this
      omega
theorem flip_in {ms : List Int} (c : (0 : Int) ∈ ms) : cutV (ms.map V.int) (some 1) none = (flipM ms).map V.int := by
  have := List.length_pos_of_mem c
  have e : cutV (ms.map V.int) (some ((1 : Nat) : Int)) none = (ms.map V.int).drop 1 := cut_from (by rw [List.length_map]; omega)
  unfold flipM
  rw [if_pos c]
  refine Eq.trans e ?_
  rw [List.map_drop]
theorem cut_no1 {α : Type} {xs : List α} (h : 1 ≤ xs.length) : ¬ (HT.sIx xs.length 0 (some 1) = 0 ∧ HT.sIx xs.length xs.length none = xs.length) := fun z => by
  have e : HT.sIx xs.length 0 (some ((1 : Nat) : Int)) = min 1 xs.length := HT.sIx_nat _ _ _
  have z1 : HT.sIx xs.length 0 (some ((1 : Nat) : Int)) = 0 := z.1
  omega
/-- a list of machines that are not equal -/
structure GoodL (C : Addr) (n : Nat) (Ls : List (List Int)) (st : Int) (ms : List Int) (L : Addr) (H : Hp) (qs : List V) : Prop where
  at_ : H L = some (.lst qs)
  all : ∀ v ∈ qs, OthM C H n Ls st ms v
  hd : ∃ (q0 dx : Addr) (rest : List V) (fs : List (Str × V)), qs = .ref q0 :: rest ∧ H q0 = some (.ins C dx fs)
theorem GoodL.same {C : Addr} {n : Nat} {Ls : List (List Int)} {st : Int} {ms : List Int} {L : Addr} {H H' : Hp} {qs : List V} (g : GoodL C n Ls st ms L H qs) (e : Same H H') : GoodL C n Ls st ms L H' qs :=
  ⟨e _ _ g.at_, fun v hv => (g.all v hv).same e, let ⟨q0, dx, rest, fs, h1, h2⟩ := g.hd; ⟨q0, dx, rest, fs, h1, e _ _ h2⟩⟩
theorem GoodL.one {C : Addr} {n : Nat} {Ls : List (List Int)} {st : Int} {ms : List Int} {L x : Addr} {H : Hp} (nL : H L = none) (o : OthM C H n Ls st ms (.ref x)) : GoodL C n Ls st ms L (upd H L (.lst [.ref x])) [.ref x] := by
  have e := same_new (o := .lst [.ref x]) nL
  refine ⟨upd_same, fun v hv => ?_, ?_⟩
  · rw [List.mem_singleton.mp hv]
    exact o.same e
  · obtain ⟨q, n2, Ls2, st2, ms2, h1, ⟨dx, _, _, _, _, _, _, h2, _⟩, _⟩ := o
    cases h1
    exact ⟨x, dx, [], _, rfl, e _ _ h2⟩
theorem GoodL.app {C : Addr} {n : Nat} {Ls : List (List Int)} {st : Int} {ms : List Int} {L x : Addr} {H : Hp} {qs : List V} (g : GoodL C n Ls st ms L H qs) (o : OthM C H n Ls st ms (.ref x)) : GoodL C n Ls st ms L (upd H L (.lst (qs ++ [.ref x]))) (qs ++ [.ref x]) := by
  obtain ⟨h1, h2, q0, dx, rest, fs, rfl, h3⟩ := g
  have key : ∀ v, OthM C H n Ls st ms v → OthM C (upd H L (.lst (V.ref q0 :: rest ++ [.ref x]))) n Ls st ms v := fun v ⟨q, n2, Ls2, st2, ms2, a1, a2, a3, a4⟩ => ⟨q, n2, Ls2, st2, ms2, a1, a2.put a3.k1 h1 h3, a3, a4⟩
  refine ⟨upd_same, fun v hv => ?_, q0, dx, rest ++ [.ref x], fs, rfl, (upd_ne (ne_of h3 h1 fun z => nomatch z)).trans h3⟩
  rcases List.mem_append.mp hv with h | h
  · exact key v (h2 v h)
  · rw [List.mem_singleton.mp h]
    exact key _ o
abbrev NOt : List Str := ["_law_machine", "_law_table_here", "_law_wide", "_law_signs", "_law_many", "_law_rows", "_law_flipped", "_law_found", "_law_changed"]
section
variable {P : Program} {w : World} {K : PySem.W.Frag} {mg : Str → Option Value} {base : Heap}
def spOth (C : Addr) : Sp := fun vs H Q _ => ∃ (p tb : Addr) (s w : Nat) (T : List (List Int)) (st : Int) (ms : List Int) (ts : List V), vs = [.ref p, .ref tb, .int (w : Nat)] ∧ IsM C H p (s * w) (wid T w) st ms ∧ OkMa (s * w) (wid T w) st ms ∧ H tb = some (.lst ts) ∧ TabAt H ts T ∧ OkT s T T.length ∧ 1 ≤ s ∧ s ≤ 8 ∧ T.length ≤ 5 ∧ 1 ≤ w ∧ w ≤ 250 ∧
  ∀ l H' qs, H l = none → Same H H' → H' l = some (.lst qs) → (∀ v ∈ qs, OthM C H' (s * w) (wid T w) st ms v) → qs.length ≤ 4 → Q (.ref l) H'
theorem scOth : FnScope NOt ["_law_machine", "_law_table_here", "_law_wide"] (defScope sOth) := ⟨rfl, rfl, rfl, by decide +kernel, rfl, by decide +kernel, by decide +kernel⟩
theorem ok_oth {f C : Addr} {fd : FuncData} (F : Fun K "_law_others" "_law_others" sOth f fd) (B : Bi mg) (T : Txt K C) (mkC : Mak CX0 P w K mg base 4 "Machine" C (spInit C)) (cK : Cal CX0 P w K mg base 1 "_law_kept" spKept) : FnOk P w K mg base CX0 6 f fd ["_law_machine", "_law_table_here", "_law_wide"] (spOth C) := by
  refine F.ok scOth (fun vs H Q E h => ?_) (fun cdv A outer s H vs Q E hr h => ?_)
  · obtain ⟨p, tb, s, w, T, st, ms, ts, rfl, _⟩ := h
    rfl
  · obtain ⟨p, tb, sg, wd, Tb, st, ms, ts, rfl, M, O, htb, tab, okT, s1, s8, k5, w1, w2, q⟩ := h
    refine ⟨_, pss_cons (ps_par3 (i := 3) (j := 4) (l := 5) rfl scOth.nd rfl rfl rfl (by decide) (by decide) (by decide) rfl rfl rfl (pa_cons (pe_fld (pv 0) rfl) (pa_cons (pe_len B.len (pa_cons (pv 1) pa_nil)) (pa_cons (pe_fld (pv 0) rfl) pa_nil))) rfl)
      (pss_cons (ps_set (i := 6) scOth.nd rfl (Or.inl rfl) (pe_ifExp (pt_cmpR op_in_seq pe_int (pe_fld (pv 0) rfl) rfl) (pe_slice sl_tup (pe_fld (pv 0) rfl) (po_some pe_int) po_none) (pe_op op_catA (pe_tup (pa_cons pe_int pa_nil)) (pe_fld (pv 0) rfl))))
      (pss_cons (ps_set (i := 7) scOth.nd rfl (Or.inl rfl) (pe_lst (pa_cons (pe_mk mkC hr pass0 (pa_cons (pv 3) (pa_cons (pv 5) (pa_cons (pe_fld (pv 0) rfl) (pa_cons (pv 6) pa_nil))))) pa_nil)))
      (pss_cons (ps_if (pt_cmpR op_lt (pv 3) pe_int (nomark _)) (pss_one (ps_expr (pe_bm PySem.F.plainAttrs_list PySem.F.slot_list_append PySem.F.type_list_append mt_append (pv 7) (pa_cons (pe_mk mkC hr pass0 (pa_cons (pe_op op_add (pv 3) pe_int) (pa_cons (pv 5) (pa_cons (pe_fld (pv 0) rfl) (pa_cons (pe_fld (pv 0) rfl) pa_nil))))) pa_nil)))) pss_nil)
      (pss_cons (ps_if (pt_cmpR op_gt (pv 4) pe_int (nomark _))
        (pss_cons (ps_set (i := 8) scOth.nd rfl (Or.inl rfl) (pe_c cK hr pass0 (pa_cons (pe_op op_cat (pe_lst (pa_cons (pe_op op_mod (pe_int1 B.int (pa_cons (pe_op op_add (pe_ix ix_list (pe_ix ix_list (pv 1) pe_int (fun _ _ => rfl)) pe_int (fun _ _ => rfl)) pe_int) pa_nil)) (pv 4)) pa_nil)) (pe_slice sl_list (pe_ix ix_list (pv 1) pe_int (fun _ _ => rfl)) (po_some pe_int) po_none)) (pa_cons (pv 2) pa_nil))))
        (pss_cons (ps_expr (pe_bm PySem.F.plainAttrs_list PySem.F.slot_list_append PySem.F.type_list_append mt_append (pv 7) (pa_cons (pe_mk mkC hr pass0 (pa_cons (pv 3) (pa_cons (pv 5) (pa_cons (pe_op op_mod (pe_int1 B.int (pa_cons (pe_op op_add (pe_fld (pv 0) rfl) pe_int) pa_nil)) (pv 4)) (pa_cons (pe_fld (pv 0) rfl) pa_nil))))) pa_nil)))
        (pss_one (ps_expr (pe_bm PySem.F.plainAttrs_list PySem.F.slot_list_append PySem.F.type_list_append mt_append (pv 7) (pa_cons (pe_mk mkC hr pass0 (pa_cons (pv 3) (pa_cons (pe_op op_catT (pe_tup (pa_cons (pv 8) pa_nil)) (pe_slice sl_tup (pv 5) (po_some pe_int) po_none)) (pa_cons (pe_fld (pv 0) rfl) (pa_cons (pe_fld (pv 0) rfl) pa_nil))))) pa_nil)))))) pss_nil)
      (pss_one (ps_ret (pv 7))))))), ?_⟩
    have n1 := O.n1
    have n2 := O.n2
    have k1 := O.k1
    have k2 := O.k2
    have lW : (wid Tb wd).length = Tb.length := wid_len _ _
    obtain ⟨dx, tb2, rw_, mk, kd, ts2, us, h1, h2, h3, h4, h5, h6, h7⟩ := id M
    have lts : ts.length = Tb.length := Paired.length tab
    have rows := kr_rows h5 n1 O.row
    refine ⟨_, rfl, p, C, dx, _, _, rfl, h1, T.cl, T.nS, mf_signs _ _ _ _ _ _, _, rfl, tb, ts, rfl, .inl (SqL.of htb), _, rfl, p, C, dx, _, _, rfl, h1, T.cl, T.nR, mf_rows _ _ _ _ _ _, ?_⟩
    refine ⟨_, _, _, rfl, ?_⟩
    refine ⟨_, rfl, p, C, dx, _, _, rfl, h1, T.cl, T.nM, mf_marks _ _ _ _ _ _, mk, _, rfl, .inr (SqT.of h6), rfl, flat_ints _, _, rfl, ?_⟩
    obtain ⟨O2, neF⟩ := O.flip
    apply cutA (fun fl Hx => Same H Hx ∧ LT Hx fl ((flipM ms).map V.int))
    · intro els
      rw [show (if false = true then !inV (V.int 0) (List.map V.int ms) else inV (V.int 0) (List.map V.int ms)) = decide ((0 : Int) ∈ ms) from inV_ints 0 ms]
      by_cases c : (0 : Int) ∈ ms
      · rw [decide_eq_true c]
        have pos := List.length_pos_of_mem c
        refine iteT ⟨_, rfl, p, C, dx, _, _, rfl, h1, T.cl, T.nM, mf_marks _ _ _ _ _ _, (1 : Int), rfl, mk, _, rfl, SqT.of h6, cut_no1 (by rw [List.length_map]; exact pos), fun fl nf => ?_⟩
        rw [flip_in c]
        have eX := same_new (o := .tup ((flipM ms).map V.int)) nf
        have hf : upd H fl (.tup ((flipM ms).map V.int)) fl = some (.tup ((flipM ms).map V.int)) := upd_same
        generalize upd H fl (.tup ((flipM ms).map V.int)) = Hx at eX hf ⊢
        exact els fl Hx ⟨eX, .inr hf⟩
      · rw [decide_eq_false c]
        refine iteF ⟨by show 1 ≤ sizeLine; decide, fun t0 nt => ?_⟩
        have e0 := same_new (o := .tup [V.int 0]) nt
        have ht : upd H t0 (.tup [V.int 0]) t0 = some (.tup [V.int 0]) := upd_same
        generalize upd H t0 (.tup [V.int 0]) = H0 at e0 ht ⊢
        have ef : (flipM ms).map V.int = [V.int 0] ++ ms.map V.int := by
          unfold flipM
          rw [if_neg c]
          rfl
        refine ⟨_, rfl, p, C, dx, _, _, rfl, e0 _ _ h1, T.cl, T.nM, mf_marks _ _ _ _ _ _, t0, mk, _, _, rfl, rfl, SqT.of ht, SqT.of (e0 _ _ h6), ?_, fun z => (by cases z), fun _ z => ?_, fun _ _ fl nf => ?_⟩
        · have lm := O.mlen
          rw [List.length_map]
          exact Nat.le_of_lt (small10 (n := [V.int 0].length + ms.length) (by show 1 + ms.length ≤ _; omega))
        · exact els t0 H0 ⟨e0, .inr (by rw [ef, z]; exact ht)⟩
        · rw [← ef]
          have eX := e0.trans (same_new (o := .tup ((flipM ms).map V.int)) nf)
          have hf : upd H0 fl (.tup ((flipM ms).map V.int)) fl = some (.tup ((flipM ms).map V.int)) := upd_same
          generalize upd H0 fl (.tup ((flipM ms).map V.int)) = Hx at eX hf ⊢
          exact els fl Hx ⟨eX, .inr hf⟩
    · rintro fl Hx ⟨eX, hfl⟩
      have h1X := eX _ _ h1
      have h4X := eX _ _ h4
      have h5X := h5.same eX
      have h6X := eX _ _ h6
      have htbX := eX _ _ htb
      have tabX := tab.same eX
      have rX : ∀ {Hy : Hp}, Same Hx Hy → RowsAt Hy (sg * wd) ((wid Tb wd).length : Int) us (wid Tb wd) := fun e => kr_rows (h5X.same e) n1 O.row
      refine ⟨_, rfl, _, rfl, _, rfl, p, C, dx, _, _, rfl, h1X, T.cl, T.nA, mf_start _ _ _ _ _ _, _, rfl, ?_⟩
      refine mk_ok2 (.inr h4X) (rX (Same.refl Hx)) hfl O2 fun x Hy nx eY My => ?_
      refine ⟨by show 1 ≤ sizeLine; decide, fun L nL => ?_⟩
      have g1 : GoodL C (sg * wd) (wid Tb wd) st ms L (upd Hy L (.lst [.ref x])) [.ref x] := GoodL.one nL ⟨x, _, _, _, _, rfl, My, O2, fun z => neF z.2.2.2⟩
      have eL : Same Hx (upd Hy L (.lst [.ref x])) := eY.trans (same_new nL)
      have nL0 : Hx L = none := eY.free nL
      generalize upd Hy L (.lst [.ref x]) = Ha at g1 eL ⊢
      refine ⟨_, rfl, _, _, rfl, rfl, _, rfl, ?_⟩
      apply cut1 (fun Hb => ∃ qs, But L Hx Hb ∧ GoodL C (sg * wd) (wid Tb wd) st ms L Hb qs ∧ qs.length ≤ 2)
      · intro els
        by_cases c : ((sg * wd : Nat) : Int) < 2000
        · rw [decide_eq_true c]
          have h1a := eL _ _ h1X
          refine iteT ⟨_, rfl, .inl ⟨rfl, _, SqL.of g1.at_⟩, _, rfl, _, _, rfl, rfl, _, rfl, _, rfl, p, C, dx, _, _, rfl, h1a, T.cl, T.nA, mf_start _ _ _ _ _ _, _, rfl, p, C, dx, _, _, rfl, h1a, T.cl, T.nM, mf_marks _ _ _ _ _ _, ?_⟩
          refine mk_ok2 (.inr (eL _ _ h4X)) (n := sg * wd + 1) (Ls := (wid Tb wd).map fun R => R ++ [awayF R]) (by rw [List.length_map]; exact kr_rows1 (h5X.same eL) n1 O.row) (.inr (eL _ _ h6X)) (O.more (by omega)) fun x2 Hz nz ez Mz => ?_
          have g3 := g1.same ez
          have g4 := g3.app (x := x2) ⟨x2, _, _, _, _, rfl, Mz, O.more (by omega), fun z => by have := z.1; omega⟩
          refine ⟨L, _, _, rfl, rfl, g3.at_, by show 1 < sizeLine; decide, ?_⟩
          have bz : But L Hx (upd Hz L (.lst ([V.ref x] ++ [V.ref x2]))) := fun b' o' nb z => (upd_ne nb).trans (ez _ _ (eL _ _ z))
          generalize upd Hz L (.lst ([V.ref x] ++ [V.ref x2])) = Hb at g4 bz ⊢
          exact els Hb ⟨_, bz, g4, Nat.le_refl _⟩
        · rw [decide_eq_false c]
          refine iteF ?_
          exact els Ha ⟨_, same_but eL, g1, Nat.le_succ _⟩
      · rintro Hb ⟨qs, eb, g2, lq⟩
        have hL0 : H L = none := eX.free nL0
        have ebH : ∀ {b' : Addr} {o' : HO}, H b' = some o' → Hb b' = some o' := fun z => eb _ _ (ne_of_none z hL0) (eX _ _ z)
        have eHb : Same H Hb := fun _ _ z => ebH z
        clear eb g1 eL nL0 nL My eY nx h1X h4X h5X h6X htbX tabX rX eX hfl
        refine ⟨_, rfl, _, _, rfl, rfl, _, rfl, ?_⟩
        by_cases c : (1 : Int) < ((ts.length : Nat) : Int)
        · rw [decide_eq_true c]
          have c2 : 1 < Tb.length := by omega
          obtain ⟨R0, rest, eT⟩ : ∃ R0 rest, Tb = R0 :: rest := by
            cases Tb with
            | nil => exact absurd c2 (by decide)
            | cons a b => exact ⟨a, b, rfl⟩
          obtain ⟨lR, okR⟩ := okT R0 (by rw [eT]; exact List.mem_cons_self)
          obtain ⟨x0, xs0, eR⟩ : ∃ x0 xs0, R0 = x0 :: xs0 := by
            cases R0 with
            | nil => exact absurd (lR ▸ s1 : 1 ≤ ([] : List Int).length) (by decide)
            | cons a b => exact ⟨a, b, rfl⟩
          obtain ⟨v0, hv0, r0, rfl, hr0⟩ := paired_to tab (i := 0) (p := R0) (by rw [eT]; rfl)
          have htbb := ebH htb
          have hr0b := ebH hr0
          refine iteT ⟨_, rfl, tb, ts, _, _, rfl, rfl, SqL.of htbb, atI_nat hv0, r0, _, _, .int x0, rfl, rfl, SqL.of hr0b, atI_nat (j := 0) (v := V.int x0) (by rw [eR]; rfl), _, _, rfl, rfl, .inl ⟨_, rfl, _, rfl, _, _, rfl, rfl, (by show (0 : Int) < _; omega), by show 1 ≤ sizeLine; decide, fun D nD => ?_⟩⟩
          have ed : Same Hb (upd Hb D (.lst [V.int ((x0 + 1) % ((ts.length : Nat) : Int))])) := same_new nD
          have hD : upd Hb D (.lst [V.int ((x0 + 1) % ((ts.length : Nat) : Int))]) D = some (.lst [V.int ((x0 + 1) % ((ts.length : Nat) : Int))]) := upd_same
          generalize upd Hb D (.lst [V.int ((x0 + 1) % ((ts.length : Nat) : Int))]) = Hd at ed hD ⊢
          refine ⟨_, rfl, tb, ts, _, _, rfl, rfl, SqL.of (ed _ _ htbb), atI_nat hv0, (1 : Int), rfl, r0, _, rfl, SqL.of (ed _ _ hr0b), fun D2 nD2 => ?_⟩
          have cut : cutV (R0.map V.int) (some 1) none = xs0.map V.int := by
            have e : cutV (R0.map V.int) (some ((1 : Nat) : Int)) none = (R0.map V.int).drop 1 := cut_from (by rw [List.length_map]; omega)
            refine Eq.trans e ?_
            rw [eR]
            rfl
          rw [cut]
          have ed2 : Same Hd (upd Hd D2 (.lst (xs0.map V.int))) := same_new nD2
          have hD2 : upd Hd D2 (.lst (xs0.map V.int)) D2 = some (.lst (xs0.map V.int)) := upd_same
          have hD1 := ed2 _ _ hD
          have ebd := ed.trans ed2
          generalize upd Hd D2 (.lst (xs0.map V.int)) = He at ed2 hD2 hD1 ebd ⊢
          have lx : xs0.length + 1 = sg := by rw [← lR, eR]; rfl
          refine ⟨D, D2, _, _, rfl, rfl, hD1, hD2, Nat.le_of_lt (small10 (by show 1 + (xs0.map V.int).length ≤ _; rw [List.length_map]; omega)), fun D3 nD3 => ?_⟩
          generalize ey0 : (x0 + 1) % ((ts.length : Nat) : Int) = y0 at hD1 hD ⊢
          obtain ⟨x0a, x0b⟩ := okR x0 (by rw [eR]; exact List.mem_cons_self)
          obtain ⟨y1, y2, y3⟩ := step_ne (k := Tb.length) x0a x0b c2
          rw [← lts, ey0] at y1 y2 y3
          have ed3 : Same He (upd He D3 (.lst ([V.int y0] ++ xs0.map V.int))) := same_new nD3
          have hD3 : upd He D3 (.lst ([V.int y0] ++ xs0.map V.int)) D3 = some (.lst ((y0 :: xs0).map V.int)) := upd_same
          have ebd3 := ebd.trans ed3
          generalize upd He D3 (.lst ([V.int y0] ++ xs0.map V.int)) = Hf at ed3 hD3 ebd3 ⊢
          refine ⟨_, rfl, D3, wd, y0 :: xs0, rfl, hD3, by show 1 ≤ xs0.length + 1; omega, by show xs0.length + 1 ≤ 8; omega, w1, w2, fun v Hg eg krv => ?_⟩
          have ebg := ebd3.trans eg
          have eHg := eHb.trans ebg
          have g3 := g2.same ebg
          clear ed hD hD2 hD1 ed2 ebd ed3 hD3 ebd3 eg nD nD2 nD3
          obtain ⟨u1, u2, u3⟩ := step_ne (k := Tb.length) O.s1 (by rw [← lW]; exact O.s2) c2
          refine ⟨_, rfl, .inl ⟨rfl, _, SqL.of g3.at_⟩, _, rfl, _, rfl, _, rfl, p, C, dx, _, _, rfl, eHg _ _ h1, T.cl, T.nA, mf_start _ _ _ _ _ _, _, _, rfl, rfl, .inl ⟨_, rfl, _, rfl, _, _, rfl, rfl, (by show (0 : Int) < _; omega), _, rfl, p, C, dx, _, _, rfl, eHg _ _ h1, T.cl, T.nM, mf_marks _ _ _ _ _ _, ?_⟩⟩
          rw [← lts] at u1 u2 u3
          have O3 : OkMa (sg * wd) (wid Tb wd) ((st + 1) % ((ts.length : Nat) : Int)) ms := ⟨n1, n2, k1, k2, O.row, u1, by rw [lW, ← lts]; exact u2, O.mar, O.up⟩
          refine mk_ok2 (.inr (eHg _ _ h4)) (kr_rows (h5.same eHg) n1 O.row) (.inr (eHg _ _ h6)) O3 fun x3 Hz nz ez Mz => ?_
          have g4 := g3.same ez
          have g5 := g4.app (x := x3) ⟨x3, _, _, _, _, rfl, Mz, O3, fun z => u3 z.2.2.1⟩
          have hLz := g4.at_
          refine ⟨L, _, _, rfl, rfl, hLz, small10 (by omega), ?_⟩
          have eHh : Same H (upd Hz L (.lst (qs ++ [V.ref x3]))) := fun b' o' z => (upd_ne (ne_of_none z hL0)).trans (ez _ _ (eHg _ _ z))
          have krh : KrAt (upd Hz L (.lst (qs ++ [V.ref x3]))) [v] [widen (y0 :: xs0) wd] := (krv.same ez).at_ (p := L) (fun b' o' nb z => (upd_ne nb).trans z) fun xs z => by rw [hLz] at z; cases z
          generalize upd Hz L (.lst (qs ++ [V.ref x3])) = Hh at g5 eHh krh ⊢
          clear g4 hLz g3 ez nz Mz krv eHg ebg
          have eW : wid Tb wd = widen R0 wd :: wid rest wd := by rw [eT]; rfl
          obtain ⟨u0, us', eu, kru⟩ : ∃ u0 us', us = u0 :: us' ∧ KrAt H us' (wid rest wd) := by
            have z : KrAt H us (widen R0 wd :: wid rest wd) := by rw [← eW]; exact h5
            cases z with
            | cons a b => exact ⟨_, _, rfl, b⟩
          have lus : us.length = Tb.length := (Paired.length h5).trans lW
          have lu' : us'.length + 1 = Tb.length := by rw [← lus, eu]; rfl
          have cutu : cutV us (some 1) none = us' := by
            have e : cutV us (some ((1 : Nat) : Int)) none = us.drop 1 := cut_from (by omega)
            refine Eq.trans e ?_
            rw [eu]
            rfl
          have ne' : us' ≠ [] := fun z => by rw [z] at lu'; simp at lu'; omega
          refine ⟨_, rfl, .inl ⟨rfl, _, SqL.of g5.at_⟩, _, rfl, _, rfl, by show 1 ≤ sizeLine; decide, fun t1 nt1 => ?_⟩
          have e1 : Same Hh (upd Hh t1 (.tup [v])) := same_new nt1
          have ht1 : upd Hh t1 (.tup [v]) t1 = some (.tup [v]) := upd_same
          generalize upd Hh t1 (.tup [v]) = Hi at e1 ht1 ⊢
          refine ⟨_, rfl, (1 : Int), rfl, rw_, us, rfl, SqT.of (e1 _ _ (eHh _ _ h4)), cut_no1 (by omega), fun t2 nt2 => ?_⟩
          rw [cutu]
          have e2 : Same Hi (upd Hi t2 (.tup us')) := same_new nt2
          have ht2 : upd Hi t2 (.tup us') t2 = some (.tup us') := upd_same
          have ht1b := e2 _ _ ht1
          generalize upd Hi t2 (.tup us') = Hj at e2 ht2 ht1b ⊢
          refine ⟨t1, t2, _, _, rfl, rfl, SqT.of ht1b, SqT.of ht2, (fun z => by cases z), Nat.le_of_lt (small10 (by show 1 + us'.length ≤ _; omega)), fun z => absurd z ne', fun _ t3 nt3 => ?_⟩
          have e3 : Same Hj (upd Hj t3 (.tup ([v] ++ us'))) := same_new nt3
          have ht3 : upd Hj t3 (.tup ([v] ++ us')) t3 = some (.tup (v :: us')) := upd_same
          generalize upd Hj t3 (.tup ([v] ++ us')) = Hk at e3 ht3 ⊢
          have ehk := e1.trans (e2.trans e3)
          have eHk := eHh.trans ehk
          refine ⟨_, rfl, p, C, dx, _, _, rfl, eHk _ _ h1, T.cl, T.nA, mf_start _ _ _ _ _ _, _, rfl, p, C, dx, _, _, rfl, eHk _ _ h1, T.cl, T.nM, mf_marks _ _ _ _ _ _, ?_⟩
          have kr4 : KrAt Hk (v :: us') (widen (y0 :: xs0) wd :: wid rest wd) := by
            cases krh.same ehk with
            | cons a b => exact .cons a (kru.same eHk)
          have l4 : (widen (y0 :: xs0) wd :: wid rest wd).length = (wid Tb wd).length := by rw [eW]; rfl
          have O4 : OkMa (sg * wd) (widen (y0 :: xs0) wd :: wid rest wd) st ms := by
            refine ⟨n1, n2, by rw [l4]; exact k1, by rw [l4]; exact k2, fun Lq hq => ?_, O.s1, by rw [l4]; exact O.s2, by rw [l4]; exact O.mar, O.up⟩
            rw [l4]
            rcases List.mem_cons.mp hq with rfl | hq
            · refine ⟨by rw [widen_len]; show (xs0.length + 1) * wd = _; rw [lx], fun x hx => ?_⟩
              rcases List.mem_cons.mp (widen_mem hx) with rfl | hx
              · omega
              · have := okR x (by rw [eR]; exact List.mem_cons_of_mem _ hx)
                omega
            · exact O.row Lq (by rw [eW]; exact List.mem_cons_of_mem _ hq)
          refine mk_ok2 (.inr ht3) (kr_rows kr4 n1 O4.row) (.inr (eHk _ _ h6)) O4 fun x4 Hz nz ez Mz => ?_
          have g6 := (g5.same ehk).same ez
          have g7 := g6.app (x := x4) ⟨x4, _, _, _, _, rfl, Mz, O4, fun z => ?_⟩
          · have hLz := g6.at_
            refine ⟨L, _, _, rfl, rfl, hLz, small10 (by rw [List.length_append]; show _ + 1 ≤ _; omega), ?_⟩
            have eHl : Same H (upd Hz L (.lst (qs ++ [V.ref x3] ++ [V.ref x4]))) := fun b' o' z => (upd_ne (ne_of_none z hL0)).trans (ez _ _ (eHk _ _ z))
            exact ⟨_, rfl, q L _ _ hL0 eHl g7.at_ g7.all (by simp; omega)⟩
          · have z1 := z.2.1
            rw [eW] at z1
            have z2 := widen_inj w1 (List.cons.inj z1).1
            rw [eR] at z2
            exact y3 (List.cons.inj z2).1
        · rw [decide_eq_false c]
          exact iteF ⟨_, rfl, q L Hb qs hL0 eHb g2.at_ g2.all (by omega)⟩
end
end K17
set_option Elab.async false
set_option linter.all false
set_option maxRecDepth 100001
set_option maxHeartbeats 3999999
set_option synthInstance.maxHeartbeats 400000
set_option synthInstance.maxSize 4000
namespace K17
open PySem L2
abbrev sWlk : Stmt := topS 36
section
variable {X : Cx} (K : PySem.W.Frag)
theorem pe_lenK (hK : X.K = K) {a : Expr} {es : List Expr} {t : TA} {p pos : Pos} (hm : X.mg "len" = none) (ha : PA X (a :: es) t) (hg : Gl X "len" := by rfl) (he : starEach (a :: es) X.env = (false, eval a X.env) :: starEach es X.env := by rfl)
    (hpl : (backTo pos (starEach es X.env)).any (·.1) = false := by rfl) :
    PE X (.Call (.Name "len" p) (a :: es) [] pos) (tCB (fun xs H Q => ∃ p ys, xs = [.ref p] ∧ (SqL K H p ys ∨ SqT K H p ys) ∧ Q (.int ys.length) H) t) := by
  subst hK
  exact pe_len hm ha hg he hpl
end
theorem not_mem {k : Nat} {ms : List Int} {h : Int} (h1 : 0 ≤ h) (h2 : h ≤ (k : Int) - 1) : decide (h ∈ notM k ms) = !decide (h ∈ ms) := by
  have e : h ∈ notM k ms ↔ ¬ h ∈ ms := by
    unfold notM
    rw [selM_mem]
    constructor
    · rintro ⟨i, rfl, _, z⟩
      simpa using z
    · intro z
      obtain ⟨i, rfl⟩ := Int.eq_ofNat_of_zero_le h1
      exact ⟨i, rfl, by omega, by simpa using z⟩
  by_cases c : h ∈ ms
  · simp [e, c]
  · simp [e, c]
abbrev NWk : List Str := ["_law_pen_here", "_law_machine", "_law_table_here", "_law_wide", "_law_state", "_law_row", "_law_begun", "_law_here", "_law_places", "_law_place", "_law_k"]
section
variable {P : Program} {w : World} {K : PySem.W.Frag} {mg : Str → Option Value} {base : Heap}
def spWlk (C : Addr) : Sp := fun vs H Q _ => ∃ (pn cl p tb : Addr) (b s w : Nat) (T : List (List Int)) (st : Int) (ms : List Int) (ts : List V), vs = [.ref pn, .ref p, .ref tb, .int (w : Nat)] ∧ Pen H pn cl b ∧ b ≤ 800000 ∧ IsM C H p (s * w) (wid T w) st ms ∧ OkMa (s * w) (wid T w) st ms ∧ H tb = some (.lst ts) ∧ TabAt H ts T ∧ OkT s T T.length ∧ 1 ≤ s ∧ s ≤ 8 ∧ T.length ≤ 5 ∧ 1 ≤ w ∧ w ≤ 250 ∧
  ∀ H', But pn H H' → Pen H' pn cl (b + 100) → Q (.bl true) H'
theorem scWlk : FnScope NWk ["_law_pen_here", "_law_machine", "_law_table_here", "_law_wide"] (defScope sWlk) := ⟨rfl, rfl, rfl, by decide +kernel, rfl, by decide +kernel, by decide +kernel⟩
theorem ok_wlk {f C : Addr} {fd : FuncData} (F : Fun K "_law_is_walked" "_law_is_walked" sWlk f fd) (B : Bi mg) (T : Txt K C) (cD : Cal CX0 P w K mg base 1 "_law_draw" spDraw) (mG : Met CX0 P w K mg base 6 C "begun_at" (spBeg C)) (mB : Met CX0 P w K mg base 5 C "state_behind" (spBeh C))
    (mM : Met CX0 P w K mg base 5 C "marked_in" (spMkd C)) (mH : Met CX0 P w K mg base 6 C "has_text" (spHas C)) (cI : Cal CX0 P w K mg base 7 "inverted" (spInv C)) : FnOk P w K mg base CX0 8 f fd ["_law_pen_here", "_law_machine", "_law_table_here", "_law_wide"] (spWlk C) := by
  refine F.ok scWlk (fun vs H Q E h => ?_) (fun cdv A outer s H vs Q E hr h => ?_)
  · obtain ⟨pn, cl, p, tb, b, s, w, T, st, ms, ts, rfl, _⟩ := h
    rfl
  · obtain ⟨pn, cl, p, tb, b, sg, wd, Tb, st, ms, ts, rfl, pen, hb, M, O, htb, tab, okT, s1, s8, k5, w1, w2, q⟩ := h
    refine ⟨_, pss_cons (ps_for PassesOwn.never rfl (pi_range1 rfl B.range (pa_cons (pe_len B.len (pa_cons (pv 2) pa_nil)) pa_nil)) (pg_name (i := 4) scWlk.nd rfl (.inl rfl))
        (pss_cons (ps_setLc (i := 5) (own := [("_law_k", 10)]) rfl scWlk.nd rfl rfl (sw_true rfl rfl rfl (by decide +kernel)) (pi_range1 rfl B.range (pa_cons (pe_c cD hr pass0 (pa_cons (pv 0) (pa_cons pe_int pa_nil))) pa_nil)) (blkOk_by (N := NWk) (sc := defScope sWlk) (by decide +kernel))
          (fun _ _ _ _ _ => pg_name (i := 10) scWlk.nd rfl (Or.inl rfl)) (fun _ _ _ _ _ => pts_nil) (fun _ _ _ _ _ => pe_c cD hr pass0 (pa_cons (pv 0) (pa_cons (pe_op op_mul (pe_lenK K rfl B.len (pa_cons (pe_ix (ix_listK K rfl) (pv 2) pe_int (fun _ _ => rfl)) pa_nil)) (pv 3)) pa_nil))))
        (pss_cons (ps_par3 (i := 6) (j := 7) (l := 8) rfl scWlk.nd rfl rfl rfl (by decide) (by decide) (by decide) rfl rfl rfl (pa_cons (pe_mt mG hr pass0 (pv 1) (pa_cons (pv 4) pa_nil)) (pa_cons (pv 4) (pa_cons (pe_lst pa_nil) pa_nil))) rfl)
        (pss_cons (ps_for PassesOwn.never rfl (pi_range1 rfl B.range (pa_cons (pe_len B.len (pa_cons (pv 5) pa_nil)) pa_nil)) (pg_name (i := 9) scWlk.nd rfl (.inl rfl))
          (pss_cons (ps_set (i := 7) scWlk.nd rfl (Or.inl rfl) (pe_ix ix_list (pe_ix ix_list (pv 2) (pv 7) (fun _ _ => rfl)) (pe_op op_fdiv (pe_ix ix_list (pv 5) (pv 9) (fun _ _ => rfl)) (pv 3)) (fun _ _ => rfl)))
          (pss_one (ps_if (pt_cmpR op_in_seq (pv 7) (pe_fld (pv 1) rfl) rfl) (pss_one (ps_expr (pe_bm PySem.F.plainAttrs_list PySem.F.slot_list_append PySem.F.type_list_append mt_append (pv 8) (pa_cons (pv 9) pa_nil)))) pss_nil))))
        (pss_cons (ps_if (PW.pt (pw_or (pt_cmpR op_ne (pe_mt mB hr pass0 (pv 1) (pa_cons (pv 4) (pa_cons (pv 5) pa_nil))) (pv 7) (nomark _)) (pw_or1 (pt_cmpR (op_neE (hu64 hr) enc_ints (by decide)) (pe_mt mM hr pass0 (pv 6) (pa_cons (pe_tupleOf rfl B.tuple (pv 5)) pa_nil)) (pe_tupleOf rfl B.tuple (pv 8)) (nomark _))))) pss_never pss_nil)
        (pss_cons (ps_if (pt_cmpR (op_neE (hu64 hr) (enc_bool.lst) (by decide)) (pe_lst (pa_cons (pe_mt mH hr pass0 (pv 6) (pa_cons (pv 5) pa_nil)) (pa_cons (pe_mt mH hr pass0 (pe_c cI hr pass0 (pa_cons (pv 6) pa_nil)) (pa_cons (pv 5) pa_nil)) pa_nil)))
            (pe_lst (pa_cons (pe_cmpR op_in_seq (pv 7) (pe_fld (pv 1) rfl) rfl) (pa_cons (pe_cmpR op_notIn_seq (pv 7) (pe_fld (pv 1) rfl) rfl) pa_nil))) (nomark _)) pss_never pss_nil)
        (pss_one (ps_if (pt_cmpR (op_neE (hu64 hr) enc_all (by decide)) (pe_tup (pa_cons (pe_fld (pv 6) rfl) (pa_cons (pe_fld (pv 6) rfl) (pa_cons (pe_fld (pv 6) rfl) (pa_cons (pe_fld (pv 6) rfl) pa_nil)))))
            (pe_tup (pa_cons (pe_fld (pv 1) rfl) (pa_cons (pe_fld (pv 1) rfl) (pa_cons (pv 4) (pa_cons (pe_fld (pv 1) rfl) pa_nil))))) (nomark _)) pss_never pss_nil))))))))
      (pss_one (ps_ret pe_bl)), ?_⟩
    have n1 := O.n1
    have n2 := O.n2
    have k1 := O.k1
    have k2 := O.k2
    have lW : (wid Tb wd).length = Tb.length := wid_len _ _
    have lts : ts.length = Tb.length := Paired.length tab
    refine ⟨_, rfl, tb, ts, rfl, .inl (SqL.of htb), ((ts.length : Nat) : Int), rfl, by omega, by omega, for_range (lo := 0) (n := (((ts.length : Nat) : Int)).toNat) (fun i σ H' => ∃ (a1 a2 a3 a4 a5 a6 : Option V), σ = [some (.ref pn), some (.ref p), some (.ref tb), some (.int (wd : Nat)), a1, a2, a3, a4, a5, a6, none] ∧ But pn H H' ∧ Pen H' pn cl (b + i * 16))
      ⟨none, none, none, none, none, none, rfl, (fun _ _ _ z => z), pen.mono (by omega)⟩ ?_ ?_⟩
    · rintro i σ H1 hi ⟨a1, a2, a3, a4, a5, a6, rfl, b1, pen1⟩
      have M1 : IsM C H1 p (sg * wd) (wid Tb wd) st ms := M.but pen b1
      have htb1 : H1 tb = some (.lst ts) := b1 _ _ (pen.ne htb fun _ z => nomatch z) htb
      have tab1 : TabAt H1 ts Tb := tab.but b1 pen.nl
      have hi2 : i < Tb.length := by omega
      refine ⟨_, rfl, pn, cl, 15, _, rfl, pen1, by omega, by decide, by decide, fun r H2 r0 r1 b2 pen2 => ?_⟩
      obtain ⟨rn, rfl⟩ := Int.eq_ofNat_of_zero_le r0
      have M2 : IsM C H2 p (sg * wd) (wid Tb wd) st ms := M1.but pen1 b2
      have htb2 : H2 tb = some (.lst ts) := b2 _ _ (pen1.ne htb1 fun _ z => nomatch z) htb1
      have tab2 : TabAt H2 ts Tb := tab1.but b2 pen1.nl
      have b2H : But pn H H2 := b1.trans b2
      obtain ⟨R0, eR0⟩ : ∃ R0, Tb[0]? = some R0 := ⟨_, List.getElem?_eq_getElem (show 0 < Tb.length by omega)⟩
      obtain ⟨v0, hv0, r0a, rfl, hr0⟩ := paired_to tab2 eR0
      have lR0 := (okT R0 (List.mem_of_getElem? eR0)).1
      refine ⟨_, rfl, by omega, by omega, fun L nL => lc_range (n := (((rn : Nat) : Int)).toNat) (fun j H' => ∃ xs : List Int, But pn H2 H' ∧ Pen H' pn cl (b + i * 16 + 1 + j) ∧ H' L = some (.lst (xs.map V.int)) ∧ xs.length = j ∧ ∀ x ∈ xs, 0 ≤ x ∧ x ≤ ((sg * wd : Nat) : Int) - 1)
        ⟨[], same_but (same_new nL), pen2.same (same_new nL), upd_same, rfl, (fun _ z => nomatch z)⟩ ?_ ?_⟩
      · rintro j H3 hj ⟨xs, b3, pen3, hL, lx, okx⟩
        have jr : j < rn := by omega
        have npL := (pen2.off nL).1
        refine ⟨rfl, ?_⟩
        unfold tYes
        refine iteT ?_
        have htb3 := b3 _ _ (pen2.ne htb2 fun _ z => nomatch z) htb2
        have hr03 := b3 _ _ (pen2.ne hr0 fun _ z => nomatch z) hr0
        have em : (((R0.map V.int).length : Nat) : Int) * ((wd : Nat) : Int) = ((sg * wd : Nat) : Int) := by rw [List.length_map, lR0, Int.natCast_mul]
        refine ⟨_, rfl, _, rfl, tb, ts, _, _, rfl, rfl, SqL.of htb3, atI_nat hv0, r0a, _, rfl, .inl (SqL.of hr03), _, rfl, _, _, rfl, rfl, .inr ⟨by omega, by omega⟩, ?_⟩
        refine ⟨pn, cl, _, _, rfl, pen3, by omega, by rw [em]; omega, by rw [em]; omega, fun x H4 x0 x1 b4 pen4 => ?_⟩
        rw [em] at x1
        have hL4 := b4 _ _ (pen3.ne hL fun _ z => nomatch z) hL
        refine ⟨_, hL4, by rw [List.length_map]; exact small10 (by omega), xs ++ [x], fun b' o' nb z => ?_, (pen4.upd npL (pen2.off nL).2).mono (by omega), ?_, by simp [lx], fun x' hx' => ?_⟩
        · rw [upd_ne (ne_of_none z nL)]
          exact b4 _ _ nb (b3 _ _ nb z)
        · rw [upd_same, List.map_append]
          rfl
        · rcases List.mem_append.mp hx' with h | h
          · exact okx _ h
          · rw [List.mem_singleton.mp h]
            exact ⟨x0, by omega⟩
      rintro H3 ⟨xs, b3, pen3, hL, lx, okx⟩
      rw [show (((rn : Nat) : Int)).toNat = rn from Int.toNat_natCast _] at pen3 lx
      have M3 : IsM C H3 p (sg * wd) (wid Tb wd) st ms := M2.but pen2 b3
      have htb3 : H3 tb = some (.lst ts) := b3 _ _ (pen2.ne htb2 fun _ z => nomatch z) htb2
      have tab3 : TabAt H3 ts Tb := tab2.but b3 pen2.nl
      have b3H : But pn H H3 := b2H.trans b3
      have pen3 := pen3.mono (show b + i * 16 + 1 + rn ≤ b + (i + 1) * 16 by omega)
      clear b3 pen2 tab2 htb2 M2 b2H hr0 b2 pen1 tab1 htb1 M1 b1 nL hv0
      have i0 : (0 : Int) ≤ 0 + ((i : Nat) : Int) := by omega
      have i1 : (0 : Int) + ((i : Nat) : Int) ≤ ((wid Tb wd).length : Int) - 1 := by omega
      obtain ⟨dx, tb2, rw_, mk, kd, ts2, us, h1, h2, h3, h4, h5, h6, h7⟩ := id M3
      refine ⟨_, rfl, p, dx, _, rfl, h1, mf_no _ _ _ _ _ _ (by decide +kernel) (by decide +kernel) (by decide +kernel) (by decide +kernel) (by decide +kernel) (by decide +kernel), _, rfl, p, _, _, st, ms, _, rfl, M3, O, i0, i1, fun x Hx nx eX Mx => ?_⟩
      refine ⟨_, rfl, Nat.zero_le _, fun D nD => ⟨_, _, _, rfl, ?_⟩⟩
      have OX : OkMa (sg * wd) (wid Tb wd) (0 + ((i : Nat) : Int)) ms := ⟨n1, n2, k1, k2, O.row, i0, i1, O.mar, O.up⟩
      have M4 := M3.same eX
      have pen4 := pen3.same eX
      have htb4 := eX _ _ htb3
      have tab4 := tab3.same eX
      have hL4 := eX _ _ hL
      have b4H : But pn H Hx := fun b' o' nb z => eX _ _ (b3H _ _ nb z)
      clear M3 h1 h2 h3 h4 h5 h6 h7 nx eX pen3 htb3 tab3 hL b3H
      obtain ⟨dx, tb2, rw_, mk, kd, ts2, us, h1, h2, h3, h4, h5, h6, h7⟩ := id M4
      obtain ⟨xdx, xtb2, xrw, xmk, xkd, xts2, xus, g1, g2, g3, g4, g5, g6, g7⟩ := id Mx
      have lxs : (xs.map V.int).length = xs.length := List.length_map _
      have rn15 : rn < 15 := by omega
      have nDp := pen4.off nD
      generalize es0 : (0 : Int) + ((i : Nat) : Int) = s0 at i0 i1 OX Mx g1 ⊢
      refine ⟨_, rfl, L, _, rfl, .inl (SqL.of (same_new nD _ _ hL4)), ((xs.length : Nat) : Int), by rw [lxs], by omega, by omega, for_range (lo := 0) (n := (((xs.length : Nat) : Int)).toNat) (fun j σ H' => ∃ (a6 : Option V), σ = [some (.ref pn), some (.ref p), some (.ref tb), some (.int (wd : Nat)), some (.int s0), some (.ref L), some (.ref x), some (.int (wlk (wid Tb wd) s0 (xs.take j))), some (.ref D), a6, none] ∧ Same Hx H' ∧ H' D = some (.lst ((plc (wid Tb wd) ms s0 xs j).map V.int)))
        ⟨_, rfl, same_new nD, upd_same⟩ ?_ ?_⟩
      · rintro j σ H5 hj ⟨a6', rfl, e5, hD⟩
        have jl : j < xs.length := by omega
        have hx : xs[j]? = some xs[j] := List.getElem?_eq_getElem jl
        obtain ⟨x1, x2⟩ := okx xs[j] (List.getElem_mem jl)
        have hv : (xs.map V.int)[j]? = some (.int xs[j]) := by rw [List.getElem?_map, hx]; rfl
        generalize xs[j] = xv at hx x1 x2 hv
        obtain ⟨xn, rfl⟩ := Int.eq_ofNat_of_zero_le x1
        obtain ⟨ww1, ww2⟩ := O.wlk (xs.take j) i0 i1 fun y hy => okx y (mem_take hy)
        obtain ⟨k, R, ek, hR, hRx, v1, v2⟩ := O.nxt ww1 ww2 x1 x2
        have et : wlk (wid Tb wd) s0 (xs.take (j + 1)) = nxt (wid Tb wd) (wlk (wid Tb wd) s0 (xs.take j)) (xn : Nat) := by rw [take_snoc hx, wlk_snoc]
        rw [← et] at hRx v1 v2
        obtain ⟨R', hR', rfl⟩ : ∃ R', Tb[k]? = some R' ∧ widen R' wd = R := by
          unfold wid at hR
          rw [List.getElem?_map] at hR
          cases z : Tb[k]? with
          | none => rw [z] at hR; cases hR
          | some R' => rw [z] at hR; exact ⟨R', rfl, Option.some.inj hR⟩
        rw [widen_at _ _ _ w1, Int.toNat_natCast] at hRx
        obtain ⟨tv, htv, ra, rfl, hra⟩ := paired_to tab4 hR'
        have hra5 := e5 _ _ hra
        have at2 : atI (R'.map V.int) (((xn : Nat) : Int) / ((wd : Nat) : Int)) = some (.int (wlk (wid Tb wd) s0 (xs.take (j + 1)))) := by
          rw [← Int.natCast_ediv]
          refine atI_nat ?_
          rw [List.getElem?_map, hRx]
          rfl
        have at1 : atI ts (wlk (wid Tb wd) s0 (xs.take j)) = some (.ref ra) := by
          rw [ek]
          exact atI_nat htv
        have at0 : atI (xs.map V.int) (0 + ((j : Nat) : Int)) = some (.int (xn : Nat)) := by
          rw [Int.zero_add]
          exact atI_nat hv
        refine ⟨_, rfl, _, rfl, tb, ts, _, _, rfl, rfl, SqL.of (e5 _ _ htb4), at1, _, rfl, _, rfl, L, _, _, _, rfl, rfl, SqL.of (e5 _ _ hL4), at0, _, rfl, _, _, rfl, rfl, ⟨by omega, by omega⟩, ra, _, _, _, rfl, rfl, SqL.of hra5, at2, ?_⟩
        refine ⟨_, rfl, _, rfl, p, C, dx, _, _, rfl, e5 _ _ h1, T.cl, T.nM, mf_marks _ _ _ _ _ _, mk, _, rfl, .inr (SqT.of (e5 _ _ h6)), rfl, flat_ints _, _, rfl, ?_⟩
        generalize eH : wlk (wid Tb wd) s0 (xs.take (j + 1)) = hh at et v1 v2 ⊢
        rw [show (if false = true then !inV (V.int hh) (List.map V.int ms) else inV (V.int hh) (List.map V.int ms)) = decide (hh ∈ ms) from inV_ints hh ms]
        have ps := plc_succ (wid Tb wd) ms s0 xs j
        rw [eH] at ps
        by_cases c : hh ∈ ms
        · rw [decide_eq_true c]
          rw [if_pos c] at ps
          refine iteT ⟨_, rfl, .inl ⟨rfl, _, SqL.of hD⟩, _, rfl, D, _, _, rfl, rfl, hD, by rw [List.length_map]; exact small10 (Nat.le_trans (plc_len _ _ _ _ _) (by omega)), _, rfl, fun b' o' z => ?_, ?_⟩
          · rw [upd_ne (ne_of_none z nD)]
            exact e5 _ _ z
          · rw [upd_same, ps, List.map_append, Int.zero_add]
            rfl
        · rw [decide_eq_false c]
          rw [if_neg c, List.append_nil] at ps
          exact iteF ⟨_, rfl, e5, by rw [ps]; exact hD⟩
      · rintro σ H5 ⟨a6', rfl, e5, hD⟩
        rw [show (((xs.length : Nat) : Int)).toNat = xs.length from Int.toNat_natCast _] at hD ⊢
        rw [List.take_length]
        have M5 := M4.same e5
        have h15 := e5 _ _ h1
        obtain ⟨ww1, ww2⟩ := O.wlk xs i0 i1 okx
        refine ⟨_, rfl, p, dx, _, rfl, h15, mf_no _ _ _ _ _ _ (by decide +kernel) (by decide +kernel) (by decide +kernel) (by decide +kernel) (by decide +kernel) (by decide +kernel), _, rfl, _, rfl, p, L, _, _, st, ms, xs, s0, rfl, M5, O, .inl (e5 _ _ hL4), okx, i0, i1, fun H6 e6 => ?_⟩
        refine ⟨_, rfl, rfl, _, rfl, ?_⟩
        generalize eH : wlk (wid Tb wd) s0 xs = hh at ww1 ww2 ⊢
        rw [dec_int]
        rw [show (hh == hh) = true by simp]
        have e56 := e5.trans e6
        have hD6 := e6 _ _ hD
        clear e5 e6 M5 h15 hD
        have g16 := e56 _ _ g1
        refine iteF ⟨_, rfl, x, xdx, _, rfl, g16, mf_no _ _ _ _ _ _ (by decide +kernel) (by decide +kernel) (by decide +kernel) (by decide +kernel) (by decide +kernel) (by decide +kernel), _, rfl, .inl ⟨L, _, rfl, SqL.of (e56 _ _ hL4), fun t nt => ?_⟩⟩
        have e67 := same_new (o := .tup (xs.map V.int)) nt
        have ht : upd H6 t (.tup (xs.map V.int)) t = some (.tup (xs.map V.int)) := upd_same
        have e7 := e56.trans e67
        have hD7 := e67 _ _ hD6
        generalize upd H6 t (.tup (xs.map V.int)) = H7 at ht e7 hD7 ⊢
        refine ⟨x, t, _, _, s0, ms, xs, rfl, Mx.same e7, OX, .inr ht, okx, by omega, fun t2 H8 e78 nt2 ht2 => ?_⟩
        have e8 := e7.trans e78
        have hD8 := e78 _ _ hD7
        refine ⟨_, rfl, .inl ⟨D, _, rfl, SqL.of hD8, fun t3 nt3 => ?_⟩⟩
        have e89 := same_new (o := .tup ((plc (wid Tb wd) ms s0 xs xs.length).map V.int)) nt3
        have ht3 : upd H8 t3 (.tup ((plc (wid Tb wd) ms s0 xs xs.length).map V.int)) t3 = some (.tup ((plc (wid Tb wd) ms s0 xs xs.length).map V.int)) := upd_same
        have e9 := e8.trans e89
        have ht29 := e89 _ _ ht2
        generalize upd H8 t3 (.tup ((plc (wid Tb wd) ms s0 xs xs.length).map V.int)) = H9 at ht3 e9 ht29 ⊢
        refine ⟨_, _, dp_ints ht29, dp_ints ht3, _, rfl, ?_⟩
        rw [show (!decide (plc (wid Tb wd) ms s0 xs xs.length = plc (wid Tb wd) ms s0 xs xs.length)) = false by simp]
        clear e7 e8 e78 e89 ht3 ht29 ht2 hD8 hD7 ht e67 e56 hD6 g16 nt nt2 nt3
        have g19 := e9 _ _ g1
        have h19 := e9 _ _ h1
        have Mx9 := Mx.same e9
        have hL9 := e9 _ _ hL4
        refine iteF ⟨_, rfl, x, xdx, _, rfl, g19, mf_no _ _ _ _ _ _ (by decide +kernel) (by decide +kernel) (by decide +kernel) (by decide +kernel) (by decide +kernel) (by decide +kernel), _, rfl, x, L, _, _, s0, ms, xs, rfl, Mx9, OX, .inl hL9, okx, fun Ha ea => ?_⟩
        have Mxa := Mx9.same ea
        refine ⟨_, rfl, x, _, _, s0, ms, rfl, Mxa, OX, fun y Hb ny eb My => ?_⟩
        obtain ⟨ydx, ytb2, yrw, ymk, ykd, yts2, yus, y1, y2, y3, y4, y5, y6, y7⟩ := id My
        have hLb := eb _ _ (ea _ _ hL9)
        refine ⟨y, ydx, _, rfl, y1, mf_no _ _ _ _ _ _ (by decide +kernel) (by decide +kernel) (by decide +kernel) (by decide +kernel) (by decide +kernel) (by decide +kernel), _, rfl, y, L, _, _, s0, _, xs, rfl, My, OX.sel _, .inl hLb, okx, fun Hc ec => ?_⟩
        refine ⟨by show 2 ≤ sizeLine; decide, fun l1 nl1 => ?_⟩
        have e9c := e9.trans (ea.trans (eb.trans ec))
        clear Mxa y1 y2 y3 y4 y5 y6 y7 My hLb Mx9 hL9 g19 h19
        rw [eH]
        have el := same_new (o := .lst [V.bl (decide (hh ∈ ms)), V.bl (decide (hh ∈ notM (wid Tb wd).length ms))]) nl1
        have hl1 : upd Hc l1 (.lst [V.bl (decide (hh ∈ ms)), V.bl (decide (hh ∈ notM (wid Tb wd).length ms))]) l1 = some (.lst [V.bl (decide (hh ∈ ms)), V.bl (decide (hh ∈ notM (wid Tb wd).length ms))]) := upd_same
        generalize upd Hc l1 (.lst [V.bl (decide (hh ∈ ms)), V.bl (decide (hh ∈ notM (wid Tb wd).length ms))]) = Hd at el hl1 ⊢
        have e9d := e9c.trans el
        refine ⟨_, rfl, _, rfl, p, C, dx, _, _, rfl, e9d _ _ h1, T.cl, T.nM, mf_marks _ _ _ _ _ _, mk, _, rfl, .inr (SqT.of (e9d _ _ h6)), rfl, flat_ints _, _, rfl, _, rfl, p, C, dx, _, _, rfl, e9d _ _ h1, T.cl, T.nM, mf_marks _ _ _ _ _ _, mk, _, rfl, .inr (SqT.of (e9d _ _ h6)), rfl, flat_ints _, by show 2 ≤ sizeLine; decide, fun l2 nl2 => ?_⟩
        rw [show (if false = true then !inV (V.int hh) (List.map V.int ms) else inV (V.int hh) (List.map V.int ms)) = decide (hh ∈ ms) from inV_ints hh ms]
        rw [show (if true = true then !inV (V.int hh) (List.map V.int ms) else inV (V.int hh) (List.map V.int ms)) = !decide (hh ∈ ms) from congrArg (!·) (inV_ints hh ms)]
        have em := same_new (o := .lst [V.bl (decide (hh ∈ ms)), V.bl (!decide (hh ∈ ms))]) nl2
        have hl2 : upd Hd l2 (.lst [V.bl (decide (hh ∈ ms)), V.bl (!decide (hh ∈ ms))]) l2 = some (.lst [V.bl (decide (hh ∈ ms)), V.bl (!decide (hh ∈ ms))]) := upd_same
        have hl1m := em _ _ hl1
        generalize upd Hd l2 (.lst [V.bl (decide (hh ∈ ms)), V.bl (!decide (hh ∈ ms))]) = He at em hl2 hl1m ⊢
        refine ⟨[_, _], [_, _], .lst (SqL.of hl1m) (.cons (.bl _) (.cons (.bl _) .nil)), .lst (SqL.of hl2) (.cons (.bl _) (.cons (.bl _) .nil)), _, rfl, ?_⟩
        rw [not_mem ww1 ww2, show (!decide ([decide (hh ∈ ms), !decide (hh ∈ ms)] = [decide (hh ∈ ms), !decide (hh ∈ ms)])) = false by simp]
        refine iteF ?_
        have e9e := e9d.trans em
        clear em hl2 hl1m hl1 el e9d e9c nl1 nl2 ny ea eb ec
        have h1e := e9e _ _ h1
        have g1e := e9e _ _ g1
        refine ⟨_, rfl, x, C, xdx, _, _, rfl, g1e, T.cl, T.nS, mf_signs _ _ _ _ _ _, _, rfl, x, C, xdx, _, _, rfl, g1e, T.cl, T.nR, mf_rows _ _ _ _ _ _, _, rfl, x, C, xdx, _, _, rfl, g1e, T.cl, T.nA, mf_start _ _ _ _ _ _, _, rfl, x, C, xdx, _, _, rfl, g1e, T.cl, T.nM, mf_marks _ _ _ _ _ _, by show 4 ≤ sizeLine; decide, fun t1 nt1 => ?_⟩
        have ef := same_new (o := .tup [V.int ((sg * wd : Nat) : Int), V.ref xrw, V.int s0, V.ref xmk]) nt1
        have hu1 : upd He t1 (.tup [V.int ((sg * wd : Nat) : Int), V.ref xrw, V.int s0, V.ref xmk]) t1 = some (.tup [V.int ((sg * wd : Nat) : Int), V.ref xrw, V.int s0, V.ref xmk]) := upd_same
        generalize upd He t1 (.tup [V.int ((sg * wd : Nat) : Int), V.ref xrw, V.int s0, V.ref xmk]) = Hf at ef hu1 ⊢
        have h1f := ef _ _ h1e
        refine ⟨_, rfl, p, C, dx, _, _, rfl, h1f, T.cl, T.nS, mf_signs _ _ _ _ _ _, _, rfl, p, C, dx, _, _, rfl, h1f, T.cl, T.nR, mf_rows _ _ _ _ _ _, _, rfl, _, rfl, p, C, dx, _, _, rfl, h1f, T.cl, T.nM, mf_marks _ _ _ _ _ _, by show 4 ≤ sizeLine; decide, fun t2 nt2 => ?_⟩
        have eg := same_new (o := .tup [V.int ((sg * wd : Nat) : Int), V.ref rw_, V.int s0, V.ref mk]) nt2
        have hu2 : upd Hf t2 (.tup [V.int ((sg * wd : Nat) : Int), V.ref rw_, V.int s0, V.ref mk]) t2 = some (.tup [V.int ((sg * wd : Nat) : Int), V.ref rw_, V.int s0, V.ref mk]) := upd_same
        have hu1g := eg _ _ hu1
        generalize upd Hf t2 (.tup [V.int ((sg * wd : Nat) : Int), V.ref rw_, V.int s0, V.ref mk]) = Hg at eg hu2 hu1g ⊢
        have eXg := e9e.trans (ef.trans eg)
        refine ⟨(((sg * wd : Nat) : Int), (wid Tb wd).map Kr, s0, ms), (((sg * wd : Nat) : Int), (wid Tb wd).map Kr, s0, ms), .tup (SqT.of hu1g) (.cons (.int _) (.cons (dp_rows (eXg _ _ g4) (g5.same eXg)) (.cons (.int _) (.cons (dp_ints (eXg _ _ g6)) .nil)))), .tup (SqT.of hu2) (.cons (.int _) (.cons (dp_rows (eXg _ _ h4) (h5.same eXg)) (.cons (.int _) (.cons (dp_ints (eXg _ _ h6)) .nil)))), _, rfl, ?_⟩
        rw [decide_eq_true rfl]
        refine iteF ?_
        exact ⟨_, _, _, _, _, _, rfl, fun b' o' nb z => eXg _ _ (b4H _ _ nb z), pen4.same eXg⟩
    · rintro σ H1 ⟨a1, a2, a3, a4, a5, a6, rfl, b1, pen1⟩
      exact q H1 b1 (pen1.mono (by omega))
end
end K17
set_option Elab.async false
set_option linter.all false
set_option maxRecDepth 100001
set_option maxHeartbeats 3999999
set_option synthInstance.maxHeartbeats 400000
set_option synthInstance.maxSize 4000
namespace K17
open PySem L2
abbrev sLaw : Stmt := topS 37
section
variable {X : Cx} (K : PySem.W.Frag)
theorem op_ownEqK (hK : X.K = K) {CX : CXT} {n j : Nat} {C f : Addr} {fd : FuncData} {ps : List Str} {sp : Sp} (F : FnOk X.prog X.w X.K X.mg X.base CX n f fd ps sp) (hs : PySem.W.findIn X.K (.ref C) "__eq__" = some (some (.ref f))) (hf : PySem.W.isFn X.K (.ref f) = true) (hb : Binds X.K fd ps [])
    (hx : Passes CX X E0) (hr : Room j X.A) (hj : n ≤ j) : OpR X (compareOp .Eq) (rOwnEq K C sp) := by
  subst hK
  exact op_ownEq F hs hf hb hx hr hj
end
/-- a list whose first item is an int, or a tuple that begins with one, may be written -/
theorem IsM.put2 {C D : Addr} {vs : List V} {o : HO} {H : Hp} {p : Addr} {n : Nat} {Ls : List (List Int)} {st : Int} {ms : List Int} (M : IsM C H p n Ls st ms) (k1 : 1 ≤ Ls.length) (hD : H D = some (.lst vs))
    (c : ∀ v tl, vs = v :: tl → (∃ i, v = .int i) ∨ ∃ a i rs, v = .ref a ∧ H a = some (.tup (.int i :: rs)) ∧ rs ≠ []) : IsM C (upd H D o) p n Ls st ms := by
  obtain ⟨dx, tb, rw_, mk, kd, ts, us, h1, h2, h3, h4, h5, h6, h7⟩ := M
  have b : ButI D H (upd H D o) := fun b' o' nb z => (upd_ne nb).trans z
  have nt : ∀ xs, H D ≠ some (.tup xs) := fun xs z => by rw [hD] at z; cases z
  refine ⟨dx, tb, rw_, mk, kd, ts, us, b _ _ (ne_of h1 hD fun z => nomatch z) h1, b _ _ (fun z => ?_) h2, h3.at_ b nt, b _ _ (ne_of h4 hD fun z => nomatch z) h4, h5.at_ b nt, b _ _ (ne_of h6 hD fun z => nomatch z) h6, b _ _ (fun z => ?_) h7⟩
  · rw [z, hD] at h2
    cases h2
    cases h3 with
    | nil => exact absurd k1 (by decide)
    | cons a t =>
      obtain ⟨a', rs, e1, e2, pr⟩ := a
      rcases c _ _ rfl with ⟨i, e⟩ | ⟨a2, i, rs2, e, e3, ne⟩
      · rw [e1] at e
        cases e
      · rw [e1] at e
        cases e
        rw [e2] at e3
        cases e3
        generalize rle _ = l at pr
        cases pr with
        | cons a t =>
          obtain ⟨_, z, _⟩ := a
          cases z
  · rw [z, hD] at h7
    have e := kindsV_at (ms := ms) (show 0 < Ls.length from k1)
    rw [← HO.lst.inj (Option.some.inj h7)] at e
    cases vs with
    | nil => cases e
    | cons v tl =>
      have e : v = .bl _ := Option.some.inj e
      rcases c _ _ rfl with ⟨i, e2⟩ | ⟨a2, i, rs2, e2, _⟩ <;> (rw [e2] at e; cases e)
/-- a told row whose moves are not at D -/
def RowN (D : Addr) (H : Hp) (v : V) (a : Int) (ms : List Mv) : Prop := ∃ t u tv, v = .ref t ∧ H t = some (.tup [.int a, .ref u]) ∧ LT H u tv ∧ u ≠ D ∧ TrAt H tv ms
theorem RowN.row {D : Addr} {H : Hp} {v : V} {a : Int} {ms : List Mv} (h : RowN D H v a ms) : RowAt H v a ms := let ⟨t, u, tv, h1, h2, h3, _, h5⟩ := h; ⟨t, u, tv, h1, h2, h3, h5⟩
theorem RowN.but {D pn : Addr} {H H' : Hp} {v : V} {a : Int} {ms : List Mv} (h : RowN D H v a ms) (e : But pn H H') (nl : ∀ xs, H pn ≠ some (.lst xs)) (nt : ∀ xs, H pn ≠ some (.tup xs)) : RowN D H' v a ms :=
  let ⟨t, u, tv, h1, h2, h3, h4, h5⟩ := h
  ⟨t, u, tv, h1, e _ _ (fun z => nt _ (z ▸ h2)) h2, h3.elim (fun g => .inl (e _ _ (fun z => nl _ (z ▸ g)) g)) (fun g => .inr (e _ _ (fun z => nt _ (z ▸ g)) g)), h4, h5.at_ e nt⟩
theorem RowN.put {D : Addr} {H : Hp} {v : V} {a : Int} {ms : List Mv} {xs ys : List V} (h : RowN D H v a ms) (hD : H D = some (.lst xs)) : RowN D (upd H D (.lst ys)) v a ms :=
  let ⟨t, u, tv, h1, h2, h3, h4, h5⟩ := h
  have b : ButI D H (upd H D (.lst ys)) := fun b' o' nb z => (upd_ne nb).trans z
  ⟨t, u, tv, h1, (upd_ne (ne_of h2 hD fun z => nomatch z)).trans h2, h3.imp (fun g => (upd_ne h4).trans g) (fun g => (upd_ne h4).trans g), h4, h5.at_ b fun xs z => by rw [hD] at z; cases z⟩
def RowsN (D : Addr) (H : Hp) (n : Nat) (k : Int) : List V → List (List Int) → Prop := Paired fun v L => ∃ a ms, RowN D H v a ms ∧ OkM (n : Nat) k ms ∧ 0 ≤ a ∧ a ≤ k - 1 ∧ expT a ms n = L
theorem RowsN.rows {D : Addr} {H : Hp} {n : Nat} {k : Int} {ts : List V} {Ls : List (List Int)} (h : RowsN D H n k ts Ls) : RowsAt H n k ts Ls := Paired.mapP h fun _ _ ⟨a, ms, h1, h2⟩ => ⟨a, ms, h1.row, h2⟩
theorem RowsN.but {D pn : Addr} {H H' : Hp} {n : Nat} {k : Int} {ts : List V} {Ls : List (List Int)} (h : RowsN D H n k ts Ls) (e : But pn H H') (nl : ∀ xs, H pn ≠ some (.lst xs)) (nt : ∀ xs, H pn ≠ some (.tup xs)) : RowsN D H' n k ts Ls := Paired.mapP h fun _ _ ⟨a, ms, h1, h2⟩ => ⟨a, ms, h1.but e nl nt, h2⟩
theorem RowsN.put {D : Addr} {H : Hp} {n : Nat} {k : Int} {ts : List V} {Ls : List (List Int)} {xs ys : List V} (h : RowsN D H n k ts Ls) (hD : H D = some (.lst xs)) : RowsN D (upd H D (.lst ys)) n k ts Ls := Paired.mapP h fun _ _ ⟨a, ms, h1, h2⟩ => ⟨a, ms, h1.put hD, h2⟩
theorem no_true : ∀ j : Nat, inV (.bl true) ((List.range j).map fun _ => V.bl false) = false
  | 0 => rfl
  | j + 1 => by
    have ih := no_true j
    unfold inV at ih ⊢
    rw [List.range_succ, List.map_append, List.any_append, ih]
    rfl
theorem flat_false : ∀ j : Nat, ((List.range j).map fun _ => V.bl false).all flatV = true
  | 0 => rfl
  | j + 1 => by
    rw [List.range_succ, List.map_append, List.all_append, flat_false j]
    rfl
/-- the law -/
def spLaw (K : PySem.W.Frag) : Sp := fun vs H Q _ => ∃ (a : Addr) (is : List Int), vs = [.ref a] ∧ SqL K H a (is.map V.int) ∧ ∀ H', Q (.bl true) H'
abbrev NLa : List Str := ["_law_script", "_law_pen_here", "_law_turn", "_law_few", "_law_wide", "_law_table_here", "_law_start", "_law_marks", "_law_rows", "_law_handed", "_law_machine", "_law_kept_here", "_law_state", "_law_row", "_law_other"]
section
variable {P : Program} {w : World} {K : PySem.W.Frag} {mg : Str → Option Value} {base : Heap}
theorem scLaw : FnScope NLa ["_law_script"] (defScope sLaw) := ⟨rfl, rfl, rfl, by decide +kernel, rfl, by decide +kernel, by decide +kernel⟩
theorem ok_law {f C fe : Addr} {fd fdE : FuncData} (F : Fun K "law" "law" sLaw f fd) (B : Bi mg) (T : Txt K C) (TE : TxE K C)
    (cPn : Cal CX0 P w K mg base 1 "_law_pen" (spPen K)) (cD : Cal CX0 P w K mg base 1 "_law_draw" spDraw) (cP : Cal CX0 P w K mg base 2 "_law_pick" spPick) (cTb : Cal CX0 P w K mg base 2 "_law_table" spTab) (cTo : Cal CX0 P w K mg base 3 "_law_told" spLTo) (cK : Cal CX0 P w K mg base 1 "_law_kept" spKept)
    (mkC : Mak CX0 P w K mg base 4 "Machine" C (spInit C)) (FE : FnOk P w K mg base CX0 1 fe fdE ["self", "other"] (spEq C)) (eE : PySem.W.findIn K (.ref C) "__eq__" = some (some (.ref fe))) (iE : PySem.W.isFn K (.ref fe) = true) (bE : Binds K fdE ["self", "other"] [])
    (x1 : PySem.W.notFirst K C (.ref C) = true) (x2 : PySem.W.notFirst K C (.type "tuple") = true) (cO : Cal CX0 P w K mg base 6 "_law_others" (spOth C)) (cW : Cal CX0 P w K mg base 8 "_law_is_walked" (spWlk C)) : FnOk P w K mg base CX0 9 f fd ["_law_script"] (spLaw K) := by
  refine F.ok scLaw (fun vs H Q E h => ?_) (fun cdv A outer s H vs Q E hr h => ?_)
  · obtain ⟨a, is, rfl, _⟩ := h
    rfl
  · obtain ⟨a0, is, rfl, hsc, q⟩ := h
    refine ⟨_, pss_cons (ps_set (i := 1) scLaw.nd rfl (Or.inr rfl) (pe_c cPn hr pass0 (pa_cons (pv 0) pa_nil)))
      (pss_cons (ps_for PassesOwn.never rfl (pi_range1 rfl B.range (pa_cons (pe_op op_add pe_int (pe_callB (call_min2 rfl) rfl B.min (by decide +kernel) (pa_cons pe_int (pa_cons (pe_len B.len (pa_cons (pv 0) pa_nil)) pa_nil)))) pa_nil)) (pg_name (i := 2) scLaw.nd rfl (.inl rfl))
        (pss_cons (ps_asg (pe_tup (pa_cons (pe_op op_add pe_int (pe_c cD hr pass0 (pa_cons (pv 1) (pa_cons pe_int pa_nil)))) (pa_cons (pe_c cP hr pass0 (pa_cons (pv 1) (pa_cons (pe_lst (pa_cons pe_int (pa_cons pe_int (pa_cons pe_int (pa_cons pe_int pa_nil))))) pa_nil))) pa_nil))) (pg_tup rfl (pgs_cons (pg_name (i := 3) scLaw.nd rfl (.inl rfl)) (pgs_cons (pg_name (i := 4) scLaw.nd rfl (.inr rfl)) pgs_nil))))
        (pss_cons (ps_set (i := 5) scLaw.nd rfl (Or.inl rfl) (pe_c cTb hr pass0 (pa_cons (pv 1) (pa_cons (pv 3) pa_nil))))
        (pss_cons (ps_set (i := 6) scLaw.nd rfl (Or.inl rfl) (pe_c cD hr pass0 (pa_cons (pv 1) (pa_cons (pe_len B.len (pa_cons (pv 5) pa_nil)) pa_nil))))
        (pss_cons (ps_setLc (i := 7) (own := [("_law_state", 12)]) rfl scLaw.nd rfl rfl (sw_true rfl rfl rfl (by decide +kernel)) (pi_range1 rfl B.range (pa_cons (pe_len B.len (pa_cons (pv 5) pa_nil)) pa_nil)) (blkOk_by (N := NLa) (sc := defScope sLaw) (by decide +kernel))
          (fun _ _ _ _ _ => pg_name (i := 12) scLaw.nd rfl (Or.inl rfl)) (fun _ _ _ _ _ => pts_one (pt_cmpR op_eq (pe_c cD hr pass0 (pa_cons (pv 1) (pa_cons pe_int pa_nil))) pe_int (nomark _))) (fun _ _ _ _ _ => pv 12))
        (pss_cons (ps_par (i := 8) (j := 9) rfl scLaw.nd rfl rfl (by decide) rfl rfl (pa_cons (pe_lc (own := [("_law_row", 13)]) rfl scLaw.nd (pi_sqA (pv 5)) (blkOk_by (N := NLa) (sc := defScope sLaw) (by decide +kernel))
          (fun _ _ _ _ _ => pg_name (i := 13) scLaw.nd rfl (Or.inl rfl)) (fun _ _ _ _ _ => pts_nil) (fun _ _ _ _ _ => pe_c cTo hr pass0 (pa_cons (pv 1) (pa_cons (pv 13) (pa_cons (pv 4) pa_nil))))) (pa_cons (pe_callTy call_list_of rfl B.list (by decide +kernel) (pa_cons (pv 7) pa_nil)) pa_nil)) rfl)
        (pss_cons (ps_set (i := 10) scLaw.nd rfl (Or.inr rfl) (pe_mk mkC hr pass0 (pa_cons (pe_op op_mul (pv 3) (pv 4)) (pa_cons (pv 8) (pa_cons (pv 6) (pa_cons (pv 9) pa_nil))))))
        (pss_cons (ps_expr (pe_bm0 PySem.F.plainAttrs_list PySem.F.slot_list_clear PySem.F.type_list_clear mt_clear (pv 8)))
        (pss_cons (ps_expr (pe_bm PySem.F.plainAttrs_list PySem.F.slot_list_append PySem.F.type_list_append mt_append (pv 9) (pa_cons (pe_len B.len (pa_cons (pv 5) pa_nil)) pa_nil)))
        (pss_cons (ps_set (i := 11) scLaw.nd rfl (Or.inl rfl) (pe_tup (pa_cons (pe_op op_mul (pv 3) (pv 4)) (pa_cons (pe_tupleOf rfl B.tuple (pe_lc (own := [("_law_row", 13)]) rfl scLaw.nd (pi_sqA (pv 5)) (blkOk_by (N := NLa) (sc := defScope sLaw) (by decide +kernel))
          (fun _ _ _ _ _ => pg_name (i := 13) scLaw.nd rfl (Or.inl rfl)) (fun _ _ _ _ _ => pts_nil) (fun _ _ _ _ _ => pe_c cK hr pass0 (pa_cons (pv 13) (pa_cons (pv 4) pa_nil))))) (pa_cons (pv 6) (pa_cons (pe_tupleOf rfl B.tuple (pv 7)) pa_nil))))))
        (pss_cons (ps_if (PW.pt (pw_or (pt_cmpR (op_neE (hu64 hr) enc_all (by decide)) (pe_tup (pa_cons (pe_fld (pv 10) rfl) (pa_cons (pe_fld (pv 10) rfl) (pa_cons (pe_fld (pv 10) rfl) (pa_cons (pe_fld (pv 10) rfl) pa_nil))))) (pv 11) (nomark _)) (pw_or1 (pt_cmpR (op_ownEq FE eE iE bE pass0 hr (by decide)) (pv 10) (pv 11) (nomark _))))) pss_never pss_nil)
        (pss_cons (ps_if (pt_not (pt_cmpR (op_ownEq FE eE iE bE pass0 hr (by decide)) (pv 10) (pe_mk mkC hr pass0 (pa_cons (pe_op op_mul (pv 3) (pv 4)) (pa_cons (pe_lc (own := [("_law_row", 13)]) rfl scLaw.nd (pi_sqA (pv 5)) (blkOk_by (N := NLa) (sc := defScope sLaw) (by decide +kernel))
          (fun _ _ _ _ _ => pg_name (i := 13) scLaw.nd rfl (Or.inl rfl)) (fun _ _ _ _ _ => pts_nil) (fun _ _ _ _ _ => pe_c cTo hr pass0 (pa_cons (pv 1) (pa_cons (pv 13) (pa_cons (pv 4) pa_nil))))) (pa_cons (pv 6) (pa_cons (pv 7) pa_nil))))) (nomark _))) pss_never pss_nil)
        (pss_cons (ps_if (pt_cmpR op_in_seq pe_bl (pe_lc (own := [("_law_other", 14)]) rfl scLaw.nd (pi_sqA (pe_c cO hr pass0 (pa_cons (pv 10) (pa_cons (pv 5) (pa_cons (pv 4) pa_nil))))) (blkOk_by (N := NLa) (sc := defScope sLaw) (by decide +kernel))
          (fun _ _ _ _ _ => pg_name (i := 14) scLaw.nd rfl (Or.inl rfl)) (fun _ _ _ _ _ => pts_nil) (fun _ _ _ _ _ => pe_cmpR (op_ownEqK K rfl FE eE iE bE pass0 hr (by decide)) (pv 10) (pv 14) (nomark _))) rfl) pss_never pss_nil)
        (pss_one (ps_if (PW.pt (pw_or (pt_not (pt_val (pe_c cW hr pass0 (pa_cons (pv 1) (pa_cons (pv 10) (pa_cons (pv 5) (pa_cons (pv 4) pa_nil))))))) (pw_or1 (pt_cmpR op_ne (pe_fld (pv 10) rfl) (pv 6) (nomark _))))) pss_never pss_nil)))))))))))))))
      (pss_one (ps_ret pe_bl))), ?_⟩
    refine ⟨_, rfl, a0, is, rfl, hsc, fun pn cl H1 npn ncl e1 pen1 => ?_⟩
    have hs1 : SqL K H1 a0 (is.map V.int) := hsc.imp (fun z => z.imp (fun z => e1 _ _ z) fun ⟨o, z⟩ => ⟨o, e1 _ _ z⟩) id
    refine ⟨_, rfl, a0, _, rfl, .inl hs1, _, _, rfl, _, _, rfl, rfl, ?_⟩
    have low : ∃ m : Nat, (3 : Int) + (if (((is.map V.int).length : Nat) : Int) < 3 then (((is.map V.int).length : Nat) : Int) else 3) = (m : Nat) ∧ m ≤ 6 := by
      rcases Classical.em ((((is.map V.int).length : Nat) : Int) < 3) with c | c
      · rw [if_pos c]
        exact ⟨3 + (is.map V.int).length, by omega, by omega⟩
      · rw [if_neg c]
        exact ⟨6, rfl, Nat.le_refl _⟩
    obtain ⟨turns, eT, t6⟩ := low
    refine ⟨((turns : Nat) : Int), congrArg (fun z => [V.int z]) eT, by omega, by omega, for_range (lo := 0) (n := (((turns : Nat) : Int)).toNat) (fun i σ H' => ∃ (v2 v3 v4 v5 v6 v7 v8 v9 v10 v11 : Option V), σ = [some (.ref a0), some (.ref pn), v2, v3, v4, v5, v6, v7, v8, v9, v10, v11, none, none, none] ∧ Pen H' pn cl (i * 600))
      ⟨none, none, none, none, none, none, none, none, none, none, rfl, pen1.mono (by omega)⟩ ?_ ?_⟩
    · rintro i σ H2 hi ⟨v2, v3, v4, v5, v6, v7, v8, v9, v10, v11, rfl, pen2⟩
      have i6 : i < 6 := by omega
      refine ⟨_, rfl, pn, cl, 8, _, rfl, pen2, by omega, by decide, by decide, fun r H3 r0 r1 b3 pen3 => ?_⟩
      obtain ⟨few0, rfl⟩ := Int.eq_ofNat_of_zero_le r0
      refine ⟨_, _, rfl, rfl, _, rfl, by show 4 ≤ sizeLine; decide, fun L4 nL4 => ?_⟩
      have nLp := pen3.off nL4
      refine ⟨pn, cl, L4, _, _, rfl, pen3.upd nLp.1 nLp.2, by omega, upd_same, by show 0 < 4; decide, by show 4 ≤ 1000; decide, fun xw H4 hxw b4 pen4 => ?_⟩
      obtain ⟨wd, rfl, w1, w2⟩ : ∃ wd : Nat, xw = V.int ((wd : Nat) : Int) ∧ 1 ≤ wd ∧ wd ≤ 250 := by
        simp only [List.mem_cons, List.not_mem_nil, or_false] at hxw
        rcases hxw with rfl | rfl | rfl | rfl
        · exact ⟨1, rfl, by decide, by decide⟩
        · exact ⟨1, rfl, by decide, by decide⟩
        · exact ⟨1, rfl, by decide, by decide⟩
        · exact ⟨250, rfl, by decide, by decide⟩
      refine ⟨by show 2 ≤ sizeLine; decide, fun t5 nt5 => ?_⟩
      have pen5 := (pen4.upd (o := .tup [V.int (1 + ((few0 : Nat) : Int)), V.int ((wd : Nat) : Int)]) (pen4.off nt5).1 (pen4.off nt5).2)
      have ht5 : upd H4 t5 (.tup [V.int (1 + ((few0 : Nat) : Int)), V.int ((wd : Nat) : Int)]) t5 = some (.tup [V.int (1 + ((few0 : Nat) : Int)), V.int ((wd : Nat) : Int)]) := upd_same
      refine ⟨t5, _, rfl, SqT.of ht5, rfl, _, _, rfl, _, _, rfl, rfl, ?_⟩
      generalize upd H4 t5 (.tup [V.int (1 + ((few0 : Nat) : Int)), V.int ((wd : Nat) : Int)]) = H5 at pen5 ⊢
      clear ht5 nt5 pen4 b4 hxw pen3 b3 nL4 nLp pen2
      obtain ⟨sg, esg, s1, s8⟩ : ∃ sg : Nat, (1 : Int) + ((few0 : Nat) : Int) = ((sg : Nat) : Int) ∧ 1 ≤ sg ∧ sg ≤ 8 := ⟨1 + few0, by omega, by omega, by omega⟩
      rw [esg]
      clear esg r0 r1 few0
      have pen5 : Pen H5 pn cl (i * 600 + 2) := pen5
      refine ⟨_, rfl, _, rfl, pn, cl, sg, _, rfl, pen5, by omega, s1, s8, fun tb ts Tb H6 ntb b6 pen6 htb tab T1 T5 okT => ?_⟩
      have lts : ts.length = Tb.length := Paired.length tab
      refine ⟨_, rfl, _, rfl, tb, ts, rfl, .inl (SqL.of htb), pn, cl, _, _, rfl, pen6, by omega, by omega, by omega, fun st H7 st0 st1 b7 pen7 => ?_⟩
      have htb7 := b7 _ _ (pen6.ne htb fun _ z => nomatch z) htb
      have tab7 := tab.but b7 pen6.nl
      have pen7 := pen7.mono (show i * 600 + 2 + 100 + 1 ≤ i * 600 + 110 by omega)
      clear pen5 b6 ntb pen6 htb tab b7
      refine ⟨_, rfl, tb, ts, rfl, .inl (SqL.of htb7), ((ts.length : Nat) : Int), rfl, by omega, by omega, fun L nL => lc_range (n := (((ts.length : Nat) : Int)).toNat)
        (fun j H' => ∃ ms : List Int, But pn H7 H' ∧ Pen H' pn cl (i * 600 + 110 + j) ∧ H' L = some (.lst (ms.map V.int)) ∧ ms.length ≤ j ∧ (∀ m ∈ ms, 0 ≤ m ∧ m < (j : Int)) ∧ ms.Pairwise (· < ·)) ⟨[], same_but (same_new nL), pen7.same (same_new nL), upd_same, Nat.le_refl _, (fun _ z => nomatch z), .nil⟩ ?_ ?_⟩
      · rintro j Ha hj ⟨ms, ba, pena, hL, lm, hm, hp⟩
        have lt : j < ts.length := by simpa using hj
        have npL := (pen7.off nL).1
        rw [Int.zero_add]
        refine ⟨rfl, _, rfl, pn, cl, 2, _, rfl, pena, by omega, by decide, by decide, fun r Hb r0 r1 bb penb => ?_⟩
        have hLb := bb _ _ (Ne.symm npL) hL
        refine ⟨rfl, _, rfl, ?_⟩
        rw [dec_int]
        by_cases c : r = 0
        · rw [show (r == 0) = true by rw [c]; rfl]
          refine iteT ⟨_, rfl, _, hLb, by rw [List.length_map]; exact small10 (by omega), ms ++ [(j : Int)], fun b' o n z => ?_, ((penb.upd npL (pen7.off nL).2).mono (by omega)), ?_, by simp; omega, fun k hk => ?_, ?_⟩
          · have z3 := bb _ _ n (ba _ _ n z)
            rw [upd_ne (ne_of_none z nL)]
            exact z3
          · rw [upd_same, List.map_append]
            rfl
          · rcases List.mem_append.mp hk with hk | hk
            · have := hm k hk
              omega
            · rw [List.mem_singleton.mp hk]
              omega
          · refine List.pairwise_append.mpr ⟨hp, List.pairwise_singleton _ _, fun x hx y hy => ?_⟩
            rw [List.mem_singleton.mp hy]
            exact (hm x hx).2
        · rw [show (r == 0) = false by simpa using c]
          refine iteF ⟨ms, fun b' o n z => bb _ _ n (ba _ _ n z), penb.mono (by omega), hLb, by omega, fun k hk => ?_, hp⟩
          have := hm k hk
          omega
      rintro H8 ⟨ms, b8, pen8, hL, lm, hm, hp⟩
      rw [show (((ts.length : Nat) : Int)).toNat = ts.length from Int.toNat_natCast _] at pen8 lm hm
      have htb8 := b8 _ _ (pen7.ne htb7 fun _ z => nomatch z) htb7
      have tab8 := tab7.but b8 pen7.nl
      have pen8 := pen8.mono (show i * 600 + 110 + ts.length ≤ i * 600 + 120 by omega)
      clear b8 pen7 htb7 tab7 nL
      have lW : (wid Tb wd).length = Tb.length := wid_len _ _
      have O : OkMa (sg * wd) (wid Tb wd) st ms := by
        refine ⟨?_, ?_, by omega, by omega, fun R hR => ?_, st0, by omega, fun m hmm => ?_, hp⟩
        · exact Nat.le_trans (by decide : 1 ≤ 1 * 1) (Nat.mul_le_mul s1 w1)
        · exact Nat.le_trans (Nat.mul_le_mul s8 w2) (by decide)
        · rw [lW]
          exact wid_row okT R hR
        · have := hm m hmm
          omega
      have tb8 : tb ≠ pn := pen8.ne htb8 fun _ z => nomatch z
      refine ⟨_, rfl, tb, ts, rfl, .inl (SqL.of htb8), fun J G wk hG D nD => lc_it wk (fun j H' => ∃ rvs : List V, But pn H8 H' ∧ Pen H' pn cl (i * 600 + 120 + j * 30) ∧ H' D = some (.lst rvs) ∧ RowsN D H' (sg * wd) (Tb.length : Int) rvs ((wid Tb wd).take j))
        ⟨[], same_but (same_new nD), pen8.same (same_new nD), upd_same, by rw [List.take_zero]; exact .nil⟩ (fun j H' _ ⟨_, z, _⟩ => hG H' fun o w => z _ _ tb8 w) ?_ ?_⟩
      · rintro j v Ha Hb hj ⟨rvs, ba, pena, hD, rows⟩ ⟨rfl, hv⟩
        obtain ⟨R, hR, ra, rfl, hra⟩ := paired_at tab8 hv
        have hraa := ba _ _ (pen8.ne hra fun _ z => nomatch z) hra
        obtain ⟨lR, okR⟩ := okT R (List.mem_of_getElem? hR)
        have npD := pen8.off nD
        have jl := (List.getElem?_eq_some_iff.mp hR).1
        refine ⟨rfl, ?_⟩
        unfold tYes
        refine iteT ?_
        refine ⟨_, rfl, _, rfl, _, rfl, pn, cl, ra, _, wd, Tb.length, R, rfl, pena, by omega, hraa, by omega, by omega, w1, w2, okR, fun v a mv Hc bc penc hrow okm a1 a2 ex nu => ?_⟩
        have hDc := bc _ _ (Ne.symm npD.1) hD
        rw [lR] at okm ex
        have rowsc := rows.but bc pena.nl pena.nt
        have hWj : (wid Tb wd)[j]? = some (widen R wd) := by
          unfold wid
          rw [List.getElem?_map, hR]
          rfl
        have lrv := Paired.length rows
        rw [List.length_take] at lrv
        refine ⟨_, hDc, small10 (by omega), rvs ++ [v], fun b' o' nb z => ?_, (penc.upd npD.1 npD.2).mono (by omega), upd_same, ?_⟩
        · rw [upd_ne (ne_of_none z nD)]
          exact bc _ _ nb (ba _ _ nb z)
        · rw [take_snoc hWj]
          refine Paired.snoc (rowsc.put hDc) ⟨a, mv, RowN.put ?_ hDc, okm, a1, a2, ex⟩
          obtain ⟨t, u, tv, ev, h1, h2, h3⟩ := hrow
          refine ⟨t, u, tv, ev, h1, h2, fun z => ?_, h3⟩
          rcases nu t u ev h1 with ⟨xs, z2⟩ | z2
          · rw [z, hDc] at z2
            cases z2
          · rw [z, hD] at z2
            cases z2
      rintro H9 ⟨rvs, b9, pen9, hD, rows⟩
      rw [lts, ← lW, List.take_length] at rows
      have hL9 := b9 _ _ (pen8.ne hL fun _ z => nomatch z) hL
      have htb9 := b9 _ _ tb8 htb8
      have tab9 := tab8.but b9 pen8.nl
      have pen9 := pen9.mono (show i * 600 + 120 + ts.length * 30 ≤ i * 600 + 270 by omega)
      have nLD : L ≠ D := ne_of_none hL nD
      have ntD : tb ≠ D := ne_of_none htb8 nD
      have tabN : TabN D H9 ts Tb := Paired.mapP tab8 fun _ _ ⟨a', g1, g2⟩ => ⟨a', g1, ne_of_none g2 nD, b9 _ _ (pen8.ne g2 fun _ z => nomatch z) g2⟩
      have nDp := pen8.off nD
      clear b9 pen8 htb8 tab8 tab9 nD tb8 hL
      refine ⟨_, rfl, L, _, rfl, .inl (SqL.of hL9), fun hd nhd => ⟨_, _, rfl, ?_⟩⟩
      have eh : Same H9 (upd H9 hd (.lst (ms.map V.int))) := same_new nhd
      have hhd : upd H9 hd (.lst (ms.map V.int)) hd = some (.lst (ms.map V.int)) := upd_same
      have nhp := pen9.off nhd
      have nhL : L ≠ hd := ne_of_none hL9 nhd
      have nhT : tb ≠ hd := ne_of_none htb9 nhd
      have nhD : D ≠ hd := ne_of_none hD nhd
      have pena := pen9.same eh
      have hLa := eh _ _ hL9
      have htba := eh _ _ htb9
      have hDa := eh _ _ hD
      have rowsa : RowsAt (upd H9 hd (.lst (ms.map V.int))) (sg * wd) ((wid Tb wd).length : Int) rvs (wid Tb wd) := RowsAt.same (by rw [lW]; rw [lW] at rows; exact rows.rows) eh
      have tabM : Paired (fun (v : V) (R : List Int) => ∃ a, v = .ref a ∧ a ≠ D ∧ a ≠ hd ∧ upd H9 hd (.lst (ms.map V.int)) a = some (.lst (R.map V.int))) ts Tb := Paired.mapP tabN fun _ _ ⟨a', g1, g2, g3⟩ => ⟨a', g1, g2, ne_of_none g3 nhd, eh _ _ g3⟩
      generalize upd H9 hd (.lst (ms.map V.int)) = Ha at eh hhd pena hLa htba hDa rowsa tabM ⊢
      clear eh nhd pen9 hL9 htb9 hD tabN rows
      refine ⟨_, rfl, _, rfl, _, _, rfl, rfl, .inl ⟨by omega, by omega⟩, _, rfl, _, rfl, _, rfl, ?_⟩
      refine mk_ok2 (n := sg * wd) (.inl hDa) rowsa (.inl hhd) O fun p Hm np em Mm => ?_
      have penm := pena.same em
      have hLm := em _ _ hLa
      have htbm := em _ _ htba
      have hDm := em _ _ hDa
      have hhm := em _ _ hhd
      have rowsm := rowsa.same em
      refine ⟨_, rfl, .inl ⟨rfl, _, SqL.of hDm⟩, D, _, rfl, rfl, hDm, ?_⟩
      have M1 := Mm.put2 (o := .lst []) O.k1 hDm fun v tl ev => by
        rw [ev] at rowsm
        obtain ⟨R, hR, a, mv, ⟨t, u, tv, h1, h2, _⟩, _⟩ := paired_at (i := 0) (v := v) rowsm rfl
        exact .inr ⟨t, a, _, h1, h2, by simp⟩
      have e1 : ∀ {b' : Addr} {o' : HO}, b' ≠ D → Hm b' = some o' → upd Hm D (.lst []) b' = some o' := fun nb z => (upd_ne nb).trans z
      have pen1' := penm.upd (o := .lst []) nDp.1 nDp.2
      have hh1 := e1 (Ne.symm nhD) hhm
      refine ⟨_, rfl, .inl ⟨rfl, _, SqL.of hh1⟩, _, rfl, tb, ts, rfl, .inl (SqL.of (e1 ntD htbm)), hd, _, _, rfl, rfl, hh1, by rw [List.length_map]; exact small10 (by omega), ?_⟩
      have M2 := M1.put2 (o := .lst (ms.map V.int ++ [V.int ((ts.length : Nat) : Int)])) O.k1 hh1 fun v tl ev => by
        cases ms with
        | nil => cases ev
        | cons m r =>
          rw [List.map_cons] at ev
          cases ev
          exact .inl ⟨m, rfl⟩
      have e2 : ∀ {b' : Addr} {o' : HO}, b' ≠ D → b' ≠ hd → Hm b' = some o' → upd (upd Hm D (.lst [])) hd (.lst (ms.map V.int ++ [V.int ((ts.length : Nat) : Int)])) b' = some o' := fun nb nb2 z => (upd_ne nb2).trans (e1 nb z)
      have pen2 := pen1'.upd (o := .lst (ms.map V.int ++ [V.int ((ts.length : Nat) : Int)])) nhp.1 nhp.2
      have hL2 := e2 nLD nhL hLm
      have htb2 := e2 ntD nhT htbm
      have tab2 : TabAt (upd (upd Hm D (.lst [])) hd (.lst (ms.map V.int ++ [V.int ((ts.length : Nat) : Int)]))) ts Tb := Paired.mapP tabM fun _ _ ⟨a', g1, g2, g3, g4⟩ => ⟨a', g1, e2 g2 g3 (em _ _ g4)⟩
      generalize upd (upd Hm D (.lst [])) hd (.lst (ms.map V.int ++ [V.int ((ts.length : Nat) : Int)])) = Hb at M2 pen2 hL2 htb2 tab2 ⊢
      clear e2 M1 e1 pen1' hh1 rowsm hhm hDm htbm hLm penm Mm em np rowsa hDa hhd htba hLa pena tabM
      refine ⟨_, rfl, _, rfl, _, _, rfl, rfl, .inl ⟨by omega, by omega⟩, ?_⟩
      refine ⟨_, rfl, tb, ts, rfl, .inl (SqL.of htb2), fun J G wk hG D2 nD2 => lc_it wk (fun j H' => ∃ us : List V, Same Hb H' ∧ H' D2 = some (.lst us) ∧ KrAt H' us ((wid Tb wd).take j)) ⟨[], same_new nD2, upd_same, by rw [List.take_zero]; exact .nil⟩ (fun j H' _ ⟨_, z, _⟩ => hG H' fun o w => z _ _ w) ?_ ?_⟩
      · rintro j v Hc Hd hj ⟨us, ec, hD2, kr⟩ ⟨rfl, hv⟩
        obtain ⟨R, hR, ra, rfl, hra⟩ := paired_at tab2 hv
        obtain ⟨lR, okR⟩ := okT R (List.mem_of_getElem? hR)
        have jl := (List.getElem?_eq_some_iff.mp hR).1
        refine ⟨rfl, ?_⟩
        unfold tYes
        refine iteT ?_
        refine ⟨_, rfl, _, rfl, ra, wd, R, rfl, ec _ _ hra, by omega, by omega, w1, w2, fun v He ee krv => ?_⟩
        have hDe := ee _ _ hD2
        have hWj : (wid Tb wd)[j]? = some (widen R wd) := by
          unfold wid
          rw [List.getElem?_map, hR]
          rfl
        have lus := Paired.length kr
        rw [List.length_take] at lus
        have bD : ButI D2 He (upd He D2 (.lst (us ++ [v]))) := fun b' o' nb z => (upd_ne nb).trans z
        have nt : ∀ xs, He D2 ≠ some (.tup xs) := fun xs z => by rw [hDe] at z; cases z
        refine ⟨_, hDe, small10 (by omega), us ++ [v], fun b' o' z => ?_, upd_same, ?_⟩
        · rw [upd_ne (ne_of_none z nD2)]
          exact ee _ _ (ec _ _ z)
        · rw [take_snoc hWj]
          cases krv.at_ bD nt with
          | cons a _ => exact Paired.snoc ((kr.same ee).at_ bD nt) a
      rintro Hc ⟨us, ec, hD2, kr⟩
      rw [lts, ← lW, List.take_length] at kr
      refine .inl ⟨D2, us, rfl, SqL.of hD2, fun wt nwt => ?_⟩
      have ed := same_new (o := .tup us) nwt
      have hwt : upd Hc wt (.tup us) wt = some (.tup us) := upd_same
      have krd := kr.same ed
      have ed := ec.trans ed
      generalize upd Hc wt (.tup us) = Hd at ed hwt krd ⊢
      refine ⟨_, rfl, _, rfl, .inl ⟨L, _, rfl, SqL.of (ed _ _ hL2), fun mt nmt => ?_⟩⟩
      have ee0 := same_new (o := .tup (ms.map V.int)) nmt
      have hmt : upd Hd mt (.tup (ms.map V.int)) mt = some (.tup (ms.map V.int)) := upd_same
      have kre := krd.same ee0
      have hwte := ee0 _ _ hwt
      have ee := ed.trans ee0
      generalize upd Hd mt (.tup (ms.map V.int)) = He at ee hmt kre hwte ⊢
      clear ec hD2 kr nwt ed hwt krd nmt ee0
      refine ⟨by show 4 ≤ sizeLine; decide, fun kt nkt => ?_⟩
      have ef0 := same_new (o := .tup [V.int (((sg : Nat) : Int) * ((wd : Nat) : Int)), V.ref wt, V.int st, V.ref mt]) nkt
      have hkt : upd He kt (.tup [V.int (((sg : Nat) : Int) * ((wd : Nat) : Int)), V.ref wt, V.int st, V.ref mt]) kt = some (.tup [V.int ((sg * wd : Nat) : Int), V.ref wt, V.int st, V.ref mt]) := by rw [upd_same, Int.natCast_mul]
      have krf := kre.same ef0
      have hwtf := ef0 _ _ hwte
      have hmtf := ef0 _ _ hmt
      have ef := ee.trans ef0
      generalize upd He kt (.tup [V.int (((sg : Nat) : Int) * ((wd : Nat) : Int)), V.ref wt, V.int st, V.ref mt]) = Hf at ef hkt krf hwtf hmtf ⊢
      clear ee hmt kre hwte nkt ef0
      obtain ⟨dx, tb2, rw_, mk, kd, ts2, us2, h1, h2, h3, h4, h5, h6, h7⟩ := id M2
      have h1f := ef _ _ h1
      refine ⟨_, rfl, p, C, dx, _, _, rfl, h1f, T.cl, T.nS, mf_signs _ _ _ _ _ _, _, rfl, p, C, dx, _, _, rfl, h1f, T.cl, T.nR, mf_rows _ _ _ _ _ _, _, rfl, p, C, dx, _, _, rfl, h1f, T.cl, T.nA, mf_start _ _ _ _ _ _, _, rfl, p, C, dx, _, _, rfl, h1f, T.cl, T.nM, mf_marks _ _ _ _ _ _, by show 4 ≤ sizeLine; decide, fun t1 nt1 => ?_⟩
      have eg0 := same_new (o := .tup [V.int ((sg * wd : Nat) : Int), V.ref rw_, V.int st, V.ref mk]) nt1
      have hu1 : upd Hf t1 (.tup [V.int ((sg * wd : Nat) : Int), V.ref rw_, V.int st, V.ref mk]) t1 = some (.tup [V.int ((sg * wd : Nat) : Int), V.ref rw_, V.int st, V.ref mk]) := upd_same
      have eg := ef.trans eg0
      have hktg := eg0 _ _ hkt
      have krg := krf.same eg0
      have hwtg := eg0 _ _ hwtf
      have hmtg := eg0 _ _ hmtf
      generalize upd Hf t1 (.tup [V.int ((sg * wd : Nat) : Int), V.ref rw_, V.int st, V.ref mk]) = Hg at eg hu1 hktg krg hwtg hmtg ⊢
      refine ⟨_, rfl, (((sg * wd : Nat) : Int), (wid Tb wd).map Kr, st, ms), (((sg * wd : Nat) : Int), (wid Tb wd).map Kr, st, ms), .tup (SqT.of hu1) (.cons (.int _) (.cons (dp_rows (eg _ _ h4) (h5.same eg)) (.cons (.int _) (.cons (dp_ints (eg _ _ h6)) .nil)))), .tup (SqT.of hktg) (.cons (.int _) (.cons (dp_rows hwtg krg) (.cons (.int _) (.cons (dp_ints hmtg) .nil)))), _, rfl, ?_⟩
      rw [decide_eq_true rfl]
      have h1g := eg _ _ h1
      have Mg := M2.same eg
      refine iteF ⟨_, rfl, _, rfl, p, dx, _, .type "tuple", rfl, h1g, .base (.tup hktg), x2, p, .ref kt, _, _, st, ms, rfl, Mg, O, .inr ⟨kt, _, rfl, hktg, ⟨_, rfl⟩, _, rfl, iteF ?_⟩⟩
      have htbg := eg _ _ htb2
      have tabg := tab2.same eg
      have hLg := eg _ _ hL2
      have peng := pen2.same eg
      clear h1f hu1 hktg krg hwtg hmtg krf hwtf hmtf hkt ef eg0 eg nt1 M2 h1 h2 h3 h4 h5 h6 h7 hL2 htb2 tab2 pen2
      have tbg : tb ≠ pn := peng.ne htbg fun _ z => nomatch z
      refine ⟨_, rfl, _, rfl, _, rfl, _, _, rfl, rfl, .inl ⟨by omega, by omega⟩, _, rfl, tb, ts, rfl, .inl (SqL.of htbg), fun J G wk hG D5 nD5 => lc_it wk (fun j H' => ∃ rvs : List V, But pn Hg H' ∧ Pen H' pn cl (i * 600 + 270 + j * 30) ∧ H' D5 = some (.lst rvs) ∧ RowsN D5 H' (sg * wd) (Tb.length : Int) rvs ((wid Tb wd).take j))
        ⟨[], same_but (same_new nD5), peng.same (same_new nD5), upd_same, by rw [List.take_zero]; exact .nil⟩ (fun j H' _ ⟨_, z, _⟩ => hG H' fun o w => z _ _ tbg w) ?_ ?_⟩
      · rintro j v Ha Hb hj ⟨rvs, ba, pena, hD, rows⟩ ⟨rfl, hv⟩
        obtain ⟨R, hR, ra, rfl, hra⟩ := paired_at tabg hv
        have hraa := ba _ _ (peng.ne hra fun _ z => nomatch z) hra
        obtain ⟨lR, okR⟩ := okT R (List.mem_of_getElem? hR)
        have npD := peng.off nD5
        have jl := (List.getElem?_eq_some_iff.mp hR).1
        refine ⟨rfl, ?_⟩
        unfold tYes
        refine iteT ?_
        refine ⟨_, rfl, _, rfl, _, rfl, pn, cl, ra, _, wd, Tb.length, R, rfl, pena, by omega, hraa, by omega, by omega, w1, w2, okR, fun v a mv Hk bc penc hrow okm a1 a2 ex nu => ?_⟩
        have hDc := bc _ _ (Ne.symm npD.1) hD
        rw [lR] at okm ex
        have rowsc := rows.but bc pena.nl pena.nt
        have hWj : (wid Tb wd)[j]? = some (widen R wd) := by
          unfold wid
          rw [List.getElem?_map, hR]
          rfl
        have lrv := Paired.length rows
        rw [List.length_take] at lrv
        refine ⟨_, hDc, small10 (by omega), rvs ++ [v], fun b' o' nb z => ?_, (penc.upd npD.1 npD.2).mono (by omega), upd_same, ?_⟩
        · rw [upd_ne (ne_of_none z nD5)]
          exact bc _ _ nb (ba _ _ nb z)
        · rw [take_snoc hWj]
          refine Paired.snoc (rowsc.put hDc) ⟨a, mv, RowN.put ?_ hDc, okm, a1, a2, ex⟩
          obtain ⟨t, u, tv, ev, h1, h2, h3⟩ := hrow
          refine ⟨t, u, tv, ev, h1, h2, fun z => ?_, h3⟩
          rcases nu t u ev h1 with ⟨xs, z2⟩ | z2
          · rw [z, hDc] at z2
            cases z2
          · rw [z, hD] at z2
            cases z2
      rintro Hq ⟨rvs5, bq, penq, hD5, rows5⟩
      rw [lts, ← lW, List.take_length] at rows5
      have Mq := Mg.but peng bq
      have hLq := bq _ _ (peng.ne hLg fun _ z => nomatch z) hLg
      have htbq := bq _ _ tbg htbg
      have tabq := tabg.but bq peng.nl
      have penq := penq.mono (show i * 600 + 270 + ts.length * 30 ≤ i * 600 + 420 by omega)
      clear h1g bq peng Mg hLg htbg tabg tbg
      refine ⟨_, rfl, _, rfl, ?_⟩
      refine mk_ok2 (n := sg * wd) (.inl hD5) (by rw [lW]; rw [lW] at rows5; exact rows5.rows) (.inl hLq) O fun p2 Hr np2 er Mp2 => ?_
      have Mr := Mq.same er
      have htbr := er _ _ htbq
      have tabr := tabq.same er
      have penr := penq.same er
      clear Mq hLq htbq tabq penq er hD5 rows5
      obtain ⟨dx, tb2, rw_, mk, kd, ts2, us2, h1, h2, h3, h4, h5, h6, h7⟩ := id Mr
      refine ⟨p, dx, _, .ref C, rfl, h1, Mp2.ty T TE, x1, p, .ref p2, _, _, st, ms, rfl, Mr, O, .inl ⟨p2, _, _, st, ms, rfl, Mp2, O, ⟨_, rfl⟩, _, rfl, ?_⟩⟩
      rw [decide_eq_true ⟨rfl, rfl, rfl, rfl⟩]
      refine iteF ?_
      refine ⟨_, rfl, _, rfl, _, rfl, p, tb, sg, wd, Tb, st, ms, ts, rfl, Mr, O, htbr, tabr, okT, s1, s8, T5, w1, w2, fun l Ho qs nl eo hl all lq => ?_⟩
      have Mo := Mr.same eo
      have htbo := eo _ _ htbr
      have tabo := tabr.same eo
      have peno := penr.same eo
      have h1o := eo _ _ h1
      refine ⟨l, qs, rfl, .inl (SqL.of hl), fun J G wk hG D6 nD6 => lc_it wk (fun j H' => Same Ho H' ∧ H' D6 = some (.lst ((List.range j).map fun _ => V.bl false))) ⟨same_new nD6, upd_same⟩ (fun j H' _ z => hG H' fun o w => z.1 _ _ w) ?_ ?_⟩
      · rintro j v Hb Hc hj ⟨eb, hD6⟩ ⟨rfl, hv⟩
        obtain ⟨q2, n2, Ls2, st2, ms2, rfl, M3, O3, ne3⟩ := (all v (List.mem_of_getElem? hv)).same eb
        refine ⟨rfl, ?_⟩
        unfold tYes
        refine iteT ?_
        refine ⟨_, rfl, _, rfl, p, dx, _, .ref C, rfl, eb _ _ h1o, M3.ty T TE, x1, p, .ref q2, _, _, st, ms, rfl, Mo.same eb, O, .inl ⟨q2, n2, Ls2, st2, ms2, rfl, M3, O3, ⟨_, rfl⟩, ?_⟩⟩
        rw [decide_eq_false ne3]
        refine ⟨_, hD6, by rw [List.length_map, List.length_range]; exact small10 (by omega), fun b' o' z => ?_, ?_⟩
        · rw [upd_ne (ne_of_none z nD6)]
          exact eb _ _ z
        · rw [upd_same, List.range_succ, List.map_append]
          rfl
      rintro Hb ⟨eb, hD6⟩
      refine ⟨D6, _, rfl, .inl (SqL.of hD6), rfl, flat_false _, _, rfl, ?_⟩
      rw [show (if false = true then !inV (V.bl true) ((List.range qs.length).map fun _ => V.bl false) else inV (V.bl true) ((List.range qs.length).map fun _ => V.bl false)) = false from no_true _]
      refine iteF ?_
      refine ⟨_, rfl, _, rfl, _, rfl, _, rfl, pn, cl, p, tb, _, sg, wd, Tb, st, ms, ts, rfl, peno.same eb, by omega, Mo.same eb, O, eb _ _ htbo, tabo.same eb, okT, s1, s8, T5, w1, w2, fun Hz bz penz => ?_⟩
      have h1z := bz _ _ ((peno.same eb).ne (eb _ _ h1o) fun _ z => nomatch z) (eb _ _ h1o)
      refine ⟨_, rfl, iteF ⟨_, rfl, p, C, dx, _, _, rfl, h1z, T.cl, T.nA, mf_start _ _ _ _ _ _, _, rfl, rfl, _, rfl, ?_⟩⟩
      rw [dec_int]
      rw [show (st == st) = true by simp]
      refine iteF ⟨_, _, _, _, _, _, _, _, _, _, rfl, penz.mono (by omega)⟩
    · rintro σ H2 ⟨v2, v3, v4, v5, v6, v7, v8, v9, v10, v11, rfl, pen2⟩
      exact q H2
end
end K17
set_option Elab.async false
set_option linter.all false
set_option maxRecDepth 100001
set_option maxHeartbeats 3999999
namespace K17
open PySem L2
/-! ### what the top leaves -/
def fa0 : List He.Fa := [.glo "is_whole", .glo "is_between", .glo "is_list", .glo "is_tuple_of", .glo "first_wrong_sign", .glo "is_row", .glo "stretch_row", .glo "put_stretch", .glo "told_row", .glo "target_of", .glo "machine_of", .glo "inverted", .glo "_law_pen", .glo "_law_draw", .glo "_law_pick", .glo "_law_table", .glo "_law_told", .glo "_law_kept", .glo "_law_others", .glo "_law_is_walked", .glo "law", .glo "Machine", .free "isinstance", .free "int", .free "bool", .free "tuple", .free "list", .free "dict", .free "len", .free "enumerate"]
def fa1 : List He.Fa := [.free "range", .free "abs", .free "max", .free "min", .int "MOST_SIGNS" 2000, .int "MOST_STATES" 2000, .cls "Machine", .mkr "Machine", .noat "Machine" "signs", .noat "Machine" "table", .noat "Machine" "rows", .noat "Machine" "start", .noat "Machine" "marks", .noat "Machine" "kinds", .meth "Machine" "__init__", .meth "Machine" "__eq__", .meth "Machine" "state_behind", .meth "Machine" "has_text", .meth "Machine" "marked_in", .meth "Machine" "begun_at", .meth "Machine" "_check_state", .meth "Machine" "_check_row"]
def faA : List He.Fa := fa0 ++ fa1
def dd0 : He.DefD := ⟨("is_whole", none), "is_whole", "is_whole", defArgs sWhole, defBody sWhole, defScope sWhole, [], []⟩
def dd1 : He.DefD := ⟨("is_between", none), "is_between", "is_between", defArgs sBetween, defBody sBetween, defScope sBetween, [], []⟩
def dd2 : He.DefD := ⟨("is_list", none), "is_list", "is_list", defArgs sList, defBody sList, defScope sList, [], []⟩
def dd3 : He.DefD := ⟨("is_tuple_of", none), "is_tuple_of", "is_tuple_of", defArgs sTupOf, defBody sTupOf, defScope sTupOf, [], []⟩
def dd4 : He.DefD := ⟨("first_wrong_sign", none), "first_wrong_sign", "first_wrong_sign", defArgs sWrongS, defBody sWrongS, defScope sWrongS, [], []⟩
def dd5 : He.DefD := ⟨("is_row", none), "is_row", "is_row", defArgs sIsRow, defBody sIsRow, defScope sIsRow, [], []⟩
def dd6 : He.DefD := ⟨("stretch_row", none), "stretch_row", "stretch_row", defArgs sStr, defBody sStr, defScope sStr, [], []⟩
def dd7 : He.DefD := ⟨("put_stretch", none), "put_stretch", "put_stretch", defArgs sPut, defBody sPut, defScope sPut, [], []⟩
def dd8 : He.DefD := ⟨("told_row", none), "told_row", "told_row", defArgs sTold, defBody sTold, defScope sTold, [], []⟩
def dd9 : He.DefD := ⟨("target_of", none), "target_of", "target_of", defArgs sTarget, defBody sTarget, defScope sTarget, [], []⟩
def dd10 : He.DefD := ⟨("machine_of", none), "machine_of", "machine_of", defArgs sMof, defBody sMof, defScope sMof, [], []⟩
def dd11 : He.DefD := ⟨("inverted", none), "inverted", "inverted", defArgs sInv, defBody sInv, defScope sInv, [], []⟩
def dd12 : He.DefD := ⟨("_law_pen", none), "_law_pen", "_law_pen", defArgs sPen, defBody sPen, defScope sPen, [], []⟩
def dd13 : He.DefD := ⟨("_law_draw", none), "_law_draw", "_law_draw", defArgs sDraw, defBody sDraw, defScope sDraw, [], []⟩
def dd14 : He.DefD := ⟨("_law_pick", none), "_law_pick", "_law_pick", defArgs sPick, defBody sPick, defScope sPick, [], []⟩
def dd15 : He.DefD := ⟨("_law_table", none), "_law_table", "_law_table", defArgs sTab, defBody sTab, defScope sTab, [], []⟩
def dd16 : He.DefD := ⟨("_law_told", none), "_law_told", "_law_told", defArgs sLTo, defBody sLTo, defScope sLTo, [], []⟩
def dd17 : He.DefD := ⟨("_law_kept", none), "_law_kept", "_law_kept", defArgs sKept, defBody sKept, defScope sKept, [], []⟩
def dd18 : He.DefD := ⟨("_law_others", none), "_law_others", "_law_others", defArgs sOth, defBody sOth, defScope sOth, [], []⟩
def dd19 : He.DefD := ⟨("_law_is_walked", none), "_law_is_walked", "_law_is_walked", defArgs sWlk, defBody sWlk, defScope sWlk, [], []⟩
def dd20 : He.DefD := ⟨("law", none), "law", "law", defArgs sLaw, defBody sLaw, defScope sLaw, [], []⟩
def dd21 : He.DefD := ⟨("Machine", some "__init__"), "__init__", "Machine.__init__", defArgs sInit, defBody sInit, defScope sInit, [], []⟩
def dd22 : He.DefD := ⟨("Machine", some "__eq__"), "__eq__", "Machine.__eq__", defArgs sEq, defBody sEq, defScope sEq, [], []⟩
def dd23 : He.DefD := ⟨("Machine", some "state_behind"), "state_behind", "Machine.state_behind", defArgs sBeh, defBody sBeh, defScope sBeh, [], []⟩
def dd24 : He.DefD := ⟨("Machine", some "has_text"), "has_text", "Machine.has_text", defArgs sHas, defBody sHas, defScope sHas, [], []⟩
def dd25 : He.DefD := ⟨("Machine", some "marked_in"), "marked_in", "Machine.marked_in", defArgs sMkd, defBody sMkd, defScope sMkd, [], []⟩
def dd26 : He.DefD := ⟨("Machine", some "begun_at"), "begun_at", "Machine.begun_at", defArgs sBeg, defBody sBeg, defScope sBeg, [], []⟩
def dd27 : He.DefD := ⟨("Machine", some "_check_state"), "_check_state", "Machine._check_state", defArgs sCkS, defBody sCkS, defScope sCkS, [], []⟩
def dd28 : He.DefD := ⟨("Machine", some "_check_row"), "_check_row", "Machine._check_row", defArgs sCkR, defBody sCkR, defScope sCkR, [], []⟩
def fnA : List He.DefD := [dd0, dd1, dd2, dd3, dd4, dd5, dd6, dd7, dd8, dd9, dd10, dd11, dd12, dd13, dd14, dd15, dd16, dd17, dd18, dd19, dd20, dd21, dd22, dd23, dd24, dd25, dd26, dd27, dd28]
/-- what else is asked of K -/
def exA (K : PySem.W.Frag) : Bool := (He.eqO (PySem.W.findIn K (.ref (He.ga K "Machine")) "__class__") (some (some (.builtin "object.__class__"))) && (He.eqO (PySem.W.specialIn K (.builtin "object.__class__") "__get__") (some (some (.builtin "getset_descriptor.__get__"))) && (decide (PySem.W.takesIn K (.builtin "object.__class__") = some true) && (decide (PySem.W.mroIn K (He.ga K "Machine") (.type "object") = some true) && decide (PySem.W.kitOne K (.type "tuple") (.ref (He.ga K "Machine")) = some false))))) && (PySem.W.notFirst K (He.ga K "Machine") (.ref (He.ga K "Machine")) && PySem.W.notFirst K (He.ga K "Machine") (.type "tuple"))
theorem fun_ofD {K : PySem.W.Frag} {x qual : Str} {st : Stmt} {f : Addr} {fd : FuncData} (F : FunD K x qual (defArgs st) (defBody st) (defScope st) [] [] f fd) : Fun K x qual st f fd := by
  obtain ⟨oc, od, dV, kV, doc, pm, an, cdv, ct, osl, e, lk, hcd, dv, _⟩ := F.ex
  rcases dv with ⟨_, rfl⟩ | ⟨h, _⟩
  · exact ⟨⟨oc, od, kV, doc, pm, an, cdv, ct, osl, e, lk, hcd⟩, F.kp⟩
  · exact absurd rfl h
/-- the law's promise, of what the top leaves -/
theorem at_law {l : PySem.W.OpenLaw} {w : World} {K : PySem.W.Frag} {h : Heap} {mg : Str → Option Value} {fl : Addr} (KX : K.In h) (G : h.Ns mainGlobals mg) (hfl : mg ("law" : Str) = some (.ref fl)) (c : He.SaysD faA fnA K) (ex : exA K = true) :
    LamX.LawAtS l w K CX0 9 63 "_law_script" mg fl h := by
  obtain ⟨xT, xN⟩ := He.ba ex
  obtain ⟨y1, xT⟩ := He.ba xT
  obtain ⟨y2, xT⟩ := He.ba xT
  obtain ⟨y3, xT⟩ := He.ba xT
  obtain ⟨y4, y5⟩ := He.ba xT
  obtain ⟨n1, n2⟩ := He.ba xN
  have B : Bi mg := ⟨He.free_ok KX G (c.fact 22 (f := .free "isinstance") rfl), He.free_ok KX G (c.fact 23 (f := .free "int") rfl), He.free_ok KX G (c.fact 24 (f := .free "bool") rfl), He.free_ok KX G (c.fact 25 (f := .free "tuple") rfl), He.free_ok KX G (c.fact 26 (f := .free "list") rfl), He.free_ok KX G (c.fact 27 (f := .free "dict") rfl), He.free_ok KX G (c.fact 28 (f := .free "len") rfl), He.free_ok KX G (c.fact 29 (f := .free "enumerate") rfl), He.free_ok KX G (c.fact 30 (f := .free "range") rfl), He.free_ok KX G (c.fact 31 (f := .free "abs") rfl), He.free_ok KX G (c.fact 32 (f := .free "max") rfl), He.free_ok KX G (c.fact 33 (f := .free "min") rfl)⟩
  obtain ⟨z1, g1⟩ := He.int_ok KX G (c.fact 34 (f := .int "MOST_SIGNS" 2000) rfl)
  obtain ⟨z2, g2⟩ := He.int_ok KX G (c.fact 35 (f := .int "MOST_STATES" 2000) rfl)
  have Z : Cs mg := ⟨⟨_, g1, ⟨_, rfl⟩⟩, ⟨_, g2, ⟨_, rfl⟩⟩⟩
  obtain ⟨d0, D0⟩ := c.def_ 0 (d := dd0) rfl
  have F0 : Fun K "is_whole" "is_whole" sWhole (He.ga K "is_whole") d0 := fun_ofD D0
  have b0 : Binds K d0 ["value"] [] := F0.binds fun _ _ _ _ _ _ us hl => match us, hl with | [_], _ => rfl
  obtain ⟨d1, D1⟩ := c.def_ 1 (d := dd1) rfl
  have F1 : Fun K "is_between" "is_between" sBetween (He.ga K "is_between") d1 := fun_ofD D1
  have b1 : Binds K d1 ["value", "low", "high"] [] := F1.binds fun _ _ _ _ _ _ us hl => match us, hl with | [_, _, _], _ => rfl
  obtain ⟨d2, D2⟩ := c.def_ 2 (d := dd2) rfl
  have F2 : Fun K "is_list" "is_list" sList (He.ga K "is_list") d2 := fun_ofD D2
  have b2 : Binds K d2 ["value"] [] := F2.binds fun _ _ _ _ _ _ us hl => match us, hl with | [_], _ => rfl
  obtain ⟨d3, D3⟩ := c.def_ 3 (d := dd3) rfl
  have F3 : Fun K "is_tuple_of" "is_tuple_of" sTupOf (He.ga K "is_tuple_of") d3 := fun_ofD D3
  have b3 : Binds K d3 ["value", "size"] [] := F3.binds fun _ _ _ _ _ _ us hl => match us, hl with | [_, _], _ => rfl
  obtain ⟨d4, D4⟩ := c.def_ 4 (d := dd4) rfl
  have F4 : Fun K "first_wrong_sign" "first_wrong_sign" sWrongS (He.ga K "first_wrong_sign") d4 := fun_ofD D4
  have b4 : Binds K d4 ["row", "signs"] [] := F4.binds fun _ _ _ _ _ _ us hl => match us, hl with | [_, _], _ => rfl
  obtain ⟨d5, D5⟩ := c.def_ 5 (d := dd5) rfl
  have F5 : Fun K "is_row" "is_row" sIsRow (He.ga K "is_row") d5 := fun_ofD D5
  have b5 : Binds K d5 ["row", "signs", "states"] [] := F5.binds fun _ _ _ _ _ _ us hl => match us, hl with | [_, _, _], _ => rfl
  obtain ⟨d6, D6⟩ := c.def_ 6 (d := dd6) rfl
  have F6 : Fun K "stretch_row" "stretch_row" sStr (He.ga K "stretch_row") d6 := fun_ofD D6
  have b6 : Binds K d6 ["away", "moves", "signs"] [] := F6.binds fun _ _ _ _ _ _ us hl => match us, hl with | [_, _, _], _ => rfl
  obtain ⟨d7, D7⟩ := c.def_ 7 (d := dd7) rfl
  have F7 : Fun K "put_stretch" "put_stretch" sPut (He.ga K "put_stretch") d7 := fun_ofD D7
  have b7 : Binds K d7 ["told", "first", "state"] [] := F7.binds fun _ _ _ _ _ _ us hl => match us, hl with | [_, _, _], _ => rfl
  obtain ⟨d8, D8⟩ := c.def_ 8 (d := dd8) rfl
  have F8 : Fun K "told_row" "told_row" sTold (He.ga K "told_row") d8 := fun_ofD D8
  have b8 : Binds K d8 ["row", "signs"] [] := F8.binds fun _ _ _ _ _ _ us hl => match us, hl with | [_, _], _ => rfl
  obtain ⟨d9, D9⟩ := c.def_ 9 (d := dd9) rfl
  have F9 : Fun K "target_of" "target_of" sTarget (He.ga K "target_of") d9 := fun_ofD D9
  have b9 : Binds K d9 ["row", "sign"] [] := F9.binds fun _ _ _ _ _ _ us hl => match us, hl with | [_, _], _ => rfl
  obtain ⟨d10, D10⟩ := c.def_ 10 (d := dd10) rfl
  have F10 : Fun K "machine_of" "machine_of" sMof (He.ga K "machine_of") d10 := fun_ofD D10
  have b10 : Binds K d10 ["signs", "table", "start", "kinds"] [] := F10.binds fun _ _ _ _ _ _ us hl => match us, hl with | [_, _, _, _], _ => rfl
  obtain ⟨d11, D11⟩ := c.def_ 11 (d := dd11) rfl
  have F11 : Fun K "inverted" "inverted" sInv (He.ga K "inverted") d11 := fun_ofD D11
  have b11 : Binds K d11 ["machine"] [] := F11.binds fun _ _ _ _ _ _ us hl => match us, hl with | [_], _ => rfl
  obtain ⟨d12, D12⟩ := c.def_ 12 (d := dd12) rfl
  have F12 : Fun K "_law_pen" "_law_pen" sPen (He.ga K "_law_pen") d12 := fun_ofD D12
  have b12 : Binds K d12 ["_law_script"] [] := F12.binds fun _ _ _ _ _ _ us hl => match us, hl with | [_], _ => rfl
  obtain ⟨d13, D13⟩ := c.def_ 13 (d := dd13) rfl
  have F13 : Fun K "_law_draw" "_law_draw" sDraw (He.ga K "_law_draw") d13 := fun_ofD D13
  have b13 : Binds K d13 ["_law_pen_here", "_law_many"] [] := F13.binds fun _ _ _ _ _ _ us hl => match us, hl with | [_, _], _ => rfl
  obtain ⟨d14, D14⟩ := c.def_ 14 (d := dd14) rfl
  have F14 : Fun K "_law_pick" "_law_pick" sPick (He.ga K "_law_pick") d14 := fun_ofD D14
  have b14 : Binds K d14 ["_law_pen_here", "_law_some"] [] := F14.binds fun _ _ _ _ _ _ us hl => match us, hl with | [_, _], _ => rfl
  obtain ⟨d15, D15⟩ := c.def_ 15 (d := dd15) rfl
  have F15 : Fun K "_law_table" "_law_table" sTab (He.ga K "_law_table") d15 := fun_ofD D15
  have b15 : Binds K d15 ["_law_pen_here", "_law_signs"] [] := F15.binds fun _ _ _ _ _ _ us hl => match us, hl with | [_, _], _ => rfl
  obtain ⟨d16, D16⟩ := c.def_ 16 (d := dd16) rfl
  have F16 : Fun K "_law_told" "_law_told" sLTo (He.ga K "_law_told") d16 := fun_ofD D16
  have b16 : Binds K d16 ["_law_pen_here", "_law_row", "_law_wide"] [] := F16.binds fun _ _ _ _ _ _ us hl => match us, hl with | [_, _, _], _ => rfl
  obtain ⟨d17, D17⟩ := c.def_ 17 (d := dd17) rfl
  have F17 : Fun K "_law_kept" "_law_kept" sKept (He.ga K "_law_kept") d17 := fun_ofD D17
  have b17 : Binds K d17 ["_law_row", "_law_wide"] [] := F17.binds fun _ _ _ _ _ _ us hl => match us, hl with | [_, _], _ => rfl
  obtain ⟨d18, D18⟩ := c.def_ 18 (d := dd18) rfl
  have F18 : Fun K "_law_others" "_law_others" sOth (He.ga K "_law_others") d18 := fun_ofD D18
  have b18 : Binds K d18 ["_law_machine", "_law_table_here", "_law_wide"] [] := F18.binds fun _ _ _ _ _ _ us hl => match us, hl with | [_, _, _], _ => rfl
  obtain ⟨d19, D19⟩ := c.def_ 19 (d := dd19) rfl
  have F19 : Fun K "_law_is_walked" "_law_is_walked" sWlk (He.ga K "_law_is_walked") d19 := fun_ofD D19
  have b19 : Binds K d19 ["_law_pen_here", "_law_machine", "_law_table_here", "_law_wide"] [] := F19.binds fun _ _ _ _ _ _ us hl => match us, hl with | [_, _, _, _], _ => rfl
  obtain ⟨d20, D20⟩ := c.def_ 20 (d := dd20) rfl
  have F20 : Fun K "law" "law" sLaw (He.ga K "law") d20 := fun_ofD D20
  have b20 : Binds K d20 ["_law_script"] [] := F20.binds fun _ _ _ _ _ _ us hl => match us, hl with | [_], _ => rfl
  obtain ⟨d21, D21⟩ := c.def_ 21 (d := dd21) rfl
  have F21 : Fun K "__init__" "Machine.__init__" sInit (He.ma K (He.ga K "Machine") "__init__") d21 := fun_ofD D21
  have b21 : Binds K d21 ["self", "signs", "rows", "start", "marks"] [] := F21.binds fun _ _ _ _ _ _ us hl => match us, hl with | [_, _, _, _, _], _ => rfl
  have m21 : Meth K (He.ga K "Machine") "__init__" (He.ma K (He.ga K "Machine") "__init__") := He.meth_ok (c.fact 44 (f := .meth "Machine" "__init__") rfl)
  obtain ⟨d22, D22⟩ := c.def_ 22 (d := dd22) rfl
  have F22 : Fun K "__eq__" "Machine.__eq__" sEq (He.ma K (He.ga K "Machine") "__eq__") d22 := fun_ofD D22
  have b22 : Binds K d22 ["self", "other"] [] := F22.binds fun _ _ _ _ _ _ us hl => match us, hl with | [_, _], _ => rfl
  have m22 : Meth K (He.ga K "Machine") "__eq__" (He.ma K (He.ga K "Machine") "__eq__") := He.meth_ok (c.fact 45 (f := .meth "Machine" "__eq__") rfl)
  obtain ⟨d23, D23⟩ := c.def_ 23 (d := dd23) rfl
  have F23 : Fun K "state_behind" "Machine.state_behind" sBeh (He.ma K (He.ga K "Machine") "state_behind") d23 := fun_ofD D23
  have b23 : Binds K d23 ["self", "state", "row"] [] := F23.binds fun _ _ _ _ _ _ us hl => match us, hl with | [_, _, _], _ => rfl
  have m23 : Meth K (He.ga K "Machine") "state_behind" (He.ma K (He.ga K "Machine") "state_behind") := He.meth_ok (c.fact 46 (f := .meth "Machine" "state_behind") rfl)
  obtain ⟨d24, D24⟩ := c.def_ 24 (d := dd24) rfl
  have F24 : Fun K "has_text" "Machine.has_text" sHas (He.ma K (He.ga K "Machine") "has_text") d24 := fun_ofD D24
  have b24 : Binds K d24 ["self", "row"] [] := F24.binds fun _ _ _ _ _ _ us hl => match us, hl with | [_, _], _ => rfl
  have m24 : Meth K (He.ga K "Machine") "has_text" (He.ma K (He.ga K "Machine") "has_text") := He.meth_ok (c.fact 47 (f := .meth "Machine" "has_text") rfl)
  obtain ⟨d25, D25⟩ := c.def_ 25 (d := dd25) rfl
  have F25 : Fun K "marked_in" "Machine.marked_in" sMkd (He.ma K (He.ga K "Machine") "marked_in") d25 := fun_ofD D25
  have b25 : Binds K d25 ["self", "row"] [] := F25.binds fun _ _ _ _ _ _ us hl => match us, hl with | [_, _], _ => rfl
  have m25 : Meth K (He.ga K "Machine") "marked_in" (He.ma K (He.ga K "Machine") "marked_in") := He.meth_ok (c.fact 48 (f := .meth "Machine" "marked_in") rfl)
  obtain ⟨d26, D26⟩ := c.def_ 26 (d := dd26) rfl
  have F26 : Fun K "begun_at" "Machine.begun_at" sBeg (He.ma K (He.ga K "Machine") "begun_at") d26 := fun_ofD D26
  have b26 : Binds K d26 ["self", "state"] [] := F26.binds fun _ _ _ _ _ _ us hl => match us, hl with | [_, _], _ => rfl
  have m26 : Meth K (He.ga K "Machine") "begun_at" (He.ma K (He.ga K "Machine") "begun_at") := He.meth_ok (c.fact 49 (f := .meth "Machine" "begun_at") rfl)
  obtain ⟨d27, D27⟩ := c.def_ 27 (d := dd27) rfl
  have F27 : Fun K "_check_state" "Machine._check_state" sCkS (He.ma K (He.ga K "Machine") "_check_state") d27 := fun_ofD D27
  have b27 : Binds K d27 ["self", "state"] [] := F27.binds fun _ _ _ _ _ _ us hl => match us, hl with | [_, _], _ => rfl
  have m27 : Meth K (He.ga K "Machine") "_check_state" (He.ma K (He.ga K "Machine") "_check_state") := He.meth_ok (c.fact 50 (f := .meth "Machine" "_check_state") rfl)
  obtain ⟨d28, D28⟩ := c.def_ 28 (d := dd28) rfl
  have F28 : Fun K "_check_row" "Machine._check_row" sCkR (He.ma K (He.ga K "Machine") "_check_row") d28 := fun_ofD D28
  have b28 : Binds K d28 ["self", "row"] [] := F28.binds fun _ _ _ _ _ _ us hl => match us, hl with | [_, _], _ => rfl
  have m28 : Meth K (He.ga K "Machine") "_check_row" (He.ma K (He.ga K "Machine") "_check_row") := He.meth_ok (c.fact 51 (f := .meth "Machine" "_check_row") rfl)
  have TX : Txt K (He.ga K "Machine") := ⟨He.cls_ok (c.fact 36 (f := .cls "Machine") rfl), He.noat_ok (c.fact 38 (f := .noat "Machine" "signs") rfl), He.noat_ok (c.fact 39 (f := .noat "Machine" "table") rfl), He.noat_ok (c.fact 40 (f := .noat "Machine" "rows") rfl), He.noat_ok (c.fact 41 (f := .noat "Machine" "start") rfl), He.noat_ok (c.fact 42 (f := .noat "Machine" "marks") rfl), He.noat_ok (c.fact 43 (f := .noat "Machine" "kinds") rfl)⟩
  have TE : TxE K (He.ga K "Machine") := ⟨He.eqO_ok y1, He.eqO_ok y2, of_decide_eq_true y3, of_decide_eq_true y4, of_decide_eq_true y5⟩
  have MK : Mk K (He.ga K "Machine") (He.ma K (He.ga K "Machine") "__init__") := He.mkr_ok (c.fact 37 (f := .mkr "Machine") rfl)
  have el : fl = He.ga K "law" := by
    have e := hfl.symm.trans (He.glo_ok KX G (c.fact 20 (f := .glo "law") rfl))
    cases e
    rfl
  subst el
  refine ⟨d20, [], spLaw K, ?_, ?_, ?_, ?_, ?_, ?_⟩
  · exact fun p hp => nomatch hp
  · exact fun p hp => nomatch hp
  · exact fun p hp => nomatch hp
  · exact fun s u => FunD.bindsA (ps := ["_law_script"]) D20 (fun _ _ _ _ _ _ us hl => match us, hl with | [_], _ => rfl) s [u] rfl
  · intro H a ns hl hb hH hS
    exact ⟨a, ns, rfl, hS, fun _ => rfl⟩
  · intro base KB GB TB
    have cWh : Cal CX0 l.prog w K mg base 1 "is_whole" spWhole := ⟨_, d0, _, ok_whole F0 B, (He.glo_ok KX G (c.fact 0 (f := .glo "is_whole") rfl)), F0.kp, b0⟩
    have cB : Cal CX0 l.prog w K mg base 2 "is_between" spBetween := ⟨_, d1, _, ok_between F1 cWh, (He.glo_ok KX G (c.fact 1 (f := .glo "is_between") rfl)), F1.kp, b1⟩
    have cLi : Cal CX0 l.prog w K mg base 1 "is_list" spList := ⟨_, d2, _, ok_list F2 B, (He.glo_ok KX G (c.fact 2 (f := .glo "is_list") rfl)), F2.kp, b2⟩
    have cTu : Cal CX0 l.prog w K mg base 1 "is_tuple_of" spTupOf := ⟨_, d3, _, ok_tupOf F3 B, (He.glo_ok KX G (c.fact 3 (f := .glo "is_tuple_of") rfl)), F3.kp, b3⟩
    have cF : Cal CX0 l.prog w K mg base 3 "first_wrong_sign" spFws := ⟨_, d4, _, ok_fws F4 B cB, (He.glo_ok KX G (c.fact 4 (f := .glo "first_wrong_sign") rfl)), F4.kp, b4⟩
    have cR : Cal CX0 l.prog w K mg base 3 "is_row" spIsRow := ⟨_, d5, _, ok_isRow F5 B cTu cB cLi, (He.glo_ok KX G (c.fact 5 (f := .glo "is_row") rfl)), F5.kp, b5⟩
    have cPu : Cal CX0 l.prog w K mg base 1 "put_stretch" spPut := ⟨_, d7, _, ok_put F7, (He.glo_ok KX G (c.fact 7 (f := .glo "put_stretch") rfl)), F7.kp, b7⟩
    have cS : Cal CX0 l.prog w K mg base 2 "stretch_row" spStr := ⟨_, d6, _, ok_str F6 B cPu, (He.glo_ok KX G (c.fact 6 (f := .glo "stretch_row") rfl)), F6.kp, b6⟩
    have cTd : Cal CX0 l.prog w K mg base 1 "told_row" spTold := ⟨_, d8, _, ok_told F8 B, (He.glo_ok KX G (c.fact 8 (f := .glo "told_row") rfl)), F8.kp, b8⟩
    have cTg : Cal CX0 l.prog w K mg base 1 "target_of" spTarget := ⟨_, d9, _, ok_target F9 B, (He.glo_ok KX G (c.fact 9 (f := .glo "target_of") rfl)), F9.kp, b9⟩
    have mk : Mak CX0 l.prog w K mg base 4 "Machine" (He.ga K "Machine") (spInit (He.ga K "Machine")) := ⟨_, d21, _, MK, ok_init F21 B TX Z cB cR cS cTd, (He.glo_ok KX G (c.fact 21 (f := .glo "Machine") rfl)), b21⟩
    have mS : Met CX0 l.prog w K mg base 3 (He.ga K "Machine") "_check_state" (spCkS (He.ga K "Machine")) := ⟨_, d27, _, TX.cl, m27, ok_ckS F27 B TX cB, b27⟩
    have mR : Met CX0 l.prog w K mg base 4 (He.ga K "Machine") "_check_row" (spCkR (He.ga K "Machine")) := ⟨_, d28, _, TX.cl, m28, ok_ckR F28 B TX cF, b28⟩
    have mB : Met CX0 l.prog w K mg base 5 (He.ga K "Machine") "state_behind" (spBeh (He.ga K "Machine")) := ⟨_, d23, _, TX.cl, m23, ok_beh F23 B TX mS mR cTg, b23⟩
    have mH : Met CX0 l.prog w K mg base 6 (He.ga K "Machine") "has_text" (spHas (He.ga K "Machine")) := ⟨_, d24, _, TX.cl, m24, ok_has F24 B TX mB, b24⟩
    have mM : Met CX0 l.prog w K mg base 5 (He.ga K "Machine") "marked_in" (spMkd (He.ga K "Machine")) := ⟨_, d25, _, TX.cl, m25, ok_mkd F25 B TX mR cTg, b25⟩
    have mG : Met CX0 l.prog w K mg base 6 (He.ga K "Machine") "begun_at" (spBeg (He.ga K "Machine")) := ⟨_, d26, _, TX.cl, m26, ok_beg F26 B TX mS mk, b26⟩
    have cMo : Cal CX0 l.prog w K mg base 6 "machine_of" (spMof (He.ga K "Machine")) := ⟨_, d10, _, ok_mof F10 B cTd mk, (He.glo_ok KX G (c.fact 10 (f := .glo "machine_of") rfl)), F10.kp, b10⟩
    have cI : Cal CX0 l.prog w K mg base 7 "inverted" (spInv (He.ga K "Machine")) := ⟨_, d11, _, ok_inv F11 B TX cMo, (He.glo_ok KX G (c.fact 11 (f := .glo "inverted") rfl)), F11.kp, b11⟩
    have cPn : Cal CX0 l.prog w K mg base 1 "_law_pen" (spPen K) := ⟨_, d12, _, ok_pen F12 B, (He.glo_ok KX G (c.fact 12 (f := .glo "_law_pen") rfl)), F12.kp, b12⟩
    have cD : Cal CX0 l.prog w K mg base 1 "_law_draw" spDraw := ⟨_, d13, _, ok_draw F13 B, (He.glo_ok KX G (c.fact 13 (f := .glo "_law_draw") rfl)), F13.kp, b13⟩
    have cPk : Cal CX0 l.prog w K mg base 2 "_law_pick" spPick := ⟨_, d14, _, ok_pick F14 B cD, (He.glo_ok KX G (c.fact 14 (f := .glo "_law_pick") rfl)), F14.kp, b14⟩
    have cTb : Cal CX0 l.prog w K mg base 2 "_law_table" spTab := ⟨_, d15, _, ok_tab F15 B cD, (He.glo_ok KX G (c.fact 15 (f := .glo "_law_table") rfl)), F15.kp, b15⟩
    have cTo : Cal CX0 l.prog w K mg base 3 "_law_told" spLTo := ⟨_, d16, _, ok_lto F16 B cD cPk, (He.glo_ok KX G (c.fact 16 (f := .glo "_law_told") rfl)), F16.kp, b16⟩
    have cK : Cal CX0 l.prog w K mg base 1 "_law_kept" spKept := ⟨_, d17, _, ok_kept F17 B, (He.glo_ok KX G (c.fact 17 (f := .glo "_law_kept") rfl)), F17.kp, b17⟩
    have cO : Cal CX0 l.prog w K mg base 6 "_law_others" (spOth (He.ga K "Machine")) := ⟨_, d18, _, ok_oth F18 B TX mk cK, (He.glo_ok KX G (c.fact 18 (f := .glo "_law_others") rfl)), F18.kp, b18⟩
    have cW : Cal CX0 l.prog w K mg base 8 "_law_is_walked" (spWlk (He.ga K "Machine")) := ⟨_, d19, _, ok_wlk F19 B TX cD mG mB mM mH cI, (He.glo_ok KX G (c.fact 19 (f := .glo "_law_is_walked") rfl)), F19.kp, b19⟩
    exact ok_law F20 B TX TE cPn cD cPk cTb cTo cK mk (ok_eq F22 B TX TE (He.glo_ok KX G (c.fact 21 (f := .glo "Machine") rfl))) m22.at_ m22.fn b22 n1 n2 cO cW
end K17
set_option Elab.async false
open PySem.W PySem PyProof.Rows in
set_option maxRecDepth 100001 in
set_option maxHeartbeats 0 in
theorem PySem.Challenge.cw_wordvault_k17_machines_in_one_form_holds : PySem.Challenge.rw_wordvault_k17_machines_in_one_form.Holds := by
  w_on; o_law
  k_head
  case hw => w_witness2
  k_fill
  refine LamX.walk_ofTs (l := PySem.Challenge.rw_wordvault_k17_machines_in_one_form) (n := 63) (k := 9) (x := "_law_script") (CX := fun _ => L2.CX0) rfl (by decide) rfl ⟨rfl, by decide, by decide⟩ (fun w h Y => PySem.W.kIn_of Y) ?F (fun _ _ _ _ _ z => z)
  case F =>
    intro w mg fa h Y KX G hmg
    refine K17.at_law KX G hmg ?c ?e
    case c =>
      show He.obsD K17.faA K17.fnA _ = He.valD K17.fnA
      kernel_rfl
    case e => kernel_rfl
