/-
  CoilOrders: for every two uint64 and every bool the law returns true and leaves its arguments as they were: to compare two numbers is to compare the lengths of their bytes and then the bytes. Conditions: none.
-/
import Derived.Test.YtcafanekckkdoaaRows
import Derived.WalkKit
import Derived.Test.YtcafanekckkdoaaSize
import Derived.Test.YtcafanekckkdoaaOrd
import Derived.ProofKit
import Derived.OpenShut
import Derived.Below
import Derived.ChangeOld
import Derived.ShutString
namespace Go.Proofs.Ytcafanekckkdoaa.coilOrders
open Go.ChangeShapes Go.WideShapes Go.ChangeAt Go.RowKit
open Go.ChangeMaps (open_string shut_string)
set_option linter.unusedVariables false      -- a walk need not use every 'w<i>' (that an integer argument fits its kind)

theorem own : ownKnob Try.prog.godebug = none := by kernel_rfl

theorem str_size (l : List Nat) : (str l).size = l.length := by
  show (l.map UInt8.ofNat).toArray.size = _
  simp
theorem str_beq (x y : List Nat) (hx : ∀ c ∈ x, c < 256) (hy : ∀ c ∈ y, c < 256) : ((str x).toList == (str y).toList) = decide (x = y) := by
  rw [str_toList, str_toList, Bool.eq_iff_iff]
  simp only [beq_iff_eq, decide_eq_true_eq]
  constructor
  · intro h
    have h2 := congrArg (List.map UInt8.toNat) h
    simp only [List.map_map] at h2
    have e : ∀ l : List Nat, (∀ c ∈ l, c < 256) → l.map (UInt8.toNat ∘ UInt8.ofNat) = l := by
      intro l hl
      conv => rhs; rw [← List.map_id l]
      apply List.map_congr_left
      intro c hc
      have := hl c hc
      simp; omega
    rw [e x hx, e y hy] at h2
    exact h2
  · rintro rfl; rfl

/-- How two numbers, and their bytes, stand to each other. -/
inductive Stand (a b : Nat) : Prop
  | less_len (h : a < b) (hs : (str (put a)).size < (str (put b)).size) (he : ((str (put a)).toList == (str (put b)).toList) = false)
  | less_eq (h : a < b) (hs : (str (put a)).size = (str (put b)).size) (he : ((str (put a)).toList == (str (put b)).toList) = false) (hl : Op.bytesLess (str (put a)).toList (str (put b)).toList = true)
  | more_eq (h : b < a) (hs : (str (put a)).size = (str (put b)).size) (he : ((str (put a)).toList == (str (put b)).toList) = false) (hl : Op.bytesLess (str (put a)).toList (str (put b)).toList = false)
  | more_len (h : b < a) (hs : (str (put b)).size < (str (put a)).size) (he : ((str (put a)).toList == (str (put b)).toList) = false)
  | same (h : a = b)

theorem less_self : ∀ l : List UInt8, Op.bytesLess l l = false
  | [] => rfl
  | a :: l => by simp [Op.bytesLess, less_self l]

theorem stand (a b : Nat) : Stand a b := by
  have hq : Op.bytesLess (str (put a)).toList (str (put b)).toList = less (put a) (put b) := by
    rw [str_toList, str_toList, less_map _ _ (put_bytes a) (put_bytes b)]
  have he := str_beq _ _ (put_bytes a) (put_bytes b)
  have sa := str_size (put a)
  have sb := str_size (put b)
  rcases Nat.lt_trichotomy (put a).length (put b).length with h | h | h
  · have hab : a < b := by
      rcases Nat.lt_or_ge a b with h1 | h1
      · exact h1
      · have := put_mono b a h1; omega
    exact .less_len hab (by omega) (by rw [he]; simp; intro e; rw [e] at h; omega)
  · obtain ⟨h1, h2⟩ := put_ord a b h
    have h3 : decide (put a = put b) = decide (a = b) := decide_eq_decide.2 h2
    rw [h3] at he
    rw [h1] at hq
    rcases Nat.lt_trichotomy a b with k | k | k
    · exact .less_eq k (by omega) (by rw [he]; simp; omega) (by rw [hq]; simp; omega)
    · exact .same k
    · exact .more_eq k (by omega) (by rw [he]; simp; omega) (by rw [hq]; simp; omega)
  · have hab : b < a := by
      rcases Nat.lt_or_ge b a with h1 | h1
      · exact h1
      · have := put_mono a b h1; omega
    exact .more_len hab (by omega) (by rw [he]; simp; intro e; rw [e] at h; omega)

set_option maxHeartbeats 2000000 in
theorem walk_of (a b : Nat) (w : World) (h1 : a < 18446744073709551616) (k1 : b < 18446744073709551616) :
    Calls Try.prog 7 #[.int .u64 a, .int .u64 b, .bool false] w fun e w' => e = .returned (.bool true) ∧ Below w.heap.size w w' := by
  have H := Lib.hid (And.intro h1 k1)
  clear h1 k1
  rcases stand a b with ⟨h, hs, he⟩ | ⟨h, hs, he, hl⟩ | ⟨h, hs, he, hl⟩ | ⟨h, hs, he⟩ | ⟨rfl⟩
  case' same => have hl := less_self (str (put a)).toList
  case' less_len => have hx : ((a : Int) == (b : Int)) = false := by simp; omega
  case' less_eq => have hx : ((a : Int) == (b : Int)) = false := by simp; omega
  case' more_len => have hx : ((a : Int) == (b : Int)) = false := by simp; omega
  case' more_eq => have hx : ((a : Int) == (b : Int)) = false := by simp; omega
  case' more_len => have hy : decide (a < b) = false := by simp; omega
  case' more_len => have hz : decide ((str (put a)).size < (str (put b)).size) = false := by simp; omega
  case' more_eq => have hy : decide (a < b) = false := by simp; omega
  all_goals
      go_enter Try.func7, Try.ntmps7
      go_wp2_with fail
      refine (put_own _ _ _ H.out.1 w.heap.size 0 [] (World.ownsRow_nil _ _ _ _) (by omega) (Nat.le_refl _)).mono ?_
      rintro e w1 ⟨v, rfl, hown, hg, _⟩
      have hc := conv_own hown
      have hb : Below w.heap.size w w1 := (Below.refl _ _).grown hg (Nat.le_refl _) (by simp [Value.ownBlock])
      have HB := Lib.hid hb
      clear hown hg hb
      go_wp2_with fail
      refine (put_own _ _ _ H.out.2 w.heap.size 0 [] (World.ownsRow_nil _ _ _ _) (by omega) HB.out.size).mono ?_
      rintro e w2 ⟨v2, rfl, hown, hg, _⟩
      have hc2 := conv_own hown
      have hb : Below w.heap.size w w2 := HB.out.grown hg HB.out.size (by simp [Value.ownBlock])
      have HB2 := Lib.hid hb
      clear hown hg hb hc
      go_wp2_with fail
      refine (awake_any _).mono ?_
      rintro e w3 ⟨rfl, hb⟩
      have hb : Below w.heap.size w w3 := HB2.out.trans (hb.mono HB2.out.size)
      have HB3 := Lib.hid hb
      clear hb
      go_wp2
      go_ret
      exact ⟨rfl, HB3⟩

set_option maxHeartbeats 1000000 in
theorem walk_same (a b : Nat) (w : World) (h1 : a < 18446744073709551616) :
    Calls Try.prog 7 #[.int .u64 a, .int .u64 b, .bool true] w fun e w' => e = .returned (.bool true) ∧ Below w.heap.size w w' := by
  have H := Lib.hid h1
  clear h1
  have hl := less_self (str (put a)).toList
  go_enter Try.func7, Try.ntmps7
  go_wp2_with fail
  refine (put_own _ _ _ H.out w.heap.size 0 [] (World.ownsRow_nil _ _ _ _) (by omega) (Nat.le_refl _)).mono ?_
  rintro e w1 ⟨v, rfl, hown, hg, _⟩
  have hc := conv_own hown
  have hb : Below w.heap.size w w1 := (Below.refl _ _).grown hg (Nat.le_refl _) (by simp [Value.ownBlock])
  have HB := Lib.hid hb
  clear hown hg hb
  go_wp2_with fail
  refine (put_own _ _ _ H.out w.heap.size 0 [] (World.ownsRow_nil _ _ _ _) (by omega) HB.out.size).mono ?_
  rintro e w2 ⟨v2, rfl, hown, hg, _⟩
  have hc2 := conv_own hown
  have hb : Below w.heap.size w w2 := HB.out.grown hg HB.out.size (by simp [Value.ownBlock])
  have HB2 := Lib.hid hb
  clear hown hg hb hc
  go_wp2_with fail
  refine (awake_any _).mono ?_
  rintro e w3 ⟨rfl, hb⟩
  have hb : Below w.heap.size w w3 := HB2.out.trans (hb.mono HB2.out.size)
  have HB3 := Lib.hid hb
  clear hb
  go_wp2
  go_ret
  exact ⟨rfl, HB3⟩

theorem walk (a0 : Int) (a1 : Int) (a2 : Bool) (w0 : (Lit.int .u64 a0).wf = true) (w1 : (Lit.int .u64 a1).wf = true) (w : World) :
    Calls Try.prog 7 #[.int .u64 a0, .int .u64 a1, .bool a2] w fun e w' => e = .returned (.bool true) ∧ Below w.heap.size w w' := by
  have b0 := u64_of_wf w0
  have b1 := u64_of_wf w1
  obtain ⟨n, rfl⟩ := Int.eq_ofNat_of_zero_le b0.1
  obtain ⟨m, rfl⟩ := Int.eq_ofNat_of_zero_le b1.1
  cases a2
  · exact walk_of n m w (by omega) (by omega)
  · exact walk_same n m w (by omega)

set_option maxRecDepth 100000 in
theorem lifted (os : Os) (started : os.Started) (H : Type) (enc : TypeId × Value → H) :
    ReturnsInHanded {} Try.checked os 7 .any (Rows.coilOrdersSpec.pre6 enc Try.prog Try.f7 Rows.coilOrdersRow.domain false) (Rows.coilOrdersSpec.post enc Try.prog Try.f7 false true false false) := by
  refine returnsInHanded_of_change (C := Try.checked) own started (by kernel_rfl) Try.func7
    (ChangeSpec.witness6 (enc := enc) (C := Try.checked) false ⟨#[], #[.int .u64 0, .int .u64 0, .bool false], []⟩ 8 (by kernel_rfl) (by kernel_rfl) (by kernel_rfl) (by kernel_rfl)) ?_
  intro W base args ds gs before hval0 hW hcnd _
  have hval : ∀ (j : Nat) t v, Try.f7.params[j]? = some t → args[j]? = some v → Value.okWide Try.prog W .any base t v := hval0
  have hW' := hW
  obtain ⟨p, q, hA0, hV, rfl, hfz, hnd⟩ := hW
  have hA : DataW.TrodAll enc Try.prog W 0 (fun _ => true) true Try.f7.params.toList args.toList ds p := hA0
  rw [Try.params7] at hA hval
  obtain ⟨v0, vs0, d0, ds0, p0, q0, hargs, rfl, rfl, h0, r0⟩ := trodAll_cons hA
  obtain ⟨v1, vs1, d1, ds1, p1, q1, rfl, rfl, rfl, h1, r1⟩ := trodAll_cons r0
  obtain ⟨v2, vs2, d2, ds2, p2, q2, rfl, rfl, rfl, h2, r2⟩ := trodAll_cons r1
  obtain ⟨rfl, rfl, rfl⟩ := trodAll_nil r2
  obtain rfl : args = #[v0, v1, v2] := by cases args; simp_all
  obtain ⟨rfl, rfl⟩ := trodVars_none hV
  obtain ⟨a0, rfl, rfl, rfl, w0⟩ := open_int Try.underlying23 (hval 0 23 v0 rfl rfl) h0
  obtain ⟨a1, rfl, rfl, rfl, w1⟩ := open_int Try.underlying23 (hval 1 23 v1 rfl rfl) h1
  obtain ⟨a2, rfl, rfl, rfl⟩ := open_bool Try.underlying4 (hval 2 4 v2 rfl rfl) h2
  clear hA0 hval0
  refine (walk a0 a1 a2 w0 w1 W).mono fun e W' ⟨he, bel⟩ => ?_
  subst he
  exact ⟨_, rfl, _, _, _, [], _, [], hW', (trodAll_cons_mk (shut_bool Try.underlying4 _) trodAll_mk0), (trodAll_cons_mk (shut_int Try.underlying23 w0) (trodAll_cons_mk (shut_int Try.underlying23 w1) (trodAll_cons_mk (shut_bool Try.underlying4 _) trodAll_mk0))), rfl, bel.frame _, fun h => by cases h⟩

theorem over : Rows.coilOrdersRow.holds Try.pinned (OpenSpec.ofChange Rows.coilOrdersSpec) :=
  OpenClaim.holds_of_wide 7 Try.f7 rfl rfl rfl rfl rfl rfl rfl ⟨rfl, rfl, rfl, rfl, rfl⟩ rfl rfl rfl rfl rfl (by kernel_rfl) Try.func7 (by kernel_rfl)
    (of_decide_eq_true (by kernel_rfl)) (by unfold Func.isWrapper; first | (rw [if_pos (by decide +kernel)]; kernel_rfl) | (rw [if_neg (by decide +kernel)]; exact ⟨rfl, rfl⟩))
    (fun os started H enc _ => lifted os started H enc)

theorem proved : Rows.CoilOrdersSaid :=
  over
end Go.Proofs.Ytcafanekckkdoaa.coilOrders
namespace Go.Proofs.Ytcafanekckkdoaa
theorem coilOrders_holds : Rows.CoilOrdersSaid := coilOrders.proved
#print axioms coilOrders_holds
end Go.Proofs.Ytcafanekckkdoaa
