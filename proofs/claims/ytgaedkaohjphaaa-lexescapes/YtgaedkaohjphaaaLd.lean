/-
  Lex: what a text begins with; blanks and comments.
-/
import Derived.Test.YtgaedkaohjphaaaLc
import Derived.Test.YtgaedkaohjphaaaShelf
import Derived.Laws.OwnMore
import Derived.Laws.Rows
import Derived.Laws.BytesArg
import Derived.Lib.ConvBytes
import Derived.Lib.SlBytesConst
namespace Go.Proofs.Ytgaedkaohjphaaa
open Go.RowKit
set_option linter.unusedVariables false
set_option linter.unusedSimpArgs false
set_option maxRecDepth 20000

/-- A string as a slice. -/
theorem conv_str (w : World) (s : List UInt8) : ∃ c w', (convert 9 22 (.string (bs s))).run Try.prog w = .ok (.slice (some ⟨w.heap.size, 0, none⟩) s.length c) w' ∧ Src w' (some ⟨w.heap.size, 0, none⟩) s.length s ∧ Below w.heap.size w w' ∧ w'.heap.size = w.heap.size + 1 := by
  have hz : (bs s).size = s.length := by simp [bs, ByteArray.size]
  have h := Lib.run_convert_string_bytes (P := Try.prog) w 9 22 5 (bs s) Try.underlying9 Try.underlying22 Try.underlying5
  rw [hz] at h
  refine ⟨_, _, h, ⟨rfl, fun hp => ⟨w.heap.size, 0, rfl, fun i hi => ?_⟩⟩, ?_, Lib.bytesWorld_size _ _ _⟩
  rotate_left
  · constructor
    all_goals first | (rw [Lib.bytesWorld_size]; omega) | exact (fun k hk => Lib.bytesWorld_at_old w 5 (bs s) k hk) | (simp [Lib.bytesWorld, World.freeze, World.alloc, World.drew, -World.alloc_eq, -World.drew_eq])
  have := Lib.bytesWorld_cell w 5 (bs s) i (by rw [hz]; exact hi)
  rw [Nat.zero_add, this]
  simp [bs, List.getD, hi]
/-- A slice as a string. -/
theorem conv_back (w : World) (b o n c : Nat) (p : List UInt8) (h : Src w (some ⟨b, o, none⟩) n p) : (convert 22 9 (.slice (some ⟨b, o, none⟩) n c)).run Try.prog w = .ok (.string (bs p)) w := by
  rw [run_convert_bytes_arg (P := Try.prog) w 22 5 Try.underlying22 Try.underlying5 b o n c (nums p) (by rw [nums_len, h.1]) (fun i hi => ?_) 9 Try.underlying9]
  · have h2 : strOfNums (nums p) = bs (Lib.bytesOf (nums p)) := rfl
    rw [h2, bytesOf_nums]
  · obtain ⟨b', o', hA, hc⟩ := h.2 (by omega)
    injection hA with hA
    injection hA with h1 h2
    subst h1; subst h2
    rw [nums_get p i (by rw [h.1]; exact hi)]
    exact hc i (by rw [h.1]; exact hi)

theorem begins_any (A : Option Addr) (n c : Nat) (p s : List UInt8) (w : World) (h : Src w A n p) (hc : n ≤ c) :
    Calls Try.prog 46 #[.slice A n c, .string (bs s)] w fun e w' => e = .returned (.bool (s.isPrefixOf p)) ∧ Below w.heap.size w w' := by
  obtain ⟨c', w1, hr, hS, hB, _⟩ := conv_str w s
  have hP := Try.bytes_HasPrefix_all A (some ⟨w.heap.size, 0, none⟩) n c s.length c' (nums p) (nums s) w1 (by rw [nums_len, h.1]) (nums_len s) hc (h.old hB).ints hS.ints
  rw [bytesOf_nums, bytesOf_nums] at hP
  have HP := Lib.hid hP
  have HB := Lib.hid hB
  clear hP hS hB h hc
  go_enter Try.func46, Try.ntmps46
  go_wp2_with fail
  refine HP.out.mono ?_
  rintro e w2 ⟨rfl, rfl⟩
  go_wp2
  go_ret
  exact ⟨rfl, HB.out⟩

theorem below_dn (B : Nat) (w : World) (k : Nat) : Below B w (w.drewN k) := by
  induction k with
  | zero => exact Below.refl _ _
  | succ k ih => exact ih.drew
theorem index_len (s sub : List UInt8) : Lib.index s sub ≤ s.length := by
  induction s with
  | nil => unfold Lib.index; split <;> simp
  | cons x l ih =>
    unfold Lib.index
    simp only [List.length_cons]
    split
    · omega
    · split
      · omega
      · omega
/-- The library's one variable lies where it lay. -/
def G0 (w : World) : Prop := ∃ m, w.cell? ⟨0, 0, none⟩ = some (.int .i64 m)
theorem G0.old {w w' : World} (h : G0 w) (hb : Below w.heap.size w w') : G0 w' := by
  obtain ⟨m, hm⟩ := h
  exact ⟨m, cell_old hb (World.block_lt_of_cell? w ⟨0, 0, none⟩ hm) hm⟩
/-- The blank, or the comment, at the beginning: how long; does it end? -/
def gapF (p : List UInt8) : Int × Bool :=
  if blankF ((p.headD 0).toNat : Int) = true then (1, true)
  else if [47, 47].isPrefixOf p = true then (if 0 ≤ Lib.indexByte p 10 then (Lib.indexByte p 10, true) else ((p.length : Int), true))
  else if [47, 42].isPrefixOf p = true then (2 + Lib.index (p.drop 2) [42, 47] + 2, decide (0 ≤ Lib.index (p.drop 2) [42, 47]))
  else (0, true)
theorem rng (p : List UInt8) : ∀ x ∈ nums p, 0 ≤ x ∧ x < 256 := fun x hx => by
  simp only [nums, List.mem_map] at hx
  obtain ⟨b, _, rfl⟩ := hx
  have := b.toNat_lt
  omega
set_option maxHeartbeats 2000000 in
theorem gap_any (b o n c : Nat) (p : List UInt8) (w : World) (h : Src w (some ⟨b, o, none⟩) n p) (hc : n ≤ c) (hn : n ≤ 1000000000) (hp : 0 < n) (hg : G0 w) :
    Calls Try.prog 32 #[.slice (some ⟨b, o, none⟩) n c] w fun e w' => e = .returned (.tuple #[.int .i64 (gapF p).1, .bool (gapF p).2]) ∧ Below w.heap.size w w' := by
  obtain ⟨v, hv⟩ : ∃ v, v = gapF p := ⟨_, rfl⟩
  rw [← hv]
  unfold gapF at hv
  have H := Lib.hid h
  have HG := Lib.hid hg
  have kc := fun (w : World) (C : Array Value) (n c : Nat) => Lib.run_convert_bytes_const (P := Try.prog) w 22 5 C n c Try.underlying22 Try.underlying5
  have hl : p.length = n := h.1
  obtain ⟨x, l, rfl⟩ : ∃ x l, p = x :: l := by cases p with | nil => simp at hl; omega | cons x l => exact ⟨x, l, rfl⟩
  obtain ⟨b', o', hA, hcc⟩ := h.2 hp
  injection hA with hA
  injection hA with h1 h2
  subst h1; subst h2
  have e0 := hcc 0 (by simp)
  simp only [Nat.add_zero, List.getElem_cons_zero] at e0
  change v = if blankF (x.toNat : Int) = true then _ else _ at hv
  have HL := Lib.hid hl
  have HV := Lib.hid hv
  have hB := blank_any (x.toNat : Int) w
  clear hcc h hg hl hv
  go_enter Try.func32, Try.ntmps32
  go_wp2_with fail
  refine hB.mono ?_
  rintro e w1 ⟨rfl, rfl⟩
  clear hB
  by_cases hb : blankF (x.toNat : Int) = true
  · have hvv := HV.out
    rw [if_pos hb] at hvv
    subst hvv
    rw [hb]
    clear HV hb
    go_wp2
    go_ret2
    exact ⟨rfl, Below.refl _ _⟩
  have hvv := HV.out
  rw [if_neg hb] at hvv
  have HV := Lib.hid hvv
  rw [show blankF (x.toNat : Int) = false from (Bool.not_eq_true _).mp hb]
  clear hvv hb
  have h1 := begins_any (some ⟨b, o, none⟩) n c (x :: l) [47, 47] w H.out hc
  rw [show bs [47, 47] = ⟨#[47, 47]⟩ from rfl] at h1
  go_wp2_with fail
  refine h1.mono ?_
  rintro e w1 ⟨rfl, hb1⟩
  have HB1 := Lib.hid hb1
  have HS1 := Lib.hid (H.out.old hb1)
  have HG1 := Lib.hid (HG.out.old hb1)
  clear h1 hb1 e0
  by_cases hp1 : [47, 47].isPrefixOf (x :: l) = true
  · have hvv := HV.out
    rw [if_pos hp1] at hvv
    rw [hp1]
    have h2 := Try.bytes_IndexByte_at ⟨b, o, none⟩ n c (nums (x :: l)) 10 w1 (by rw [nums_len]; exact HL.out) (fun i hi => by
      obtain ⟨b', o', hA, hcc⟩ := HS1.out.ints hp
      injection hA with hA
      injection hA with h1 h2
      subst h1; subst h2
      rw [Go.WideShapes.add_plain]; exact hcc i hi)
    rw [bytesOf_nums, show ((10 : Int).toNat.toUInt8) = 10 from rfl] at h2
    rw [HL.out] at hvv
    have hr1 := Lib.indexByte_ge (x :: l) 10
    generalize Lib.indexByte (x :: l) 10 = k at *
    have HV := Lib.hid hvv
    clear hvv hp1
    go_wp2_with fail
    refine h2.mono ?_
    rintro e w2 ⟨rfl, rfl⟩
    by_cases hk : 0 ≤ k
    · have hvv := HV.out
      rw [if_pos hk] at hvv
      subst hvv
      clear HV h2
      go_wp2
      go_ret2
      exact ⟨rfl, HB1.out⟩
    · have hvv := HV.out
      rw [if_neg hk] at hvv
      subst hvv
      clear HV h2
      go_wp2
      go_ret2
      exact ⟨rfl, HB1.out⟩
  have hvv := HV.out
  rw [if_neg hp1] at hvv
  have HV := Lib.hid hvv
  rw [show [47, 47].isPrefixOf (x :: l) = false from (Bool.not_eq_true _).mp hp1]
  clear hvv hp1
  have h1 := begins_any (some ⟨b, o, none⟩) n c (x :: l) [47, 42] w1 HS1.out hc
  rw [show bs [47, 42] = ⟨#[47, 42]⟩ from rfl] at h1
  go_wp2_with fail
  refine h1.mono ?_
  rintro e w2 ⟨rfl, hb2⟩
  have HB2 := Lib.hid (HB1.out.trans (hb2.mono HB1.out.size))
  have HS2 := Lib.hid (HS1.out.old hb2)
  have HG2 := Lib.hid (HG1.out.old hb2)
  clear h1 hb2 HB1 HS1 HG1 HG H
  by_cases hp2 : [47, 42].isPrefixOf (x :: l) = true
  · have hvv := HV.out
    rw [if_pos hp2] at hvv
    rw [hp2]
    have hn2 : 2 ≤ n := by
      have := (List.isPrefixOf_iff_prefix.1 hp2).length_le
      have := HL.out
      simp at this ⊢
      simp at *
      omega
    have HIx : Hid (∀ (o' c' : Nat), (o' = o + 2 ∨ (n = 2 ∧ o' = o)) → n - 2 ≤ c' → Calls Try.prog 43 #[.slice (some ⟨b, o', none⟩) (n - 2) c', .slice (some ⟨w2.heap.size, 0, none⟩) 2 2] (w2.alloc (.cells #[.int .u8 42, .int .u8 47] 5 (2, 3))) fun e w' => e = .returned (.int .i64 (Lib.index ((x :: l).drop 2) [42, 47])) ∧ ∃ q, w' = (w2.alloc (.cells #[.int .u8 42, .int .u8 47] 5 (2, 3))).drewN q) := fun o' c' ho hc' => by
      have hbA : Below w2.heap.size w2 (w2.alloc (.cells #[.int .u8 42, .int .u8 47] 5 (2, 3))) := (Below.refl _ _).alloc (Nat.le_refl _) _
      obtain ⟨m, hm⟩ := HG2.out.old hbA
      have hS := (HS2.out.drop 2).old hbA
      have := Try.bytes_Index_at ⟨b, o', none⟩ ⟨w2.heap.size, 0, none⟩ (n - 2) c' 2 2 (nums ((x :: l).drop 2)) [42, 47] m (w2.alloc (.cells #[.int .u8 42, .int .u8 47] 5 (2, 3))) (by rw [nums_len]; exact hS.1) rfl (rng _) (by decide) (fun i hi => by
        obtain ⟨b', o'', hA, hcc⟩ := hS.ints (by omega)
        injection hA with hA
        injection hA with h1 h2
        subst h1; subst h2
        have : o' = o + 2 := by omega
        rw [Go.WideShapes.add_plain, this]; exact hcc i hi) (fun i hi => by
        rw [Go.WideShapes.add_plain, cell_of_row _ w2.heap.size _ _ 5 (2, 3) (heap_alloc_new w2 _)]
        rcases (show i = 0 ∨ i = 1 by omega) with rfl | rfl <;> rfl) hc' (by omega) (by omega) hm
      rwa [bytesOf_nums, show Lib.bytesOf [42, 47] = [42, 47] from rfl] at this
    have hr1 := Lib.index_ge ((x :: l).drop 2) [42, 47]
    have hr2 : Lib.index ((x :: l).drop 2) [42, 47] ≤ 1000000000 := by
      have h1 := index_len ((x :: l).drop 2) [42, 47]
      have h2 := HL.out
      simp only [List.length_drop] at h1
      omega
    generalize Lib.index ((x :: l).drop 2) [42, 47] = k at *
    have hbA : Below w2.heap.size w2 (w2.alloc (.cells #[.int .u8 42, .int .u8 47] 5 (2, 3))) := (Below.refl _ _).alloc (Nat.le_refl _) _
    have HBA := Lib.hid hbA
    have HV := Lib.hid hvv
    clear hvv hp2 hbA
    by_cases hc2 : c = 2
    · have hn3 : n = 2 := by omega
      have hIx := HIx.out o 0 (.inr ⟨hn3, rfl⟩) (by omega)
      subst hc2
      subst hn3
      simp only [Nat.sub_self] at hIx
      clear HIx
      go_wp2_with fail
      refine hIx.mono ?_
      rintro e w3 ⟨rfl, q, rfl⟩
      have hbf := HB2.out.trans ((HBA.out.trans (below_dn _ _ q)).mono HB2.out.size)
      go_wp2
      go_ret2
      exact ⟨by rw [HV.out]; rfl, hbf⟩
    · have hIx := HIx.out (o + 2) (c - 2) (.inl rfl) (by omega)
      clear HIx
      go_wp2_with fail
      refine hIx.mono ?_
      rintro e w3 ⟨rfl, q, rfl⟩
      have hbf := HB2.out.trans ((HBA.out.trans (below_dn _ _ q)).mono HB2.out.size)
      go_wp2
      go_ret2
      exact ⟨by rw [HV.out]; rfl, hbf⟩
  have hvv := HV.out
  rw [if_neg hp2] at hvv
  rw [show [47, 42].isPrefixOf (x :: l) = false from (Bool.not_eq_true _).mp hp2]
  subst hvv
  clear HV hp2
  go_wp2
  go_ret2
  exact ⟨rfl, HB2.out⟩

theorem index_fits (s sub : List UInt8) (h : 0 ≤ Lib.index s sub) : Lib.index s sub + sub.length ≤ s.length := by
  induction s with
  | nil =>
    unfold Lib.index at h ⊢
    split at h
    · rename_i hs; rw [if_pos hs]; simp at hs; simp [hs]
    · omega
  | cons x l ih =>
    unfold Lib.index at h ⊢
    by_cases hp : sub.isPrefixOf (x :: l) = true
    · rw [if_pos hp]
      have := (List.isPrefixOf_iff_prefix.1 hp).length_le
      omega
    · rw [if_neg hp] at h ⊢
      by_cases hi : (Lib.index l sub == -1) = true
      · rw [if_pos hi] at h; omega
      · rw [if_neg hi] at h ⊢
        have h1 := Lib.index_ge l sub
        have h2 : Lib.index l sub ≠ -1 := by simpa using hi
        have := ih (by omega)
        simp only [List.length_cons]
        omega
theorem indexByte_fits (s : List UInt8) (x : UInt8) : Lib.indexByte s x < s.length ∨ (s = [] ∧ Lib.indexByte s x = -1) := by
  induction s with
  | nil => right; exact ⟨rfl, rfl⟩
  | cons y l ih =>
    left
    unfold Lib.indexByte
    simp only [List.length_cons]
    split
    · omega
    · split
      · omega
      · rcases ih with h | ⟨rfl, h⟩
        · omega
        · rw [h]; simp
theorem gapF_le (p : List UInt8) (hp : 0 < p.length) (h : (gapF p).2 = true) : 0 ≤ (gapF p).1 ∧ (gapF p).1 ≤ p.length := by
  unfold gapF at h ⊢
  split
  · simp only; omega
  · rename_i h1
    rw [if_neg h1] at h
    split
    · split
      · rename_i h2 h3
        have := indexByte_fits p 10
        simp only
        omega
      · simp only; omega
    · rename_i h2
      rw [if_neg h2] at h
      split
      · rename_i h3
        rw [if_pos h3] at h
        have h4 := index_fits (p.drop 2) [42, 47] (by simpa using h)
        have h5 : 0 ≤ Lib.index (p.drop 2) [42, 47] := by simpa using h
        have h6 := (List.isPrefixOf_iff_prefix.1 h3).length_le
        simp only [List.length_drop, List.length_cons, List.length_nil] at h4 h6 ⊢
        omega
      · simp only; omega
/-- Behind the blanks and comments; not ok: where a comment begins that doesn't end. -/
def skipF (p : List UInt8) : Nat → Nat → Nat × Bool
  | 0, at_ => (at_, true)
  | f + 1, at_ => if at_ < p.length then (if (gapF (p.drop at_)).2 = false then (at_, false) else if (gapF (p.drop at_)).1 = 0 then (at_, true) else skipF p f (at_ + (gapF (p.drop at_)).1.toNat)) else (at_, true)
theorem skipF_le (p : List UInt8) : ∀ (f a : Nat), a ≤ p.length → a ≤ (skipF p f a).1 ∧ (skipF p f a).1 ≤ p.length
  | 0, a, h => ⟨Nat.le_refl _, h⟩
  | f + 1, a, h => by
    unfold skipF
    split
    · rename_i h1
      split
      · exact ⟨Nat.le_refl _, h⟩
      · rename_i h2
        split
        · exact ⟨Nat.le_refl _, h⟩
        · have hg := gapF_le (p.drop a) (by rw [List.length_drop]; omega) (by simpa using h2)
          rw [List.length_drop] at hg
          have := skipF_le p f (a + (gapF (p.drop a)).1.toNat) (by omega)
          omega
    · exact ⟨Nat.le_refl _, h⟩
set_option maxHeartbeats 2000000 in
theorem skip_any (A : Option Addr) (n c a F : Nat) (p : List UInt8) (w : World) (h : Src w A n p) (hc : n ≤ c) (hn : n ≤ 1000000000) (ha : a ≤ n) (hF : n - a < F) (hg : G0 w) :
    Calls Try.prog 23 #[.slice A n c, .int .i64 (a : Int)] w fun e w' => e = .returned (.tuple #[.int .i64 ((skipF p F a).1 : Nat), .bool (skipF p F a).2]) ∧ Below w.heap.size w w' := by
  obtain ⟨v, hv⟩ : ∃ v, v = skipF p F a := ⟨_, rfl⟩
  rw [← hv]
  have HV0 : Hid (v = skipF p F a) := hv
  have H := Lib.hid h
  have HG := Lib.hid hg
  have hl : p.length = n := h.1
  have HL := Lib.hid hl
  clear hv h hg hl
  go_enter Try.func23, Try.ntmps23
  go_wp2_with fail
  go_loopw [1] (fun s1 wr => ∃ a f : Nat, a ≤ n ∧ n - a < f ∧ s1 = .int .i64 (a : Int) ∧ Hid (Below w.heap.size w wr) ∧ Hid (v = skipF p f a)) (fun s1 _ => n - (intOf s1).toNat)
  case atStart => exact ⟨a, F, ha, hF, rfl, Below.refl _ _, HV0⟩
  case round =>
    clear HV0 ha hF
    obtain ⟨a, f, ha, hf, rfl, hB, hE⟩ := hrel
    by_cases hlt : a < n
    · obtain ⟨f, rfl⟩ : ∃ g, f = g + 1 := ⟨f - 1, by omega⟩
      have h1 : (a : Int) < (n : Int) := by omega
      have hne : ¬ c = a := by omega
      have hac : a ≤ c := by omega
      obtain ⟨b, o, rfl, _⟩ := H.out.2 (by omega)
      have hE2 := hE.out
      rw [skipF, if_pos (by rw [HL.out]; exact hlt)] at hE2
      have hgl := gapF_le (p.drop a) (by rw [List.length_drop, HL.out]; omega)
      rw [List.length_drop, HL.out] at hgl
      have hS := gap_any b (o + a) (n - a) (c - a) (p.drop a) wr ((H.out.old hB.out).drop a) (by omega) (by omega) (by omega) (HG.out.old hB.out)
      generalize gapF (p.drop a) = gv at *
      obtain ⟨g1, g2⟩ := gv
      have HE2 := Lib.hid hE2
      clear hE hE2
      dsimp only at *
      go_wp2_with fail
      refine hS.mono ?_
      rintro e w2 ⟨rfl, hb2⟩
      have HB2 := Lib.hid (hB.out.trans (hb2.mono hB.out.size))
      clear hb2 hS
      cases g2 with
      | false =>
        obtain rfl : v = (a, false) := by have := HE2.out; simpa using this
        clear HE2
        go_wp2
        go_ret2
        exact ⟨rfl, HB2.out⟩
      | true =>
        have hE3 := HE2.out
        simp only [Bool.true_eq_false, if_false] at hE3
        obtain ⟨hg0, hg1⟩ := hgl rfl
        by_cases hz : g1 = 0
        · rw [if_pos hz] at hE3
          subst hE3
          subst hz
          clear HE2
          go_wp2
          go_ret2
          exact ⟨rfl, HB2.out⟩
        · rw [if_neg hz] at hE3
          have hzb : (g1 == 0) = false := by simpa using hz
          obtain ⟨m, rfl⟩ : ∃ m : Nat, g1 = m := ⟨g1.toNat, by omega⟩
          have hmp : 0 < m := by omega
          have HE3 : Hid (v = skipF p f (a + m)) := by rw [Int.toNat_natCast] at hE3; exact hE3
          clear HE2 hE3 hz
          go_wp2
          go_roundw
          case rel => exact ⟨a + m, f, by omega, by omega, by go_num, HB2, HE3⟩
          case measure => simp [intOf]; omega
    · obtain rfl : a = n := by omega
      obtain ⟨f, rfl⟩ : ∃ g, f = g + 1 := ⟨f - 1, by omega⟩
      have hE2 := hE.out
      rw [skipF, if_neg (by rw [HL.out]; omega)] at hE2
      subst hE2
      clear hE
      go_wp2
      go_ret2
      exact ⟨rfl, hB.out⟩
end Go.Proofs.Ytgaedkaohjphaaa
