/-
  What the reference's Seal, bytes.Clone and sum.Open return: new slices that read as said, and sum.Open's error.
-/
import Derived.Test.YtfdnlbmaceafhaaDoorSeal
import Derived.BigQuiet
namespace Go.Proofs.YtfdnlbmaceafhaaDoor
open Go.RowKit

set_option maxHeartbeats 400000 in
theorem clone_any (w : World) (A : Option Addr) (c : Nat) (l : List Nat) (h : Src w A l) (hl : l.length ≤ 1048576000) :
    Calls Tryd.prog 15 #[.slice A l.length c] w fun e w' => ∃ A' c', e = .returned (.slice A' l.length c') ∧ w'.ownsRow w.heap.size 5 1 (.slice A' l.length c') l.length (l.map B) ∧ Below w.heap.size w w' := by
  obtain ⟨i0, hi0, hz0, hz1, hz2⟩ := info_parts info5
  obtain ⟨h1, h2⟩ := h
  rcases A with _ | ad
  · have := h1 rfl
    subst this
    have hq := fun W => Lib.run_eql_slice_nil (P := Tryd.prog) W 22 5 none 0 c 0 0 Tryd.underlying22
    go_enter Tryd.func15, Tryd.ntmps15
    go_wp2
    go_ret
    exact ⟨none, 0, rfl, World.ownsRow_nil _ _ _ _, Below.refl _ _⟩
  · have hsrc := h2 ad rfl
    have Hs := Lib.hid hsrc
    clear h1 h2 hsrc
    have hq := fun W => Lib.run_eql_slice_nil (P := Tryd.prog) W 22 5 (some ad) l.length c 0 0 Tryd.underlying22
    go_enter Tryd.func15, Tryd.ntmps15
    go_wp2_with (first | (at_builtin; refine wpList_append_own_at _ rfl (.tmp 5) (.tmp 6) 22 rfl w.heap.size 5 i0 (.int .u8 0) 1 1 Tryd.underlying22 hi0 hz0 hz1 hz2 rfl (by decide) (.slice (some ⟨w.heap.size, 0, none⟩) 0 0) 0 [] rfl ?d1 ad l.length c (l.map B) rfl ?c1 ?c2 ?c3 ?c4 ?c5 ?c6 ?_))
    case d1 => exact World.ownsRow_made w #[] 0 (Nat.le_refl _) (by unfold maxLen; omega) rfl
    case c1 => simp
    case c2 =>
      intro j u hu
      have := Hs.out j u hu
      rw [World.cell?_alloc_lt w _ _ (World.block_lt_of_cell? w _ this)]
      exact this
    case c3 => exact B_one _
    case c4 => unfold maxLen; omega
    case c5 => omega
    case c6 => simp
    intro v' w1 hown hg _ hat
    go_wp2
    go_ret
    obtain ⟨A', c', hv, _⟩ := Src.own hown
    rw [hv] at hown
    refine ⟨A', c', congrArg Ending.returned hv, hown, ((Below.refl _ _).alloc (Nat.le_refl _) _).grown hg (by simp) (fun k hk => ?_)⟩
    simp [Value.ownBlock] at hk
    omega


set_option maxHeartbeats 1000000 in
theorem rseal_any (A : Option Addr) (c : Nat) (l : List Nat) (w : World) (h : Src w A l) (hl : l.length ≤ 1000) (hby : ∀ x ∈ l, x < 256) :
    Calls Tryd.prog 14 #[.slice A l.length c] w (Fresh w (l ++ four (crc ones l))) := by
  obtain ⟨i0, hi0, hi1, hi2, hi3⟩ := info_parts info5
  have HS := Lib.hid h
  have Hby := Lib.hid hby
  clear h hby
  go_enter Tryd.func14, Tryd.ntmps14
  go_wp2_with fail
  refine (rsum_any _ _ _ _ HS.out (by omega) Hby.out).mono ?_
  rintro e w3 ⟨rfl, rfl⟩
  generalize crc ones l = r at *
  have Hr := Lib.hid r.isLt
  go_wp2_with (first
    | (at_builtin; refine wpList_append_any _ rfl (.const (.slice none 0 0)) (.tmp 6) 22 rfl w.heap.size 5 i0 (.int .u8 0) 1 1 Tryd.underlying22 hi0 hi1 hi2 hi3 rfl (by decide) (.slice none 0 0) 0 [] rfl (World.ownsRow_nil _ _ _ _) w.heap.size A l.length c (l.map B) rfl HS.out.reads (B_one _) (by unfold maxLen; omega) (by omega) (Nat.le_refl _) ?_; intro v2 w2 hown2 hg2 hat2; have O2 := Lib.hid hown2; have HB2 := Lib.hid ((Below.refl w.heap.size w).grown hg2 (Nat.le_refl _) (by simp [Value.ownBlock])); clear hown2 hg2 hat2)
    | (at_builtin; refine wpList_append_own_at _ rfl (.tmp 7) (.tmp 22) 22 rfl w.heap.size 5 i0 (.int .u8 0) 1 1 Tryd.underlying22 hi0 hi1 hi2 hi3 rfl (by decide) v2 (0 + l.length) ([] ++ l.map B) rfl (O2.out.alloc _) ⟨w2.heap.size, 0, none⟩ 4 4 ((four r).map B) rfl rfl ?c1 ?c2 ?c3 ?c4 ?c5 ?_))
  case c1 => exact four_cells w2 r
  case c2 => exact B_one _
  case c3 => unfold maxLen; omega
  case c4 => omega
  case c5 => have := HB2.out.size; simp; omega
  intro v3 w4 hown3 hg3 _ _
  have hl4 : (l ++ four r).length = l.length + 4 := by rw [List.length_append, four_len]
  obtain ⟨A3, c3, hv, _⟩ := Src.own (l := l ++ four r) (by rw [List.map_append]; exact hown3)
  go_wp2
  go_ret
  refine ⟨A3, c3, congrArg Ending.returned hv, ?_, (HB2.out.alloc HB2.out.size _).grown hg3 (by have := HB2.out.size; simp; omega) (fun k hk => (O2.out.lt k hk).1)⟩
  rw [← hv, hl4, List.map_append]
  exact hown3

set_option maxHeartbeats 400000 in
theorem open_short (A : Option Addr) (n c : Nat) (w : World) (hn : n < 4) :
    Calls Tryd.prog 13 #[.slice A n c] w fun e w' => e = .returned (.tuple #[.slice none 0 0, .int .i64 3]) ∧ w = w' := by
  go_enter Tryd.func13, Tryd.ntmps13
  go_wp2
  go_ret2
  exact ⟨rfl, rfl⟩

/-- What sum.Open returns of bytes with four others behind: the bytes, or the error. -/
def Opens (w : World) (m t : List Nat) (e : Ending) (w' : World) : Prop :=
  Below w.heap.size w w' ∧
  ((t = four (crc ones m) ∧ ∃ A c, e = .returned (.tuple #[.slice A m.length c, .int .i64 0]) ∧ w'.ownsRow w.heap.size 5 1 (.slice A m.length c) m.length (m.map B)) ∨
   (t ≠ four (crc ones m) ∧ e = .returned (.tuple #[.slice none 0 0, .int .i64 6])))

theorem or_low (a b k : Nat) (h : b < 2 ^ k) : a * 2 ^ k ||| b = a * 2 ^ k + b := by
  have := Nat.shiftLeft_add_eq_or_of_lt h a
  rw [Nat.shiftLeft_eq] at this
  exact this.symm
theorem told_or (s0 s1 s2 s3 : Nat) (h0 : s0 < 256) (h1 : s1 < 256) (h2 : s2 < 256) (h3 : s3 < 256) :
    bits .or .u32 (bits .or .u32 (bits .or .u32 ((s0 : Int) * 16777216) ((s1 : Int) * 65536)) ((s2 : Int) * 256)) (s3 : Int) = ((told [s0, s1, s2, s3] : Nat) : Int) := by
  have e1 : s0 * 16777216 ||| s1 * 65536 = s0 * 16777216 + s1 * 65536 := or_low s0 (s1 * 65536) 24 (by omega)
  have e2 : (s0 * 16777216 + s1 * 65536) ||| s2 * 256 = s0 * 16777216 + s1 * 65536 + s2 * 256 := by
    have := or_low (s0 * 256 + s1) (s2 * 256) 16 (by omega)
    rw [show (s0 * 256 + s1) * 2 ^ 16 = s0 * 16777216 + s1 * 65536 from by omega] at this
    exact this
  have e3 : (s0 * 16777216 + s1 * 65536 + s2 * 256) ||| s3 = s0 * 16777216 + s1 * 65536 + s2 * 256 + s3 := by
    have := or_low (s0 * 65536 + s1 * 256 + s2) s3 8 (by omega)
    rw [show (s0 * 65536 + s1 * 256 + s2) * 2 ^ 8 = s0 * 16777216 + s1 * 65536 + s2 * 256 from by omega] at this
    exact this
  have f1 := u32_or_nat (s0 * 16777216) (s1 * 65536) (by omega) (by omega)
  have f2 := u32_or_nat (s0 * 16777216 + s1 * 65536) (s2 * 256) (by omega) (by omega)
  have f3 := u32_or_nat (s0 * 16777216 + s1 * 65536 + s2 * 256) s3 (by omega) (by omega)
  rw [e1] at f1
  rw [e2] at f2
  rw [e3] at f3
  rw [show ((s0 : Int) * 16777216) = ((s0 * 16777216 : Nat) : Int) from by omega, show ((s1 : Int) * 65536) = ((s1 * 65536 : Nat) : Int) from by omega, show ((s2 : Int) * 256) = ((s2 * 256 : Nat) : Int) from by omega, f1, f2, f3]
  simp [told]

set_option maxRecDepth 20000 in
set_option maxHeartbeats 1000000 in
theorem open_any (A : Option Addr) (c : Nat) (m : List Nat) (s0 s1 s2 s3 : Nat) (w : World) (hT : Tab w) (h : Src w A (m ++ [s0, s1, s2, s3])) (hl : m.length ≤ 1000) (hcap : m.length + 4 ≤ c) (hby : ∀ x ∈ m ++ [s0, s1, s2, s3], x < 256) :
    Calls Tryd.prog 13 #[.slice A (m.length + 4) c] w (Opens w m [s0, s1, s2, s3]) := by
  have HT := Lib.hid hT
  have HS := Lib.hid (h.take m.length)
  rw [List.take_append_of_le_length (Nat.le_refl _), List.take_length] at HS
  have hm : ∀ x ∈ m, x < 256 := fun x hx => hby x (by simp [hx])
  have h0 := hby s0 (by simp)
  have h1 := hby s1 (by simp)
  have h2 := hby s2 (by simp)
  have h3 := hby s3 (by simp)
  obtain ⟨b, o, rfl, hc⟩ := h.at_ (by simp)
  have d0 := hc m.length (by simp)
  have d1 := hc (m.length + 1) (by simp)
  have d2 := hc (m.length + 2) (by simp)
  have d3 := hc (m.length + 3) (by simp)
  simp [B, ← Nat.add_assoc] at d0 d1 d2 d3
  have Hm := Lib.hid hm
  have HK : Hid (∀ n, Below w.heap.size w (w.drewN n)) := fun n => below_drewN (Below.refl _ _) n
  clear hT h hc hm hby
  go_enter Tryd.func13, Tryd.ntmps13
  go_wp2_with fail
  go_quiet (fail)
  go_wp2_with fail
  go_quiet (fail)
  have hto := told_or s0 s1 s2 s3 h0 h1 h2 h3
  by_cases hd : (crc ones m).toNat = told [s0, s1, s2, s3]
  · have hne : (((crc ones m).toNat : Int) != (told [s0, s1, s2, s3] : Int)) = false := by simp; omega
    have Hf := Lib.hid ((four_of_told [s0, s1, s2, s3] rfl (by simp; omega) (crc ones m)).1 hd)
    clear hd
    go_wp2_with fail
    refine (of_any _ _ _ _ (HT.out.old (HK.out _)) (HS.out.old (HK.out _)) (by omega) Hm.out).mono ?_
    rintro e w1 ⟨rfl, rfl⟩
    go_wp2_with fail
    refine (clone_any _ _ _ _ (HS.out.old (HK.out _)) (by omega)).mono ?_
    rintro e w1 ⟨A1, c1, rfl, hown, hb⟩
    have O1 := Lib.hid hown
    have HB := Lib.hid hb
    clear hown hb
    go_wp2
    go_ret2
    exact ⟨(HK.out _).trans HB.out, .inl ⟨Hf.out, A1, c1, rfl, O1.out⟩⟩
  · have hne : (((crc ones m).toNat : Int) != (told [s0, s1, s2, s3] : Int)) = true := by simp; omega
    have Hf : Hid ([s0, s1, s2, s3] ≠ four (crc ones m)) := fun e => hd ((four_of_told [s0, s1, s2, s3] rfl (by simp; omega) (crc ones m)).2 e)
    clear hd
    go_wp2_with fail
    refine (of_any _ _ _ _ (HT.out.old (HK.out _)) (HS.out.old (HK.out _)) (by omega) Hm.out).mono ?_
    rintro e w1 ⟨rfl, rfl⟩
    go_wp2
    go_ret2
    exact ⟨(below_drewN (Below.refl _ _) _), .inr ⟨Hf.out, rfl⟩⟩
end Go.Proofs.YtfdnlbmaceafhaaDoor
