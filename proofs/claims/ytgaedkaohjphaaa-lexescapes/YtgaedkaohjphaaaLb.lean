/-
  Lex: the reference's Place.
-/
import Derived.Test.YtgaedkaohjphaaaLa
import Derived.Lib.SlBytesRowKit
namespace Go.Proofs.Ytgaedkaohjphaaa
open Go.RowKit
set_option linter.unusedVariables false
set_option linter.unusedSimpArgs false
set_option maxRecDepth 20000

/-- Line and column behind some bytes. -/
def placeF : List Int → Int → Int → Int × Int
  | [], l, c => (l, c)
  | x :: xs, l, c => if x = 10 then placeF xs (l + 1) 1 else placeF xs l (c + 1)
theorem placeF_le : ∀ (xs : List Int) (l c : Int), l ≤ (placeF xs l c).1 ∧ (placeF xs l c).1 ≤ l + xs.length ∧ (0 ≤ c → 0 ≤ (placeF xs l c).2)
  | [], l, c => by simp [placeF]
  | x :: xs, l, c => by
    unfold placeF
    split
    · have := placeF_le xs (l + 1) 1; simp only [List.length_cons]; omega
    · have := placeF_le xs l (c + 1); simp only [List.length_cons]; omega
set_option maxHeartbeats 2000000 in
theorem rplace_any (A : Option Addr) (n c : Nat) (xs : List Int) (k : Nat) (w : World) (hx : xs.length = n) (h : Lib.BytesIn w A n xs) (hn : n ≤ 1000000000) (hk : k ≤ n) :
    Calls Try.prog 19 #[.slice A n c, .int .i64 (k : Int)] w fun e w' => e = .returned (.tuple #[.int .i64 (placeF (xs.take k) 1 1).1, .int .i64 (placeF (xs.take k) 1 1).2]) ∧ w = w' := by
  obtain ⟨v, hv⟩ : ∃ v, v = placeF (xs.take k) 1 1 := ⟨_, rfl⟩
  rw [← hv]
  have HV0 : Hid (v = placeF ((xs.take k).drop 0) 1 1) := hv
  have HX := Lib.hid hx
  have H := Lib.hid h
  clear hv hx h
  go_enter Try.func19, Try.ntmps19
  go_wp2_with fail
  go_loopw [6, 7, 8] (fun s6 s7 s8 wr => ∃ (i l m : Nat), i ≤ k ∧ l ≤ i + 1 ∧ m ≤ i + 1 ∧ s6 = .int .i64 (l : Int) ∧ s7 = .int .i64 (m : Int) ∧ s8 = .int .i64 (i : Int) ∧ w = wr ∧ Hid (v = placeF ((xs.take k).drop i) (l : Int) (m : Int))) (fun _ _ s8 _ => k - (intOf s8).toNat)
  case atStart => exact ⟨0, 1, 1, Nat.zero_le _, by omega, by omega, rfl, rfl, rfl, rfl, HV0⟩
  case round =>
    clear HV0
    obtain ⟨i, l, m, hi, hl, hm, rfl, rfl, rfl, rfl, hE⟩ := hrel
    by_cases hlt : i < k
    · have h1 : (i : Int) < (n : Int) := by omega
      have h2 : (i : Int) < (k : Int) := by omega
      obtain ⟨b, o, rfl, hc⟩ := H.out (by omega)
      have e0 := hc i (by omega)
      have hil : i < (xs.take k).length := by rw [List.length_take, HX.out]; omega
      have hE2 := hE.out
      rw [List.drop_eq_getElem_cons hil] at hE2
      have hg : (xs.take k)[i] = xs.getD i 0 := by
        have : i < xs.length := by rw [HX.out]; omega
        simp [List.getD, this]
      rw [hg] at hE2
      generalize xs.getD i 0 = x at *
      unfold placeF at hE2
      clear hc hE hg hil
      by_cases hx : x = 10
      · subst hx
        rw [if_pos rfl] at hE2
        have HE2 : Hid (v = placeF ((xs.take k).drop (i + 1)) ((l + 1 : Nat) : Int) ((1 : Nat) : Int)) := by
          show _ = _
          rw [hE2]; push_cast; rfl
        clear hE2
        go_wp2
        go_roundw
        case rel => exact ⟨i + 1, l + 1, 1, by omega, by omega, by omega, by go_num, rfl, by go_num, trivial, HE2⟩
        case measure => simp [intOf]; omega
      · rw [if_neg hx] at hE2
        have hq : (x == 10) = false := by simpa using hx
        have HE2 : Hid (v = placeF ((xs.take k).drop (i + 1)) (l : Int) ((m + 1 : Nat) : Int)) := by
          show _ = _
          rw [hE2]; push_cast; rfl
        clear hE2 hx
        go_wp2
        go_roundw
        case rel => exact ⟨i + 1, l, m + 1, by omega, by omega, by omega, rfl, by go_num, by go_num, trivial, HE2⟩
        case measure => simp [intOf]; omega
    · obtain rfl : i = k := by omega
      have hE2 := hE.out
      rw [List.drop_of_length_le (by rw [List.length_take]; omega)] at hE2
      obtain rfl : v = ((l : Int), (m : Int)) := hE2
      clear hE
      by_cases h1 : (i : Int) < (n : Int)
      · go_wp2
        go_ret2
        exact ⟨rfl, rfl⟩
      · go_wp2
        go_ret2
        exact ⟨rfl, rfl⟩
end Go.Proofs.Ytgaedkaohjphaaa
