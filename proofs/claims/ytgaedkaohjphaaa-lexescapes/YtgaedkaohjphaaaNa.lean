/-
  Lex: what is bare, in the code and in the reference.
-/
import Derived.Test.YtgaedkaohjphaaaLe
import Derived.MapKept
namespace Go.Proofs.Ytgaedkaohjphaaa
open Go.RowKit
open Go.MapKept (bytes_beq)
set_option linter.unusedVariables false
set_option linter.unusedSimpArgs false
set_option maxRecDepth 20000

/-- Whether a name stands as it is. -/
def isBareF : List UInt8 → Bool
  | [] => false
  | x :: l => startB x && l.all nameB
theorem cntW_all (f : UInt8 → Bool) : ∀ l, (cntW f l = l.length) ↔ l.all f = true
  | [] => by simp [cntW]
  | x :: l => by
    have h := cntW_all f l
    by_cases hx : f x = true
    · simp [cntW, hx, ← h]
    · simp [cntW, hx]
theorem isBare_len (p : List UInt8) (hp : p ≠ []) : isBareF p = decide (bareF p = p.length) := by
  cases p with
  | nil => exact absurd rfl hp
  | cons x l =>
    by_cases hx : startB x = true
    · have h := cntW_all nameB l
      simp only [isBareF, bareF, hx, if_true, Bool.true_and, List.length_cons, Nat.add_right_cancel_iff]
      by_cases h2 : cntW nameB l = l.length
      · rw [decide_eq_true h2, h.1 h2]
      · rw [decide_eq_false h2]
        cases hh : l.all nameB with
        | true => exact absurd (h.2 hh) h2
        | false => rfl
    · have hx2 : startB x = false := by simpa using hx
      simp [isBareF, bareF, hx2]
theorem str_ne {a b : ByteArray} (h : a ≠ b) : (a == b) = false := by
  cases e : (a == b) with
  | false => rfl
  | true => exact absurd ((bytes_beq a b).1 e) h
theorem str_bne {a b : ByteArray} (h : a ≠ b) : (a != b) = true := by simp only [bne, str_ne h]; rfl
theorem str_self (a : ByteArray) : (a == a) = true := (bytes_beq a a).2 rfl
set_option maxHeartbeats 2000000 in
theorem bare15 (p : List UInt8) (w : World) (hn : p.length ≤ 1000000000) :
    Calls Try.prog 15 #[.string (bs p)] w fun e w' => e = .returned (.bool (isBareF p)) ∧ w = w' := by
  have hB := bares_any p w hn
  cases p with
  | nil =>
    rw [show bs [] = ⟨#[]⟩ from rfl] at *
    go_enter Try.func15, Try.ntmps15
    go_wp2
    go_ret
    exact ⟨rfl, rfl⟩
  | cons x l =>
    have hL := isBare_len (x :: l) (by simp)
    have hle := bareF_le (x :: l)
    generalize isBareF (x :: l) = v at *
    generalize hk : bareF (x :: l) = k at *
    obtain ⟨n, hn2⟩ : ∃ n, n = (x :: l).length := ⟨_, rfl⟩
    have hz : (bs (x :: l)).size = n := by rw [hn2]; rfl
    have hne : bs (x :: l) ≠ (⟨#[]⟩ : ByteArray) := by
      intro h
      have := congrArg ByteArray.size h
      simp [bs, ByteArray.size] at this
    have hnl : ¬ (bs (x :: l)).toList = [] := by rw [ByteArray.toList_eq]; simp [bs]
    have hkn : ((k : Int) == (n : Int)) = v := by
      rw [hL, ← hn2]
      by_cases h : k = n
      · simp [h]
      · rw [decide_eq_false h]; simp; omega
    generalize bs (x :: l) = S at *
    clear hL hle hk hn2 hn
    go_enter Try.func15, Try.ntmps15
    go_wp2_with fail
    refine hB.mono ?_
    rintro e w2 ⟨rfl, rfl⟩
    go_wp2
    go_ret
    have hemp : S.toList.isEmpty = false := by simpa using hnl
    refine ⟨?_, rfl⟩
    show Ending.returned (.bool (!S.toList.isEmpty && v)) = _
    rw [hemp]; rfl
end Go.Proofs.Ytgaedkaohjphaaa
