
/-
  Modules that were made: what they have; and what is read behind one change.
-/
import Derived.Test.YtpdebnecfknohaaQr
namespace Go.Proofs.Ytpdebnecfknohaa
open Go.RowKit
set_option linter.unusedVariables false
set_option maxRecDepth 20000

/-- What a module has that was made. -/
structure Md.Made (M : Md) : Prop where
  small : M.Small
  fit : M.Fit
  strs : 0 < M.strs.length
  locs : ∀ f ∈ M.funcs, 0 < f.locals.length
  nums : ∀ f ∈ M.funcs, -1000000 ≤ f.name ∧ f.name ≤ 1000000 ∧ -1000000 ≤ f.params ∧ f.params ≤ 1000000
theorem canL_mono (g : List Int) (L : List Fn) (strs : List (List UInt8)) (i : Nat) : (canL g L strs i).length ≤ (canL g L strs (i + 1)).length := by
  simp only [canL]
  split
  · rw [bub_len]; simp
  · exact Nat.le_refl _
theorem canL_pos (g : List Int) (L : List Fn) (strs : List (List UInt8)) (i n : Nat) (h : i < n) (hu : usedF g L (i : Int) = true) : 0 < (canL g L strs n).length := by
  induction n with
  | zero => omega
  | succ n ih =>
    by_cases hi : i < n
    · exact Nat.lt_of_lt_of_le (ih hi) (canL_mono _ _ _ _)
    · obtain rfl : i = n := by omega
      simp only [canL]
      split
      · rw [bub_len]; simp
      · rename_i h2
        rcases Nat.eq_zero_or_pos (canL g L strs i).length with h0 | h0
        · exfalso
          apply h2
          refine ⟨hu, ?_⟩
          rw [List.eq_nil_of_length_eq_zero h0]
          simp [numF]
        · exact h0
theorem mkS_ge (g0 : List (List UInt8)) (F n : Nat) (h : 0 < n) : g0.length < (mkS g0 F n).length := by
  have h1 := mkS_mono g0 F 1 n h
  have : (mkS g0 F 1).length = g0.length + 1 + nlF F 0 + nsF 0 := by simp [mkS, namesF_len]; omega
  omega
theorem mk_made (gs : List (List UInt8)) (F E G : Nat) (acts : List Ac) (hg : gs.length = G % 4) : (canM (mkM gs (ints (G % 4)) F E acts)).Made := by
  have hS := mk_small gs (ints (G % 4)) F E acts
  have hlen := mkS_len gs F (1 + F % 4)
  have hcl : (canl (mkM gs (ints (G % 4)) F E acts)).length ≤ 1000 := by
    have := canL_len (mkM gs (ints (G % 4)) F E acts).globs (mkM gs (ints (G % 4)) F E acts).funcs (mkM gs (ints (G % 4)) F E acts).strs (mkM gs (ints (G % 4)) F E acts).strs.length
    have e : (mkM gs (ints (G % 4)) F E acts).strs.length = (mkS gs F (1 + F % 4)).length := rfl
    show (canL _ _ _ _).length ≤ 1000
    omega
  have hfn : ∀ f ∈ (canM (mkM gs (ints (G % 4)) F E acts)).funcs, (0 < f.locals.length ∧ f.locals.length ≤ 1000 ∧ f.sites.length ≤ 1000) ∧ -1000000 ≤ f.name ∧ f.name ≤ 1000000 ∧ -1000000 ≤ f.params ∧ f.params ≤ 1000000 := by
    intro f hf
    simp only [canM, List.mem_map] at hf
    obtain ⟨f0, hf0, rfl⟩ := hf
    simp only [mkM, fillB] at hf0
    obtain ⟨i, hi, rfl⟩ := List.mem_iff_getElem.1 hf0
    have hiL : i < 1 + F % 4 := by simp [mkL_len] at hi; omega
    have hm := mkL_get gs F (1 + F % 4) i hiL
    rw [List.getElem?_eq_getElem (by rw [mkL_len]; exact hiL)] at hm
    injection hm with hm
    simp only [List.getElem_zipWith, canFn, numsF, List.length_map]
    rw [hm]
    have hb := numF_bound (canl (mkM gs (ints (G % 4)) F E acts)) ((mkM gs (ints (G % 4)) F E acts).strs.getD ((((mkS gs F i).length : Nat) : Int)).toNat []) 0
    have h3 := pF_le F i
    dsimp only
    rw [seqI_len, seqI_len]
    have : nlF F i = pF F i + 1 + i % 3 := rfl
    have : nsF i = 1 + i % 2 := rfl
    refine ⟨by omega, by omega, by omega, by omega, by omega⟩
  refine ⟨hS, ⟨by show (canl _).length ≤ _; omega, ?_, by have := hS.fns.2; omega, ?_, fun f hf => ⟨by have := (hfn f hf).1; omega, by have := (hfn f hf).1; omega, by have := (hS.body f hf).1; omega, by have := (hS.body f hf).2; omega⟩⟩, ?_, fun f hf => (hfn f hf).1.1, fun f hf => (hfn f hf).2⟩
  · show (numsF _ _ _).length ≤ _
    simp [numsF, mkM, ints_len]; omega
  · show (entsF E (1 + F % 4)).length ≤ _
    have := entsF_len E (1 + F % 4); omega
  · show 0 < (canL _ _ _ _).length
    refine canL_pos _ _ _ gs.length _ (mkS_ge gs F (1 + F % 4) (by omega)) ?_
    have hl : 0 < (mkM gs (ints (G % 4)) F E acts).funcs.length := by simp only [mkM]; rw [fillB_len _ _ (by rw [mkT_len, mkL_len]), mkL_len]; omega
    have hm := mkL_get gs F (1 + F % 4) 0 (by omega)
    rw [List.getElem?_eq_getElem (by rw [mkL_len]; omega)] at hm
    injection hm with hm
    unfold usedF
    rw [Bool.or_eq_true]
    refine .inr (anyF_of hl ?_)
    have e : (mkM gs (ints (G % 4)) F E acts).funcs[0].name = (gs.length : Int) := by simp only [mkM, fillB, List.getElem_zipWith]; rw [hm]; rfl
    simp [e]
end Go.Proofs.Ytpdebnecfknohaa
