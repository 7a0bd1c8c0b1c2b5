
/-
  What Clone leaves of strings, of ints, of functions; what String leaves.
-/
import Derived.Test.YtpdebnecfknohaaQr
import Derived.Test.YtpdebnecfknohaaFp
namespace Go.Proofs.Ytpdebnecfknohaa
open Go.RowKit
set_option linter.unusedVariables false
set_option maxRecDepth 20000

set_option maxRecDepth 20000 in
set_option maxHeartbeats 1000000 in
theorem cloneStr_any (Aa : Option Addr) (ca : Nat) (l : List (List UInt8)) (w : World) (h : RdS (fun _ => True) w Aa l.length 1 (strV l)) (hl : l.length ≤ 1000000) :
    Calls Try.prog 57 #[.slice Aa l.length ca] w fun e w' => ∃ A c, e = .returned (.slice A l.length c) ∧ w'.ownsRow w.heap.size 9 1 (.slice A l.length c) l.length (strV l) ∧ Below w.heap.size w w' := by
  obtain ⟨i0, hi0, hz0, hz1, hz2⟩ := info_parts info9
  obtain ⟨n, hnl⟩ : ∃ n, n = l.length := ⟨_, rfl⟩
  have HNL := Lib.hid hnl
  have HFL : Hid ((strV l).length = n * 1) := by show _ = _; rw [hnl]; exact h.1
  cases Aa with
  | none =>
    have h0 : l = [] := by
      rcases Nat.eq_zero_or_pos l.length with h0 | h0
      · exact List.eq_nil_of_length_eq_zero h0
      · obtain ⟨b, o, hA, _⟩ := h.2 h0; cases hA
    subst h0
    clear h
    have hq := fun W => Lib.run_eql_slice_nil (P := Try.prog) W 26 9 none 0 ca 0 0 Try.underlying26
    simp only [List.length_nil]
    go_enter Try.func57, Try.ntmps57
    go_wp2
    go_ret
    exact ⟨none, 0, rfl, World.ownsRow_nil _ _ _ _, Below.refl _ _⟩
  | some a =>
    have hcc : ∀ j u, (strV l)[j]? = some u → w.cell? (a.add j) = some u := by
      intro j u hu
      have hp : 0 < l.length := by
        rcases Nat.eq_zero_or_pos l.length with h0 | h0
        · have : l = [] := List.eq_nil_of_length_eq_zero h0
          subst this; simp [strV] at hu
        · exact h0
      obtain ⟨b, o, hA, _, hc⟩ := h.2 hp
      injection hA with hA
      subst hA
      rw [Go.WideShapes.add_plain]
      exact hc j u hu
    have HF := Lib.hid hcc
    rw [← hnl] at hl ⊢
    clear hcc h hnl
    have hq := fun W => Lib.run_eql_slice_nil (P := Try.prog) W 26 9 (some a) n ca 0 0 Try.underlying26
    go_enter Try.func57, Try.ntmps57
    go_wp2_with (first | (at_builtin; refine wpList_append_own_at _ rfl (.tmp 5) (.tmp 6) 26 rfl w.heap.size 9 i0 (.string ⟨#[]⟩) 1 16 Try.underlying26 hi0 hz0 hz1 hz2 rfl (by decide) (.slice (some ⟨w.heap.size, 0, none⟩) 0 0) 0 [] rfl ?d1 a n ca (strV l) rfl ?c1 ?c2 ?c3 ?c4 ?c5 ?c6 ?_))
    case d1 => exact World.ownsRow_made w #[] 0 (Nat.le_refl _) (by unfold maxLen; omega) rfl
    case c1 => exact HFL.out
    case c2 =>
      intro j u hu
      have := HF.out j u hu
      rw [World.cell?_alloc_lt w _ _ (World.block_lt_of_cell? w _ this)]
      exact this
    case c3 => intro u hu; simp [strV] at hu; obtain ⟨x, _, rfl⟩ := hu; rfl
    case c4 => unfold maxLen; omega
    case c5 => omega
    case c6 => simp
    intro v' w1 hown hg _ hat
    have hown' : w1.ownsRow w.heap.size 9 1 v' n (strV l) := by simpa using hown
    obtain ⟨A, c, rfl⟩ := own_slice hown'
    have HO := Lib.hid hown'
    have HB := Lib.hid (((Below.refl w.heap.size w).alloc (Nat.le_refl _) (.cells #[] 9)).grown hg (by simp) (fun k hk => by simp [Value.ownBlock] at hk; omega))
    clear hown hown' hg hat
    go_wp2
    go_ret
    exact ⟨A, c, rfl, HO.out, HB.out⟩

set_option maxRecDepth 20000 in
set_option maxHeartbeats 1000000 in
theorem cloneInt_any (Aa : Option Addr) (ca : Nat) (l : List Int) (w : World) (h : RdS (fun _ => True) w Aa l.length 1 (intV l)) (hl : l.length ≤ 1000000) :
    Calls Try.prog 77 #[.slice Aa l.length ca] w fun e w' => ∃ A c, e = .returned (.slice A l.length c) ∧ w'.ownsRow w.heap.size 3 1 (.slice A l.length c) l.length (intV l) ∧ Below w.heap.size w w' := by
  obtain ⟨i0, hi0, hz0, hz1, hz2⟩ := info_parts info3
  obtain ⟨n, hnl⟩ : ∃ n, n = l.length := ⟨_, rfl⟩
  have HNL := Lib.hid hnl
  have HFL : Hid ((intV l).length = n * 1) := by show _ = _; rw [hnl]; exact h.1
  cases Aa with
  | none =>
    have h0 : l = [] := by
      rcases Nat.eq_zero_or_pos l.length with h0 | h0
      · exact List.eq_nil_of_length_eq_zero h0
      · obtain ⟨b, o, hA, _⟩ := h.2 h0; cases hA
    subst h0
    clear h
    have hq := fun W => Lib.run_eql_slice_nil (P := Try.prog) W 27 3 none 0 ca 0 0 Try.underlying27
    simp only [List.length_nil]
    go_enter Try.func77, Try.ntmps77
    go_wp2
    go_ret
    exact ⟨none, 0, rfl, World.ownsRow_nil _ _ _ _, Below.refl _ _⟩
  | some a =>
    have hcc : ∀ j u, (intV l)[j]? = some u → w.cell? (a.add j) = some u := by
      intro j u hu
      have hp : 0 < l.length := by
        rcases Nat.eq_zero_or_pos l.length with h0 | h0
        · have : l = [] := List.eq_nil_of_length_eq_zero h0
          subst this; simp [intV] at hu
        · exact h0
      obtain ⟨b, o, hA, _, hc⟩ := h.2 hp
      injection hA with hA
      subst hA
      rw [Go.WideShapes.add_plain]
      exact hc j u hu
    have HF := Lib.hid hcc
    rw [← hnl] at hl ⊢
    clear hcc h hnl
    have hq := fun W => Lib.run_eql_slice_nil (P := Try.prog) W 27 3 (some a) n ca 0 0 Try.underlying27
    go_enter Try.func77, Try.ntmps77
    go_wp2_with (first | (at_builtin; refine wpList_append_own_at _ rfl (.tmp 5) (.tmp 6) 27 rfl w.heap.size 3 i0 (.int .i64 0) 1 8 Try.underlying27 hi0 hz0 hz1 hz2 rfl (by decide) (.slice (some ⟨w.heap.size, 0, none⟩) 0 0) 0 [] rfl ?d1 a n ca (intV l) rfl ?c1 ?c2 ?c3 ?c4 ?c5 ?c6 ?_))
    case d1 => exact World.ownsRow_made w #[] 0 (Nat.le_refl _) (by unfold maxLen; omega) rfl
    case c1 => exact HFL.out
    case c2 =>
      intro j u hu
      have := HF.out j u hu
      rw [World.cell?_alloc_lt w _ _ (World.block_lt_of_cell? w _ this)]
      exact this
    case c3 => intro u hu; simp [intV] at hu; obtain ⟨x, _, rfl⟩ := hu; rfl
    case c4 => unfold maxLen; omega
    case c5 => omega
    case c6 => simp
    intro v' w1 hown hg _ hat
    have hown' : w1.ownsRow w.heap.size 3 1 v' n (intV l) := by simpa using hown
    obtain ⟨A, c, rfl⟩ := own_slice hown'
    have HO := Lib.hid hown'
    have HB := Lib.hid (((Below.refl w.heap.size w).alloc (Nat.le_refl _) (.cells #[] 3)).grown hg (by simp) (fun k hk => by simp [Value.ownBlock] at hk; omega))
    clear hown hown' hg hat
    go_wp2
    go_ret
    exact ⟨A, c, rfl, HO.out, HB.out⟩

set_option maxHeartbeats 400000 in
theorem string_any (M : Md) (As : Option Addr) (cs : Nat) (v1 v2 v3 : Value) (n : Int) (w : World) (hn1 : -9223372036854775808 ≤ n) (hn2 : n ≤ 9223372036854775807) (h : RdS (fun _ => True) w As M.strs.length 1 (strV M.strs)) (hl : M.strs.length ≤ 1000000) (x : List UInt8) (hx : (if 0 ≤ n ∧ n < M.strs.length then M.strs.getD n.toNat [] else []) = x) :
    Calls Try.prog 48 #[.agg #[.slice As M.strs.length cs, v1, v2, v3], .int .i64 n] w fun e w' => e = .returned (.string (bs x)) ∧ Below w.heap.size w w' := by
  have HR := Lib.hid h
  have HX := Lib.hid hx
  obtain ⟨ls, hls⟩ : ∃ ls, ls = M.strs.length := ⟨_, rfl⟩
  have HLS := Lib.hid hls
  rw [← hls] at hl ⊢
  clear h hx hls
  have HB : Hid (Below w.heap.size w (w.alloc (.cells #[.slice As ls cs, v1, v2, v3] 30))) := (Below.refl _ _).alloc (Nat.le_refl _) _
  by_cases h0 : 0 ≤ n
  · by_cases h1 : n < ls
    · obtain ⟨k, rfl⟩ : ∃ k : Nat, n = k := ⟨n.toNat, by omega⟩
      have hk : k < M.strs.length := by rw [← HLS.out]; omega
      obtain ⟨b, o, rfl, _, hc⟩ := HR.out.2 (by omega)
      have hcell := hc k _ (strV_get M.strs k hk)
      have hbl := World.block_lt_of_cell? w ⟨b, o + k, none⟩ hcell
      have e : M.strs[k] = x := by
        rw [← HX.out, if_pos (by rw [← HLS.out]; omega)]
        simp [List.getD, hk]
      rw [e] at hcell
      clear hc e
      go_enter Try.func48, Try.ntmps48
      go_wp2
      go_ret
      exact ⟨rfl, HB.out⟩
    · obtain rfl : [] = x := by rw [← HX.out, if_neg (by rw [← HLS.out]; omega)]
      go_enter Try.func48, Try.ntmps48
      go_wp2
      go_ret
      exact ⟨rfl, HB.out⟩
  · obtain rfl : [] = x := by rw [← HX.out, if_neg (by omega)]
    go_enter Try.func48, Try.ntmps48
    go_wp2
    go_ret
    exact ⟨rfl, HB.out⟩
end Go.Proofs.Ytpdebnecfknohaa
