
/-
  What the reference's Flat leaves.
-/
import Derived.Test.YtpdebnecfknohaaFw
namespace Go.Proofs.Ytpdebnecfknohaa
open Go.RowKit
set_option linter.unusedVariables false
set_option maxRecDepth 20000

/-- A list of items of the call's own, of statements that were there. -/
structure RfI (w0 w : World) (v : Value) (L : List It) : Prop where
  row : ItRow 90 w w0.heap.size (fun k => k < w0.heap.size) v L
  bel : Below w0.heap.size w0 w

set_option maxRecDepth 20000 in
set_option maxHeartbeats 4000000 in
theorem rflat_any (w0 : World) (N : Nat) : ∀ (t : Bd) (deep : Nat) (A : Option Addr) (c : Nat) (Av : Option Addr) (cv : Nat) (L : List It) (w : World), t.size ≤ N → deep ≤ 1000 → BodyV w0 A t → RfI w0 w (.slice Av L.length cv) L → L.length + t.size ≤ 100000000 → t.wide ≤ 100000000 →
    Calls Try.prog 70 #[.slice Av L.length cv, .slice A t.len c, .int .i64 deep] w fun e w' => ∃ A' c', e = .returned (.slice A' (L ++ t.flat deep).length c') ∧ RfI w0 w' (.slice A' (L ++ t.flat deep).length c') (L ++ t.flat deep) := by
  induction N with
  | zero =>
    intro t deep A c Av cv L w hN hd hV hI hm hwd
    have ht : t = .nil := by cases t <;> simp [Bd.size] at hN ⊢
    subst ht
    have HI := Lib.hid hI
    clear hI hV
    simp only [Bd.len]
    go_enter Try.func70, Try.ntmps70
    go_wp2_with fail
    go_loopw [0, 7] (fun s0 s7 wr => s0 = .slice Av L.length cv ∧ s7 = .int .i64 0 ∧ wr = w) (fun _ _ _ => 0)
    case atStart => exact ⟨rfl, rfl, rfl⟩
    case round =>
      obtain ⟨rfl, rfl, rfl⟩ := hrel
      go_wp2
      go_ret
      exact ⟨Av, cv, by simp [Bd.flat], by simpa [Bd.flat] using HI.out⟩
  | succ N ih =>
    intro t deep A c Av cv L w hN hd hV hI hm hwd
    have IH := Lib.hid ih
    have HV := Lib.hid hV
    have HI0 := Lib.hid hI
    have hlen : t.len ≤ 100000000 := by have := Bd.len_le t; omega
    clear hI hV ih
    go_enter Try.func70, Try.ntmps70
    go_wp2_with fail
    go_loopw [0, 7] (fun s0 s7 wr => ∃ (i n' : Nat) (A' : Option Addr) (c' : Nat) (L' : List It), s7 = .int .i64 i ∧ s0 = .slice A' n' c' ∧ i ≤ t.len ∧ n' ≤ 100000000 ∧ Hid (n' = L'.length) ∧ Hid (L' ++ (t.drop i).flat deep = L ++ t.flat deep) ∧ Hid (L'.length + (t.drop i).size ≤ 100000000) ∧ Hid (RfI w0 wr (.slice A' n' c') L')) (fun _ s7 _ => t.len - (intOf s7).toNat)
    case atStart => exact ⟨0, L.length, Av, cv, L, rfl, rfl, Nat.zero_le _, by omega, rfl, rfl, (by show _ ≤ _; simpa [Bd.drop] using hm), HI0⟩
    case round =>
      obtain ⟨i, n', A', c', L', rfl, rfl, hi, hn', HNL, hE, hM, hI⟩ := hrel
      by_cases hlt : i < t.len
      · obtain ⟨k, a1, a2, b1, b2, args, sub, rest, hdr⟩ := Bd.drop_cons t i hlt
        obtain ⟨b, o, rfl, hat⟩ := HV.out (by omega)
        have hat0 := hat.drop t b o i
        rw [hdr] at hat0
        obtain ⟨⟨d0, d1, d2, d3, d4⟩, ⟨va, d5, ⟨Aa, ca, rfl, hargs⟩⟩, ⟨As, cs, d6, hsub⟩, _⟩ := hat0
        have hbl : b < w0.heap.size := World.block_lt_of_cell? w0 ⟨b, o + i * 7, none⟩ d0
        have hB := hI.out.bel
        have e0 := cell_old hB hbl d0
        have e1 := cell_old hB hbl d1
        have e2 := cell_old hB hbl d2
        have e3 := cell_old hB hbl d3
        have e4 := cell_old hB hbl d4
        have e5 := cell_old hB hbl d5
        have e6 := cell_old hB hbl d6
        have HSub : Hid (BodyV w0 As sub) := hsub
        have hArg : ArgsAt w0 (.slice Aa args.length ca) args := ⟨Aa, ca, rfl, hargs⟩
        have hsz1 := Bd.size_drop t i
        have hss := Bd.sub_size t i hdr
        have hE2 := hE.out
        have hM2 := hM.out
        rw [hdr] at hE2 hM2 hsz1
        simp only [Bd.flat, Bd.size] at hE2 hM2 hsz1
        have Hnx := Lib.hid (Bd.drop_succ t i hdr)
        have HE2 := Lib.hid hE2
        have hcs := Bd.cnt_le sub (deep + 1)
        have hfl := Bd.flat_len sub (deep + 1)
        have hsl := Bd.len_le sub
        have hne : ∀ k, some k = (Value.slice A' n' c').ownBlock → w0.heap.size ≤ k := fun k hk => (hI.out.row.blk k hk).1
        have hKb : Kept (fun k => k < w0.heap.size) w0 wr := fun k hk _ => hB.block k hk
        have hcl : ∀ k, k < w0.heap.size → k < w0.heap.size → (some k ≠ (Value.slice A' n' c').ownBlock ∧ k < w0.heap.size) := fun k hk _ => ⟨fun e => by have := hne k e; omega, hk⟩
        obtain ⟨q6, c6, w6, hr6, hR6, hs6, hk6, hq6, hb6⟩ := push9 90 87 _ Try.underlying87 info90 rfl w0.heap.size (fun k => k < w0.heap.size) (.slice A' n' c') L' ⟨deep, k, a1, a2, b1, b2, args, sub⟩ Aa As ca cs n' HNL.out wr hI.out.row (by rw [← HNL.out]; omega) hB.size (hArg.toS.kept hKb hcl) (HSub.out.toS.kept hKb hcl)
        dsimp only at hr6 hR6
        have HI6 : Hid (RfI w0 w6 (.slice (some ⟨q6, 0, none⟩) (n' + 1) c6) (L' ++ [⟨deep, k, a1, a2, b1, b2, args, sub⟩])) := ⟨hR6, hb6 _ _ hB (Nat.le_refl _) hB.size⟩
        have hB6 : Below w0.heap.size w0 w6 := hb6 _ _ hB (Nat.le_refl _) hB.size
        have g0 := cell_old hB6 hbl d0
        have g6 := cell_old hB6 hbl d6
        have hb6 : b < w6.heap.size := Nat.lt_of_lt_of_le hbl hB6.size
        have hbw : b < wr.heap.size := Nat.lt_of_lt_of_le hbl hB.size
        have hNLo := HNL.out
        clear d0 d1 d2 d3 d4 d5 d6 hsub hat hdr hE hM hE2 hargs hB hB6 hR6 hk6 hq6 hs6 hb6 hne hKb hcl hArg hI
        have hnl : n' + 1 + sub.size + rest.size ≤ 100000000 := by omega
        clear hNLo
        go_upto_region 5 with (at_builtin; refine Lib.wpList_append_run _ rfl _ _ 87 87 rfl _ _ rfl rfl _ _ hr6 ?_)
        clear e0 e1 e2 e3 e4 e5 e6 hr6
        by_cases hk : k = 7 ∧ deep < 1000
        · obtain ⟨rfl, hdeep⟩ := hk
          have hdi : (deep : Int) + 1 ≤ 1000 := by omega
          have hI := IH.out sub (deep + 1) As cs (some ⟨q6, 0, none⟩) c6 (L' ++ [⟨deep, 7, a1, a2, b1, b2, args, sub⟩]) w6 (by omega) (by omega) HSub.out (by simpa [← HNL.out] using HI6.out) (by simp [← HNL.out]; omega) (by omega)
          rw [show ((deep + 1 : Nat) : Int) = (deep : Int) + 1 from by omega, show (L' ++ [(⟨deep, 7, a1, a2, b1, b2, args, sub⟩ : It)]).length = n' + 1 from by simp [← HNL.out]] at hI
          have HI := Lib.hid hI
          clear hI
          go_wp2_with fail
          refine HI.out.mono ?_
          rintro e w3 ⟨A3, c3, rfl, hI4⟩
          obtain ⟨n3, hn3⟩ : ∃ n3, n3 = (L' ++ [(⟨deep, 7, a1, a2, b1, b2, args, sub⟩ : It)] ++ sub.flat (deep + 1)).length := ⟨_, rfl⟩
          have hn3l : n3 ≤ 100000000 := by rw [hn3]; simp [← HNL.out, hfl]; omega
          rw [← hn3] at hI4 ⊢
          have HN3 := Lib.hid hn3
          have HI4 := Lib.hid hI4
          clear hI4 hn3
          go_wp2
          go_roundw
          case rel =>
            refine ⟨i + 1, n3, A3, c3, _, by go_num, rfl, by omega, hn3l, HN3, ?_, ?_, HI4⟩
            · show _ = _
              have h := HE2.out
              rw [if_pos (by simp; exact hdeep)] at h
              rw [Hnx.out, ← h]; simp
            · show _ ≤ _
              rw [Hnx.out]; simp [← HNL.out]; omega
          case measure => simp [intOf]; omega
        · have HK := Lib.hid hk
          by_cases hk7 : k = 7
          · subst hk7
            have hdeep : ¬ (deep < 1000) := fun h => hk ⟨rfl, h⟩
            have hdi : ¬ ((deep : Int) + 1 ≤ 1000) := by omega
            clear hk
            go_wp2
            go_roundw
            case rel =>
              refine ⟨i + 1, n' + 1, _, c6, _, by go_num, rfl, by omega, by omega, (by show _ = _; simp [← HNL.out]), ?_, ?_, HI6⟩
              · show _ = _
                have h := HE2.out
                rw [if_neg HK.out] at h
                rw [Hnx.out, ← h]; simp
              · show _ ≤ _
                rw [Hnx.out]; simp [← HNL.out]; omega
            case measure => simp [intOf]; omega
          · have hkb : (k == 7) = false := by simpa using hk7
            clear hk hk7
            go_wp2
            go_roundw
            case rel =>
              refine ⟨i + 1, n' + 1, _, c6, _, by go_num, rfl, by omega, by omega, (by show _ = _; simp [← HNL.out]), ?_, ?_, HI6⟩
              · show _ = _
                have h := HE2.out
                rw [if_neg HK.out] at h
                rw [Hnx.out, ← h]; simp
              · show _ ≤ _
                rw [Hnx.out]; simp [← HNL.out]; omega
            case measure => simp [intOf]; omega
      · obtain rfl : i = t.len := by omega
        have hE2 := hE.out
        rw [Bd.drop_end t t.len (Nat.le_refl _)] at hE2
        simp only [Bd.flat, List.append_nil] at hE2
        have HE2 := Lib.hid hE2
        clear hE2
        go_wp2
        go_ret
        exact ⟨A', c', by rw [← HE2.out, ← HNL.out]; rfl, by rw [← HE2.out, ← HNL.out]; exact hI.out⟩

set_option maxHeartbeats 400000 in
theorem flatR_any (A : Option Addr) (c : Nat) (t : Bd) (w : World) (h : BodyV w A t) (ht : t.size ≤ 100000000) (hwd : t.wide ≤ 100000000) :
    Calls Try.prog 42 #[.slice A t.len c] w (ItPost 90 (fun k => k < w.heap.size) w (t.flat 0)) := by
  have hW := rflat_any w t.size t 0 A c none 0 [] w (Nat.le_refl _) (by omega) h ⟨ItRow.nil _ _ _ _, Below.refl _ _⟩ (by simpa using ht) hwd
  have HW := Lib.hid hW
  clear hW h
  go_enter Try.func42, Try.ntmps42
  go_wp2_with fail
  refine HW.out.mono ?_
  rintro e w2 ⟨A2, c2, rfl, hI2⟩
  rw [List.nil_append] at hI2 ⊢
  have HI2 := Lib.hid hI2
  clear hI2
  go_wp2
  go_ret
  exact ⟨A2, c2, rfl, HI2.out.row, HI2.out.bel⟩
end Go.Proofs.Ytpdebnecfknohaa
