/-
  The walk of LexTokens.
-/
import Derived.Test.YtgaedkaohjphaaaOf
import Derived.Test.YtgaedkaohjphaaaOg0
import Derived.Test.YtgaedkaohjphaaaMw
import Derived.Deep.QuietTactic
import Derived.BigQuiet
import Derived.Deep.LoopGhost
namespace Go.Proofs.Ytgaedkaohjphaaa
open Go.RowKit
set_option linter.unusedVariables false
set_option linter.unusedSimpArgs false
set_option maxRecDepth 20000
set_option maxHeartbeats 8000000 in
theorem tokens_walk (A : Option Addr) (n c : Nat) (p : List UInt8) (w : World) (h : Src w A n p) (hc : n ≤ c) (hg : G0 w) :
    Calls Try.prog 3 #[.slice A n c] w fun e w' => e = .returned (.bool true) ∧ Below w.heap.size w w' := by
  have HS := Lib.hid h
  have HG := Lib.hid hg
  have hl : p.length = n := h.1
  have HL := Lib.hid hl
  have HAw := fun wx (hx : Below w.heap.size w wx) => awake_any wx (HG.out.old hx)
  clear h hg hl
  go_enter Try.func3, Try.ntmps3
  go_wp2_with fail
  refine (HAw w (Below.refl _ _)).mono ?_
  rintro e w1 ⟨rfl, hb1⟩
  have HB1 := Lib.hid hb1
  clear hb1
  by_cases h400 : 400 < n
  · have h3i : (400 : Int) < (n : Int) := by omega
    go_wp2_with fail
    refine (HAw w1 HB1.out).mono ?_
    rintro e w2 ⟨rfl, hb2⟩
    go_wp2
    go_ret
    exact ⟨rfl, HB1.out.trans (hb2.mono HB1.out.size)⟩
  have h3i : ¬ (400 : Int) < (n : Int) := by omega
  have hn : n ≤ 400 := by omega
  clear HAw h400
  have HNw := Lib.hid (new_any A n c p w1 (HS.out.old HB1.out) (by omega) (HG.out.old HB1.out))
  go_wp2_with fail
  refine HNw.out.mono ?_
  rintro e w2 ⟨q, A', c', rfl, hq, hL, hb2⟩
  have HB2 := Lib.hid (HB1.out.trans (hb2.mono HB1.out.size))
  have HLx := Lib.hid hL
  have HTk := Lib.hid (toks_any A n c p w2 (HS.out.old HB2.out) hc (by omega))
  have hqB : w.heap.size ≤ q := Nat.le_trans HB1.out.size hq
  have hq2 : q < w2.heap.size := hL.box.lt
  clear HNw hL hb2 h3i
  go_wp2_with fail
  refine HTk.out.mono ?_
  rintro e w3 ⟨m, A4, c4, hm, rfl, hO, hb3⟩
  have HST := Lib.hid (seq_start p)
  rw [← HL.out] at hm hO
  obtain ⟨T, hT⟩ : ∃ T, T = toksF p (p.length + 1) 0 [] := ⟨_, rfl⟩
  have HT := Lib.hid (show toksF p (n + 1) 0 [] = T by rw [hT, HL.out])
  rw [← hT] at hm hO HST
  rw [HT.out]
  clear hT HT HTk
  obtain ⟨L, bd⟩ := T
  dsimp only at hm hO HST
  have HB3 := Lib.hid (HB2.out.trans (hb3.mono HB2.out.size))
  have HL3 := Lib.hid (HLx.out.old hb3)
  have hmx := own_cap hO
  have HO3 := Lib.hid hO
  have HM := Lib.hid hm
  clear hO hm hb3 HLx
  obtain ⟨bs2, hbs2⟩ : ∃ b, b = w2.heap.size := ⟨_, rfl⟩
  rw [← hbs2] at HO3 hq2
  clear hbs2
  go_wp2_with fail
  go_loopg [6] (m + 1) (fun k s6 wr => ∃ (i a : Nat), s6 = .int .i64 (i : Int) ∧ i ≤ m ∧ m - i < k ∧ Hid (SeqAt p L bd i a) ∧ Hid (LexR wr q A' n c' p a) ∧ Hid (wr.ownsRow bs2 34 4 (.slice A4 m c4) m (toksV L)) ∧ Hid (Below w.heap.size w wr))
  case atStart => exact ⟨0, 0, rfl, Nat.zero_le _, by omega, HST, HL3, HO3, HB3⟩
  case round =>
    clear HST HL3 HO3 HB3
    obtain ⟨i, a, rfl, him, hk, hSq, hX, hO, hBl⟩ := hrel
    obtain ⟨f, rfl⟩ : ∃ g, gk = g + 1 := ⟨gk - 1, by omega⟩
    by_cases hlt : i < m
    · have hii : (i : Int) < (m : Int) := by omega
      have hiL : i < L.length := by rw [← HM.out]; exact hlt
      obtain ⟨a', hnx, ha', hSq'⟩ := seq_next p L bd i a (by rw [HL.out]; exact hX.out.at_) hSq.out hiL
      have hN := next_any w.heap.size q A' n c' a p wr hX.out hqB
      rw [hnx] at hN
      obtain ⟨t, ht⟩ : ∃ t, t = L[i] := ⟨_, rfl⟩
      rw [← ht] at hN
      have HTi := Lib.hid ht
      have HN := Lib.hid hN
      have HSq' := Lib.hid hSq'
      clear hN ht hSq' hnx hSq hX ha'
      go_wp2_with fail
      refine HN.out.mono ?_
      rintro e w5 ⟨rfl, hb5, hk5, hX5⟩
      have HX5 := Lib.hid hX5
      have HO5 := Lib.hid (own_kept hO.out hq2 hk5)
      have HB5 := Lib.hid (hBl.out.trans (by exact hb5))
      clear hb5 hk5 hX5 hO hBl HN
      obtain ⟨g, rfl, hgb, hgw, hmc, _, e0, e1, e2, e3⟩ := own_tok HO5.out i hiL
      rw [← HTi.out] at e0 e1 e2 e3
      obtain ⟨tk, tm, tt, ta⟩ := t
      simp only [Tok.cells]
      dsimp only at e0 e1 e2 e3
      have hwA : Below w5.heap.size w5 (w5.alloc (.cells #[.int .u8 (tk : Int), .int .u8 (tm.toNat : Int), .string (bs tt), .int .i64 (ta : Int)] 30)) := (Below.refl _ _).alloc (Nat.le_refl _) _
      have HX6 : Hid (∀ nq, LexR ((w5.alloc (.cells #[.int .u8 (tk : Int), .int .u8 (tm.toNat : Int), .string (bs tt), .int .i64 (ta : Int)] 30)).drewN nq) q A' n c' p a') := fun nq => (HX5.out.old hwA).old (below_dn _ _ nq)
      have HO6 : Hid (∀ nq, ((w5.alloc (.cells #[.int .u8 (tk : Int), .int .u8 (tm.toNat : Int), .string (bs tt), .int .i64 (ta : Int)] 30)).drewN nq).ownsRow bs2 34 4 (.slice (some ⟨g, 0, none⟩) m c4) m (toksV L)) := fun nq => own_old (own_old HO5.out hwA) (below_dn _ _ nq)
      have HB6 : Hid (∀ nq, Below w.heap.size w ((w5.alloc (.cells #[.int .u8 (tk : Int), .int .u8 (tm.toNat : Int), .string (bs tt), .int .i64 (ta : Int)] 30)).drewN nq)) := fun nq => (HB5.out.alloc HB5.out.size _).trans (below_dn _ _ nq)
      have hic : i < c4 := by omega
      clear HX5 HO5 HB5 HTi hwA
      generalize bs tt = S at *
      generalize (tk : Int) = k1 at *
      generalize (tm.toNat : Int) = m1 at *
      generalize (ta : Int) = t1 at *
      go_upto_region 9 with (fail)
      go_quiet (fail)
      have HX7 := Lib.hid (HX6.out nq)
      have HO7 := Lib.hid (HO6.out nq)
      have HB7 := Lib.hid (HB6.out nq)
      clear HX6 HO6 HB6
      generalize (w5.alloc (.cells #[.int .u8 k1, .int .u8 m1, .string S, .int .i64 t1] 30)).drewN nq = wz at *
      clear e0 e1 e2 e3 hic hgw
      go_wp2
      go_roundg f
      case measure => omega
      case rel => exact ⟨i + 1, a', by go_num, by omega, by omega, HSq', HX7, HO7, HB7⟩
    · obtain rfl : i = m := by omega
      have hSq2 := hSq.out
      rw [HM.out] at hSq2
      have hlast := seq_last p L bd a (by rw [HL.out]; exact hX.out.at_) hSq2
      have hN := next_any w.heap.size q A' n c' a p wr hX.out hqB
      rcases hlast with ⟨k, rfl, hnx⟩ | ⟨rfl, hnx⟩
      · rw [hnx] at hN
        have HN := Lib.hid hN
        clear hN hnx hSq hSq2 hX hO
        go_wp2_with fail
        refine HN.out.mono ?_
        rintro e w5 ⟨rfl, hb5, hk5, hX5⟩
        have HB5 := Lib.hid (hBl.out.trans (by exact hb5))
        clear hb5 hk5 hX5 hBl HN
        simp only [tok0, Tok.cells]
        rw [show bs [] = (⟨#[]⟩ : ByteArray) from rfl]
        have hk0 : (0 : Int) ≤ (k : Int) := by omega
        go_wp2
        go_ret
        exact ⟨rfl, HB5.out.alloc HB5.out.size _⟩
      · rw [hnx] at hN
        rw [HL.out] at hN
        have HN := Lib.hid hN
        clear hN hnx hSq hSq2 hX hO
        go_wp2_with fail
        refine HN.out.mono ?_
        rintro e w5 ⟨rfl, hb5, hk5, hX5⟩
        have HB5 := Lib.hid (hBl.out.trans (by exact hb5))
        clear hb5 hk5 hX5 hBl HN
        simp only [Tok.cells]
        rw [show bs [] = (⟨#[]⟩ : ByteArray) from rfl]
        go_wp2
        go_ret
        exact ⟨rfl, HB5.out.alloc HB5.out.size _⟩
end Go.Proofs.Ytgaedkaohjphaaa
