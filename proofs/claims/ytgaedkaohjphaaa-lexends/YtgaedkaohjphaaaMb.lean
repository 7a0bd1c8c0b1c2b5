/-
  The walk of LexEnds.
-/
import Derived.Test.YtgaedkaohjphaaaMa
import Derived.Test.YtgaedkaohjphaaaLl
import Derived.Lib.AppendStr
namespace Go.Proofs.Ytgaedkaohjphaaa
open Go.RowKit
set_option linter.unusedVariables false
set_option linter.unusedSimpArgs false
set_option maxRecDepth 20000

theorem next_nil (w : World) : Calls Try.prog 13 #[.pointer none] w fun e w' => e = .returned (.tuple #[.agg #[.int .u8 0, .int .u8 0, .string ⟨#[]⟩, .int .i64 0], .int .i64 0, .int .i64 2]) ∧ Below w.heap.size w w' := by
  obtain ⟨w1, hw1⟩ : ∃ w1, w1 = w.alloc (.cells #[.int .u8 0, .int .u8 0, .string ⟨#[]⟩, .int .i64 0] 30) := ⟨_, rfl⟩
  have HB1 : Hid (Below w.heap.size w w1) := by rw [hw1]; exact (Below.refl _ _).alloc (Nat.le_refl _) _
  have K1 : Hid (Blk w1 w.heap.size 30 #[.int .u8 0, .int .u8 0, .string ⟨#[]⟩, .int .i64 0]) := by rw [hw1]; exact Blk.new w 30 _
  go_enter Try.func13, Try.ntmps13
  go_upto_region 1 with (fail)
  rw [← hw1]
  clear hw1
  obtain ⟨k0, k1, k2, k3⟩ := K1.out.c4
  have f0 := K1.out.frozen 0
  have f1 := K1.out.frozen 1
  have f2 := K1.out.frozen 2
  have f3 := K1.out.frozen 3
  have z1 : w.heap.size < w1.heap.size := K1.out.lt
  go_wp2
  have hbf := set4B HB1.out (Nat.le_refl _) (.int .u8 0) (.int .u8 0) (.string ⟨#[]⟩) (.int .i64 0)
  obtain ⟨q0, q1, q2, q3⟩ := (K1.out.set4 (.int .u8 0) (.int .u8 0) (.string ⟨#[]⟩) (.int .i64 0)).c4
  refine bodyPost_ret (v := .tuple #[.agg #[.int .u8 0, .int .u8 0, .string ⟨#[]⟩, .int .i64 0], .int .i64 0, .int .i64 2]) (by simp [results, Try.results13, go_sem, q0, q1, q2, q3]) rfl ?_
  exact ⟨rfl, hbf⟩
/-- A string behind a row of the call's own. -/
theorem pushS (base : Nat) (v : Value) (m : Nat) (l s : List UInt8) (w : World) (hm : m = l.length) (h : w.ownsRow base 5 1 v m (bytesV l)) (hl : m + s.length ≤ 1000000000) (hs : 0 < s.length) (hb : base ≤ w.heap.size) :
    ∃ A c w', (Builtin.append_ #[22, 9] 22 #[v, .string (bs s)]).run Try.prog w = .ok (.slice A (m + s.length) c) w' ∧ w'.ownsRow base 5 1 (.slice A (m + s.length) c) (m + s.length) (bytesV (l ++ s)) ∧ Below base w w' := by
  obtain ⟨i0, hi0, hz0, hz1, hz2⟩ := info_parts info5
  have hz : (bs s).size = s.length := by simp [bs, ByteArray.size]
  obtain ⟨v5, w5, hr5, hO5, hg5, hn5⟩ := Lib.run_append_own_string (P := Try.prog) w base 22 9 22 5 i0 Try.underlying22 Try.underlying9 hi0 hz0 hz1 hz2 v m _ h (bs s) (by unfold maxLen; omega) (by omega) hb
  rw [hz] at hO5
  obtain ⟨q5, c5, rfl⟩ : ∃ q5 c5, v5 = .slice (some ⟨q5, 0, none⟩) (m + s.length) c5 := by
    rcases hO5.2 with ⟨_, h1⟩ | ⟨k, cap, cur, hv, _⟩
    · omega
    · exact ⟨k, cap, hv⟩
  refine ⟨_, c5, w5, hr5, ?_, (Below.refl base w).grown hg5 hb (fun k hk => (h.lt k hk).1)⟩
  rw [show bytesV (l ++ s) = bytesV l ++ Lib.strCells (bs s) from by simp [bytesV, Lib.strCells, bs]]
  exact hO5
set_option maxHeartbeats 8000000 in
theorem ends_walk (n : Int) (A : Option Addr) (nb c : Nat) (p : List UInt8) (w : World) (hn : 0 ≤ n ∧ n < 256) (h : Src w A nb p) (hg : G0 w) :
    Calls Try.prog 6 #[.int .u8 n, .slice A nb c] w fun e w' => e = .returned (.bool true) ∧ Below w.heap.size w w' := by
  have HS := Lib.hid h
  have HG := Lib.hid hg
  have HAw := fun wx (hx : Below w.heap.size w wx) => awake_any wx (HG.out.old hx)
  clear h hg
  go_enter Try.func6, Try.ntmps6
  go_wp2_with fail
  refine (HAw w (Below.refl _ _)).mono ?_
  rintro e w1 ⟨rfl, hb1⟩
  have HB1 := Lib.hid hb1
  clear hb1
  by_cases h40 : 40 < nb
  · have h3i : (40 : Int) < (nb : Int) := by omega
    go_wp2_with fail
    refine (HAw w1 HB1.out).mono ?_
    rintro e w2 ⟨rfl, hb2⟩
    go_wp2
    go_ret
    exact ⟨rfl, HB1.out.trans (hb2.mono HB1.out.size)⟩
  have h3i : ¬ (40 : Int) < (nb : Int) := by omega
  clear HAw
  go_wp2_with fail
  go_loopw [5, 6] (fun s5 s6 wr => ∃ (i m : Nat) (A7 : Option Addr) (c7 : Nat) (ks : List Nat), i ≤ nb ∧ s6 = .int .i64 (i : Int) ∧ s5 = .slice A7 m c7 ∧ m ≤ 7 * i ∧ Hid (m = (catP ks).length) ∧ Hid (wr.ownsRow w.heap.size 5 1 (.slice A7 m c7) m (bytesV (catP ks))) ∧ Hid (Below w.heap.size w wr)) (fun _ s6 _ => nb - (intOf s6).toNat)
  case atStart => exact ⟨0, 0, none, 0, [], Nat.zero_le _, rfl, rfl, Nat.zero_le _, rfl, World.ownsRow_nil _ _ _ _, HB1⟩
  case round =>
    clear HB1
    obtain ⟨i, m, A7, c7, ks, hi, rfl, rfl, hm7, hm, hO, hB⟩ := hrel
    by_cases hlt : i < nb
    · have hli : (i : Int) < (nb : Int) := by omega
      obtain ⟨b, o, rfl, hcc⟩ := HS.out.2 (by omega)
      have hil : i < p.length := by rw [HS.out.1]; exact hlt
      have e0 : wr.cell? ⟨b, o + i, none⟩ = some (.int .u8 (p[i].toNat : Int)) := cell_old hB.out (World.block_lt_of_cell? w _ (hcc i hil)) (hcc i hil)
      have hbl : b < wr.heap.size := World.block_lt_of_cell? wr ⟨b, o + i, none⟩ e0
      have hxr : p[i].toNat < 256 := p[i].toNat_lt
      generalize p[i].toNat = x at *
      obtain ⟨k, hk, hk7⟩ : ∃ k : Nat, (x : Int) % 7 = (k : Int) ∧ k < 7 := ⟨x % 7, by omega, by omega⟩
      have hkt : (x : Int).tmod 7 = (k : Int) := by rw [Int.tmod_eq_emod_of_nonneg (by omega)]; exact hk
      have hpl := piece_len k
      obtain ⟨W, hW⟩ : ∃ W, W = wr.alloc (.cells #[.string ⟨#[32]⟩, .string ⟨#[9]⟩, .string ⟨#[13, 10]⟩, .string ⟨#[10]⟩, .string ⟨#[47, 47, 32, 97, 10]⟩, .string ⟨#[47, 42, 32, 98, 32, 42, 47]⟩, .string ⟨#[47, 42, 42, 47]⟩] 9) := ⟨_, rfl⟩
      have hBW : Below w.heap.size w W := by rw [hW]; exact hB.out.alloc hB.out.size _
      have hOW : W.ownsRow w.heap.size 5 1 (.slice A7 m c7) m (bytesV (catP ks)) := by rw [hW]; exact hO.out.alloc _
      obtain ⟨A5, c5, w5, hr5, hO5, hb5⟩ := pushS w.heap.size (.slice A7 m c7) m (catP ks) (piece k) W hm.out hOW (by omega) (by omega) hBW.size
      rw [← catP_snoc] at hO5
      have HO5 := Lib.hid hO5
      have HB5 := Lib.hid (hBW.trans hb5)
      have HM5 : Hid (m + (piece k).length = (catP (ks ++ [k])).length) := by show _ = _; rw [catP_snoc, List.length_append, ← hm.out]
      rw [hW] at hr5
      clear hcc hO hm hOW hBW hb5 hO5 hW hB
      rcases (show k = 0 ∨ k = 1 ∨ k = 2 ∨ k = 3 ∨ k = 4 ∨ k = 5 ∨ k = 6 by omega) with rfl | rfl | rfl | rfl | rfl | rfl | rfl
      all_goals
        simp only [piece, bs, List.length_cons, List.length_nil, Nat.zero_add, if_true, if_false, Nat.reduceAdd, Nat.reduceEqDiff] at hr5 HO5 HM5
        go_wp2_with (at_builtin; refine Lib.wpList_append_run _ rfl _ _ 22 9 rfl _ _ rfl rfl _ _ hr5 ?_)
        go_roundw
        case rel => exact ⟨i + 1, _, A5, c5, _, by omega, by go_num, rfl, by omega, HM5, HO5, HB5⟩
        case measure => simp [intOf]; omega
    · obtain rfl : i = nb := by omega
      obtain ⟨A8, c8, hv8, hc8, hS8⟩ := own_src (w := wr) (p := catP ks) (v := .slice A7 m c7) (n := m) (by rw [show (nums (catP ks)).map (Value.int .u8) = bytesV (catP ks) from by simp [nums, bytesV]]; exact hO.out) hm.out.symm
      injection hv8 with hv81 hv82 hv83
      subst hv81; subst hv83
      have hNw := new_any A7 m c7 (catP ks) wr hS8 (by omega) (HG.out.old hB.out)
      have hNx := next_gaps ks
      have hNe := next_end (catP ks)
      rw [← hm.out] at hNx hNe
      have HNx := Lib.hid hNx
      have HNe := Lib.hid hNe
      generalize catP ks = P at *
      clear hO hS8 hNx hNe hv82 hc8 HS
      go_wp2_with fail
      refine hNw.mono ?_
      rintro e w2 ⟨q, A', c', rfl, hq, hL, hb2⟩
      have HB2 := Lib.hid (hB.out.trans (hb2.mono hB.out.size))
      have HL2 := Lib.hid hL
      have hqw : w.heap.size ≤ q := Nat.le_trans hB.out.size hq
      obtain ⟨r, hr, hr9⟩ : ∃ r : Nat, n % 9 = (r : Int) ∧ r < 9 := ⟨(n % 9).toNat, by omega, by omega⟩
      have hrt : n.tmod 9 = (r : Int) := by rw [Int.tmod_eq_emod_of_nonneg (by omega)]; exact hr
      clear hL hb2 hNw hB hq hm
      go_wp2_with fail
      obtain ⟨w9, hw9⟩ : ∃ w9, w9 = wr := ⟨_, rfl⟩
      clear hw9
      go_loopw [8] (fun s8 wx => ∃ (j a : Nat), j ≤ r + 1 ∧ s8 = .int .i64 (j : Int) ∧ (a = 0 ∨ a = m) ∧ Hid (LexR wx q A' m c' P a) ∧ Hid (Below w.heap.size w wx)) (fun s8 _ => r + 1 - (intOf s8).toNat)
      case atStart => exact ⟨0, 0, Nat.zero_le _, rfl, .inl rfl, HL2, HB2⟩
      case round =>
        clear HL2 HB2
        obtain ⟨j, a, hj, rfl, ha, hL, hB⟩ := hrel
        have hN := next_any w.heap.size q A' m c' a P _ hL.out hqw
        have hne : nextF P a = (⟨0, 0, [], m⟩, 0, 0, m) := by
          rcases ha with rfl | rfl
          · exact HNx.out
          · exact HNe.out
        rw [hne] at hN
        have HN := Lib.hid hN
        clear hN hne
        by_cases hjr : j ≤ r
        · have hji : (j : Int) ≤ (r : Int) := by omega
          go_wp2_with fail
          refine HN.out.mono ?_
          rintro e w3 ⟨rfl, hb3, _, hL3⟩
          have HB3 := Lib.hid (hB.out.trans hb3)
          have HL3 := Lib.hid hL3
          clear hb3 hL3 HN hL hB
          simp only [Tok.cells, show bs [] = ⟨#[]⟩ from rfl]
          have hA := fun o => (Below.refl w3.heap.size w3).alloc (Nat.le_refl _) o
          go_wp2
          go_roundw
          case rel => exact ⟨j + 1, m, by omega, by go_num, .inr rfl, HL3.out.old (hA _), HB3.out.alloc HB3.out.size _⟩
          case measure => simp [intOf]; omega
        · have hji : ¬ (j : Int) ≤ (r : Int) := by omega
          have hNl := fun wx => next_nil wx
          clear HN
          go_wp2_with fail
          refine (hNl _).mono ?_
          rintro e w3 ⟨rfl, hb3⟩
          have hbf := hB.out.trans (hb3.mono hB.out.size)
          go_wp2
          go_ret
          exact ⟨rfl, hbf.alloc hbf.size _⟩
end Go.Proofs.Ytgaedkaohjphaaa
