/-
  The walk of LexNames.
-/
import Derived.Test.YtgaedkaohjphaaaNc
import Derived.Test.YtgaedkaohjphaaaNd
import Derived.Test.YtgaedkaohjphaaaMw
namespace Go.Proofs.Ytgaedkaohjphaaa
open Go.RowKit
set_option linter.unusedVariables false
set_option linter.unusedSimpArgs false
set_option maxRecDepth 20000
theorem qF_len (s : List UInt8) : (qF s).length ≤ 2 + 4 * s.length := by
  unfold qF
  have := flat_len s
  split
  · omega
  · simp only [List.length_append, List.length_cons, List.length_nil]; omega
theorem bs_len (s : List UInt8) : (bs s).size = s.length := by simp [bs, ByteArray.size]
theorem mark_of : ∀ k, k < 4 → marks.getD k 0 ∈ marks := by decide
theorem bs_mk (s : ByteArray) : s = bs s.data.toList := by cases s; rfl
set_option maxHeartbeats 8000000 in
theorem names_walk (s more : List UInt8) (mk : Int) (w : World) (hmk : 0 ≤ mk ∧ mk < 256) (hg : G0 w) :
    Calls Try.prog 4 #[.string (bs s), .int .u8 mk, .string (bs more)] w fun e w' => e = .returned (.bool true) ∧ Below w.heap.size w w' := by
  have HG := Lib.hid hg
  have HAw := fun wx (hx : Below w.heap.size w wx) => awake_any wx (HG.out.old hx)
  clear hg
  have hzs := bs_len s
  have hzm := bs_len more
  obtain ⟨ls, hls⟩ : ∃ n, n = s.length := ⟨_, rfl⟩
  obtain ⟨lm, hlm⟩ : ∃ n, n = more.length := ⟨_, rfl⟩
  rw [← hls] at hzs
  rw [← hlm] at hzm
  obtain ⟨S, hS⟩ : ∃ S, S = bs s := ⟨_, rfl⟩
  obtain ⟨M, hM⟩ : ∃ M, M = bs more := ⟨_, rfl⟩
  rw [← hS] at hzs ⊢
  rw [← hM] at hzm ⊢
  have HSs := Lib.hid hS
  have HSm := Lib.hid hM
  have HLs := Lib.hid hls
  have HLm := Lib.hid hlm
  clear hS hM hls hlm
  obtain ⟨k1, hk1⟩ : ∃ k : Nat, mk % 4 = (k : Int) := ⟨(mk % 4).toNat, by omega⟩
  have hk1l : k1 < 4 := by omega
  have hkr : mk.tmod 4 = (k1 : Int) := by rw [Int.tmod_eq_emod_of_nonneg (by omega)]; exact hk1
  have hk1i : (k1 : Int) < 4 := by omega
  obtain ⟨d, hde⟩ : ∃ d, d = marks.getD k1 0 := ⟨_, rfl⟩
  have hmd : d ∈ marks := by rw [hde]; exact mark_of k1 hk1l
  have hx1 : ∀ h, (((⟨#[37, 36, 64, 35]⟩ : ByteArray)[k1]'h).toNat : Int) = (d.toNat : Int) := fun h => by
    rw [hde, List.getD_eq_getElem?_getD, List.getElem?_eq_getElem (by exact h)]; rfl
  have HMD := Lib.hid hmd
  clear hde hmd
  go_enter Try.func4, Try.ntmps4
  go_wp2_with fail
  refine (HAw w (Below.refl _ _)).mono ?_
  rintro e w1 ⟨rfl, hb1⟩
  have HB1 := Lib.hid hb1
  clear hb1
  by_cases hbig : 100 < ls ∨ 20 < lm
  · have hbi : (100 : Int) < (ls : Int) ∨ ((¬ (100 : Int) < (ls : Int)) ∧ (20 : Int) < (lm : Int)) := by omega
    rcases hbi with h3 | ⟨h3, h4⟩
    all_goals
      go_wp2_with fail
      refine (HAw w1 HB1.out).mono ?_
      rintro e w2 ⟨rfl, hb2⟩
      go_wp2
      go_ret
      exact ⟨rfl, HB1.out.trans (hb2.mono HB1.out.size)⟩
  · have h3 : ¬ (100 : Int) < (ls : Int) := by omega
    have h4 : ¬ (20 : Int) < (lm : Int) := by omega
    have hls : ls ≤ 100 := by omega
    have hlm : lm ≤ 20 := by omega
    clear hbig HAw
    have hQ := fun wx => quote_any s wx (by have := HLs.out; omega)
    have hR := fun wx => rquote_any s wx (by have := HLs.out; omega)
    have hB5 := fun wx => bare15 s wx (by have := HLs.out; omega)
    have hB6 := fun wx => bare16 s wx (by have := HLs.out; omega)
    rw [← HSs.out] at hQ hR hB5 hB6
    have hql := qF_len s
    rw [← HLs.out] at hql
    obtain ⟨q, hq⟩ : ∃ q, q = qF s := ⟨_, rfl⟩
    rw [← hq] at hQ hR hql
    have hzq := bs_len q
    obtain ⟨lq, hlq⟩ : ∃ n, n = q.length := ⟨_, rfl⟩
    rw [← hlq] at hzq hql
    have HQ0 := Lib.hid hq
    obtain ⟨QS, hQS⟩ : ∃ S, S = bs q := ⟨_, rfl⟩
    rw [← hQS] at hQ hR hzq
    have HQS := Lib.hid hQS
    have HLq := Lib.hid hlq
    clear hq hQS hlq
    have HR := Lib.hid hR
    have HB5' := Lib.hid hB5
    have HB6' := Lib.hid hB6
    clear hR hB5 hB6
    go_wp2_with fail
    refine (hQ w1).mono ?_
    rintro e w2 ⟨rfl, hb2⟩
    have HB2 := Lib.hid (HB1.out.trans (hb2.mono HB1.out.size))
    clear hQ hb2
    obtain ⟨W3, hW3⟩ : ∃ W3, W3 = w2.alloc (.cells #[.int .u8 (d.toNat : Int)] 5) := ⟨_, rfl⟩
    have HB3 : Hid (Below w.heap.size w W3) := by rw [hW3]; exact HB2.out.alloc HB2.out.size _
    have kA := conv_back W3 w2.heap.size 0 1 1 [d] ⟨rfl, fun _ => ⟨w2.heap.size, 0, rfl, fun i hi => by
      have h0 : (w2.alloc (.cells #[.int .u8 (d.toNat : Int)] 5)).heap[w2.heap.size]? = some (.cells #[.int .u8 (d.toNat : Int)] 5 (0, 0)) := heap_alloc_new w2 _
      rw [hW3, cell_of_row _ w2.heap.size _ _ 5 (0, 0) h0, Nat.zero_add]
      have hi2 : i < 1 := hi
      obtain rfl : i = 0 := by omega
      rfl⟩⟩
    obtain ⟨P, hP⟩ : ∃ P, P = [d] ++ (q ++ 32 :: more) := ⟨_, rfl⟩
    have hPl : P.length = lq + lm + 2 := by rw [hP]; simp [HLq.out, HLm.out]; omega
    obtain ⟨cc, wa, kB, hSa, hBa, _⟩ := conv_str W3 P
    have hNw := new_any (some ⟨W3.heap.size, 0, none⟩) P.length cc P wa hSa (by omega) ((HG.out.old HB3.out).old hBa)
    have hPs : bs P = bs [d] ++ QS ++ (⟨#[32]⟩ : ByteArray) ++ M := by
      rw [hP, HQS.out, HSm.out]; apply ByteArray.ext; simp [bs]
    have hnx : nextF P 0 = (⟨2, d, s, 0⟩, 0, 0, 1 + (qF s).length) := by rw [hP, HQ0.out]; exact next_q s more d HMD.out
    obtain ⟨D, hD⟩ : ∃ D, D = bs [d] := ⟨_, rfl⟩
    have zD : D.size = 1 := by rw [hD]; rfl
    rw [← hD] at kA hPs
    have z1 : (D ++ QS).size = lq + 1 := by rw [ByteArray.size_append, zD, hzq]; omega
    have z2 : (D ++ QS ++ (⟨#[32]⟩ : ByteArray)).size = lq + 2 := by rw [ByteArray.size_append, z1]; rfl
    rw [hPs, hPl] at kB
    have zW : W3.heap.size = w2.heap.size + 1 := by rw [hW3]; simp
    rw [hPl, zW] at hNw
    clear zW
    have HNw := Lib.hid hNw
    have HNx := Lib.hid hnx
    have HBa := Lib.hid (HB3.out.trans (hBa.mono HB3.out.size))
    clear hSa hBa hNw hnx hPs hPl hD HMD
    clear hP
    rw [hW3] at kA kB
    clear hW3
    go_wp2_with fail
    refine HNw.out.mono ?_
    rintro e wb ⟨qa, A', c', rfl, hqa, hL, hb⟩
    have hN := next_any wa.heap.size qa A' _ c' 0 P wb hL hqa
    rw [HNx.out] at hN
    have HN := Lib.hid hN
    have HBb := Lib.hid (HBa.out.trans (hb.mono HBa.out.size))
    have zb := HBa.out.size
    clear hL hb hN HNw
    go_wp2_with fail
    refine HN.out.mono ?_
    rintro e wd ⟨rfl, hd, _, _⟩
    have HBd := Lib.hid (HBb.out.trans (hd.mono zb))
    clear HN hd zb
    simp only [Tok.cells, ← HSs.out]
    go_wp2_with fail
    refine (HB5'.out _).mono ?_
    rintro e we ⟨rfl, rfl⟩
    go_wp2_with fail
    refine (HB6'.out _).mono ?_
    rintro e we ⟨rfl, rfl⟩
    go_wp2_with fail
    have hbk := Blk.new wd 30 #[.int .u8 2, .int .u8 (d.toNat : Int), .string S, .int .i64 0]
    have HBc := Lib.hid (HBd.out.alloc HBd.out.size (.cells #[.int .u8 2, .int .u8 (d.toNat : Int), .string S, .int .i64 0] 30))
    have hRR := HR.out (wd.alloc (.cells #[.int .u8 2, .int .u8 (d.toNat : Int), .string S, .int .i64 0] 30))
    have hz9 : wd.heap.size < (wd.alloc (.cells #[.int .u8 2, .int .u8 (d.toNat : Int), .string S, .int .i64 0] 30)).heap.size := by simp
    refine hRR.mono ?_
    rintro e wf ⟨rfl, hbf⟩
    obtain ⟨c0, c1, c2, c3⟩ := (hbk.below hbf hz9).c4
    have HBf := Lib.hid (HBc.out.trans (hbf.mono HBc.out.size))
    clear hbk hRR hbf HBc HR
    generalize wd.heap.size = bx at *
    go_wp2
    go_ret
    exact ⟨rfl, HBf.out⟩
end Go.Proofs.Ytgaedkaohjphaaa
