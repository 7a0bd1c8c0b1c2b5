/-
  Lex: the reference's one: no mark.
-/
import Derived.Test.YtgaedkaohjphaaaOb0
namespace Go.Proofs.Ytgaedkaohjphaaa
open Go.RowKit
set_option linter.unusedVariables false
set_option linter.unusedSimpArgs false
set_option maxRecDepth 20000
set_option maxHeartbeats 8000000 in
theorem one_plain (A : Option Addr) (n c a : Nat) (p : List UInt8) (w : World) (h : Src w A n p) (hc : n ≤ c) (hn : n ≤ 1000000000) (ha : a < n) (hno : ¬ isMk (p.getD a 0)) :
    Calls Try.prog 22 #[.slice A n c, .int .i64 (a : Int)] w fun e w' => e = .returned (oneV (readF p a)) ∧ Below w.heap.size w w' := by
  obtain ⟨v, hv⟩ : ∃ v, v = readF p a := ⟨_, rfl⟩
  rw [← hv]
  have hl : p.length = n := h.1
  have HL := Lib.hid hl
  obtain ⟨b, o, rfl, hcc⟩ := h.2 (by omega)
  have hap : a < p.length := by rw [hl]; exact ha
  have HC := Lib.hid hcc
  obtain ⟨x, hx⟩ : ∃ x, x = p[a] := ⟨_, rfl⟩
  have hgd : p.getD a 0 = x := by rw [hx, List.getD_eq_getElem?_getD, List.getElem?_eq_getElem hap]; rfl
  have HGD := Lib.hid hgd
  have HNO : Hid (¬ isMk x) := by rw [← hgd]; exact hno
  clear hno
  obtain ⟨b4, hb4⟩ : ∃ b4, b4 = w.heap.size := ⟨_, rfl⟩
  obtain ⟨b8, hb8⟩ : ∃ b8, b8 = w.heap.size + 1 := ⟨_, rfl⟩
  obtain ⟨w0, hw0⟩ : ∃ w0, w0 = w.alloc (.cells #[.int .u8 0, .int .u8 0, .string ⟨#[]⟩, .int .i64 0] 34) := ⟨_, rfl⟩
  obtain ⟨w1, hw1⟩ : ∃ w1, w1 = w0.alloc (.cells #[.int .u8 0, .int .u8 0, .string ⟨#[]⟩, .int .i64 (a : Int)] 34) := ⟨_, rfl⟩
  have z0 : w0.heap.size = w.heap.size + 1 := by rw [hw0]; simp
  have HB1 : Hid (Below w.heap.size w w1) := by rw [hw1, hw0]; exact ((Below.refl _ _).alloc (Nat.le_refl _) _).alloc (by simp) _
  have K4 : Hid (Blk w1 b4 34 #[.int .u8 0, .int .u8 0, .string ⟨#[]⟩, .int .i64 0]) := by rw [hw1, hw0, hb4]; exact (Blk.new w 34 _).alloc _
  have K8 : Hid (Blk w1 b8 34 #[.int .u8 0, .int .u8 0, .string ⟨#[]⟩, .int .i64 (a : Int)]) := by rw [hw1, hb8, ← z0]; exact Blk.new w0 34 _
  have HS1 : Hid (∀ wx, Below w.heap.size w wx → Src wx (some ⟨b, o, none⟩) n p) := fun wx hx => h.old hx
  have e0 := hcc a hap
  rw [← hx] at e0
  have hbl : b < w.heap.size := World.block_lt_of_cell? w _ e0
  have e1 : (w.alloc (.cells #[.int .u8 0, .int .u8 0, .string ⟨#[]⟩, .int .i64 0] 34)).cell? ⟨b, o + a, none⟩ = some (.int .u8 (x.toNat : Int)) := by rw [← hw0]; exact cell_old (by rw [hw0]; exact (Below.refl _ _).alloc (Nat.le_refl _) _) hbl e0
  have hxs := x.toNat_lt
  have HV := Lib.hid hv
  have h1 : (a : Int) < (n : Int) := by omega
  clear hcc h hgd hv hl hx
  go_enter Try.func22, Try.ntmps22
  go_upto_region 3 with (fail)
  rw [← hw0, ← hw1, ← hb8, ← hb4]
  have hge4 : w.heap.size ≤ b4 := by omega
  have hge8 : w.heap.size ≤ b8 := by omega
  have hne : b4 ≠ b8 := by omega
  have e0 := cell_old HB1.out hbl e0
  have HC1 : Hid (∀ wx, Below w.heap.size w wx → ∀ i (hi : i < p.length), wx.cell? ⟨b, o + i, none⟩ = some (.int .u8 (p[i].toNat : Int))) := fun wx hx i hi => cell_old hx hbl (HC.out i hi)
  have z4 : b4 < w1.heap.size := K4.out.lt
  have z8 : b8 < w1.heap.size := K8.out.lt
  have hlb4 : b < b4 := by omega
  have hlb8 : b < b8 := by omega
  clear hw0 hw1 hb4 hb8 z0 e1 HC
  go_wp2_with fail
  go_loopw [9] (fun s9 wr => ∃ k : Nat, k ≤ 9 ∧ s9 = .int .i64 (k : Int) ∧ w1 = wr ∧ Hid (∀ j, j < k → signs.getD j 0 ≠ x)) (fun s9 _ => 9 - (intOf s9).toNat)
  case atStart => exact ⟨0, by omega, rfl, rfl, fun j hj => absurd hj (by omega)⟩
  case round =>
    obtain ⟨k, hk, rfl, rfl, hN⟩ := hrel
    by_cases hlt : k < 9
    · have hki : (k : Int) < 9 := by omega
      obtain ⟨y, hy⟩ : ∃ y, y = signs.getD k 0 := ⟨_, rfl⟩
      have hx1 : ∀ h, (((⟨#[59, 61, 38, 42, 40, 41, 44, 123, 125]⟩ : ByteArray)[k]'h).toNat : Int) = (y.toNat : Int) := fun h => by
        rw [hy, List.getD_eq_getElem?_getD, List.getElem?_eq_getElem (by exact h)]; rfl
      by_cases hyx : y = x
      · have hin : x ∈ signs := by
          rw [← hyx, hy, List.getD_eq_getElem?_getD, List.getElem?_eq_getElem (show k < signs.length from hlt)]
          exact List.getElem_mem _
        have hvv := HV.out
        rw [readF_signs p a x hap HGD.out hin] at hvv
        rw [hyx] at hx1
        have hcv := conv_back (w1.setCell ⟨b8, 0, none⟩ (.int .u8 3)) b (o + a) 1 (c - a) [x] (by
          have h1 := Src.take ((HS1.out _ (HB1.out.setCell (p := ⟨b8, 0, none⟩) hge8 (.int .u8 3))).drop a) 1 (by omega)
          have h2 : (p.drop a).take 1 = [x] := by
            rw [List.drop_eq_getElem_cons hap]
            have := HGD.out
            rw [List.getD_eq_getElem?_getD, List.getElem?_eq_getElem hap] at this
            have h3 : p[a] = x := this
            rw [h3]; rfl
          rw [h2] at h1; exact h1)
        have hak : a + 1 ≤ c := by omega
        have hsub : a + 1 - a = 1 := by omega
        have hF := two8 HB1.out K4.out hge8 hne 0 2 (.int .u8 3) (.string (bs [x]))
        have HF := Lib.hid hF
        have HVV := Lib.hid hvv
        clear hin hyx hy hN hF hvv HV
        obtain ⟨k0, k1, k2, k3, f0, f1, f2, f3⟩ := K4.out.c4i
        obtain ⟨g0, g1, g2, g3, j0, j1, j2, j3⟩ := K8.out.c4i
        go_wp2
        have hFF := fin4 HF.out.1 HF.out.2 hge4 (.int .u8 3) (.int .u8 0) (.string (bs [x])) (.int .i64 (a : Int)) _ rfl
        obtain ⟨hbf, hKf⟩ := hFF
        rw [HVV.out]
        refine bodyPost_ret (res22 (by rfl) (by rfl) (by rfl) hKf) rfl ?_
        exact ⟨rfl, hbf⟩
      · have hxy : ((x.toNat : Int) == (y.toNat : Int)) = false := by
          have : x.toNat ≠ y.toNat := fun e => hyx (UInt8.toNat_inj.1 e.symm)
          simp; omega
        have HN2 : Hid (∀ j, j < k + 1 → signs.getD j 0 ≠ x) := fun j hj => by
          by_cases hjk : j = k
          · subst hjk; rw [← hy]; exact hyx
          · exact hN.out j (by omega)
        clear hy hyx hN
        generalize (y.toNat : Int) = yi at *
        go_wp2
        go_roundw
        case rel => exact ⟨k + 1, by omega, by go_num, by first | rfl | trivial, HN2⟩
        case measure => simp [intOf]; omega
    · obtain rfl : k = 9 := by omega
      have hns : ¬ x ∈ signs := fun h => by
        obtain ⟨j, hj, he⟩ := List.getElem_of_mem h
        refine hN.out j hj ?_
        rw [List.getD_eq_getElem?_getD, List.getElem?_eq_getElem hj]
        exact he
      have HNS := Lib.hid hns
      clear hN hns
      by_cases hsm : smallB x = true
      · have hvv := HV.out
        rw [readF_small p a x hap HGD.out hsm] at hvv
        have hsm2 : 97 ≤ (x.toNat : Int) ∧ (x.toNat : Int) ≤ 122 := by simpa [smallB, smallF] using hsm
        obtain ⟨hs1, hs2⟩ := hsm2
        obtain ⟨kc, hkc⟩ : ∃ kc, kc = cntW smallB (p.drop a) := ⟨_, rfl⟩
        rw [← hkc] at hvv
        have HVV := Lib.hid hvv
        have HK0 : Hid (kc = (a - a) + cntW smallB (p.drop a)) := by show _ = _; rw [hkc]; omega
        clear hvv HV hsm hkc
        go_wp2_with fail
        go_loopw [10] (fun s10 wr => ∃ i : Nat, a ≤ i ∧ i ≤ n ∧ s10 = .int .i64 (i : Int) ∧ w1 = wr ∧ Hid (kc = (i - a) + cntW smallB (p.drop i))) (fun s10 _ => n - (intOf s10).toNat)
        case atStart => exact ⟨a, by omega, by omega, rfl, rfl, HK0⟩
        case round =>
          clear HK0
          obtain ⟨i, hai, hin, rfl, rfl, hE⟩ := hrel
          by_cases hgo : i < n ∧ smallB (p.getD i 0) = true
          · obtain ⟨hin2, hsy⟩ := hgo
            have hip : i < p.length := by rw [HL.out]; exact hin2
            have hii : (i : Int) < (n : Int) := by omega
            have e1 := HC1.out w1 HB1.out i hip
            have hg : p.getD i 0 = p[i] := by rw [List.getD_eq_getElem?_getD, List.getElem?_eq_getElem hip]; rfl
            rw [hg] at hsy
            have hE2 : Hid (kc = (i + 1 - a) + cntW smallB (p.drop (i + 1))) := by
              show _ = _
              rw [hE.out, List.drop_eq_getElem_cons hip, cntW, if_pos hsy]
              omega
            have hsy2 : 97 ≤ (p[i].toNat : Int) ∧ (p[i].toNat : Int) ≤ 122 := by simpa [smallB, smallF] using hsy
            obtain ⟨hsy3, hsy4⟩ := hsy2
            clear hE hg hsy
            generalize (p[i].toNat : Int) = yi at *
            have hic : i < c := by omega
            go_wp2
            go_roundw
            case rel => exact ⟨i + 1, by omega, by omega, by go_num, by first | rfl | trivial, hE2⟩
            case measure => simp [intOf]; omega
          · have hkk : kc = i - a := by
              rw [hE.out]
              by_cases hip : i < p.length
              · have hg : p.getD i 0 = p[i] := by rw [List.getD_eq_getElem?_getD, List.getElem?_eq_getElem hip]; rfl
                rw [List.drop_eq_getElem_cons hip, cntW, if_neg (by rw [← hg]; exact fun h => hgo ⟨by rw [← HL.out]; exact hip, h⟩)]
                omega
              · rw [List.drop_of_length_le (by omega)]; simp [cntW]
            have hcv := conv_back (w1.setCell ⟨b8, 0, none⟩ (.int .u8 1)) b (o + a) (i - a) (c - a) ((p.drop a).take kc) (by
              rw [hkk]
              exact Src.take ((HS1.out _ (HB1.out.setCell (p := ⟨b8, 0, none⟩) hge8 (.int .u8 1))).drop a) (i - a) (by omega))
            have hak : i ≤ c := by omega
            have hF := two8 HB1.out K4.out hge8 hne 0 2 (.int .u8 1) (.string (bs ((p.drop a).take kc)))
            have HF := Lib.hid hF
            have hvv := HVV.out
            rw [show a + kc = i from by omega] at hvv
            generalize (p.drop a).take kc = t at *
            have HVV := Lib.hid hvv
            obtain ⟨k0, k1, k2, k3, f0, f1, f2, f3⟩ := K4.out.c4i
            obtain ⟨g0, g1, g2, g3, j0, j1, j2, j3⟩ := K8.out.c4i
            have HFF := Lib.hid (fin4 HF.out.1 HF.out.2 hge4 (.int .u8 1) (.int .u8 0) (.string (bs t)) (.int .i64 (a : Int)) _ rfl)
            have hexit : i = n ∨ (i < n ∧ ∃ yi : Int, w1.cell? ⟨b, o + i, none⟩ = some (.int .u8 yi) ∧ (yi < 97 ∨ (97 ≤ yi ∧ 122 < yi))) := by
              by_cases hin2 : i < n
              · right
                have hip : i < p.length := by rw [HL.out]; exact hin2
                refine ⟨hin2, _, HC1.out w1 HB1.out i hip, ?_⟩
                have hg : p.getD i 0 = p[i] := by rw [List.getD_eq_getElem?_getD, List.getElem?_eq_getElem hip]; rfl
                have hsy : ¬ smallB p[i] = true := fun h => hgo ⟨hin2, by rw [hg]; exact h⟩
                simp only [smallB, smallF, Bool.and_eq_true, decide_eq_true_eq] at hsy
                omega
              · left; omega
            clear hgo hF hvv hE hkk
            rcases hexit with rfl | ⟨hin2, yi, e1, hy⟩
            · go_wp2
              obtain ⟨hbf, hKf⟩ := HFF.out
              rw [HVV.out]
              refine bodyPost_ret (res22 (by rfl) (by rfl) (by rfl) hKf) rfl ?_
              exact ⟨rfl, hbf⟩
            · have hii : (i : Int) < (n : Int) := by omega
              have hic : i < c := by omega
              rcases hy with hy | ⟨hy, hy2⟩
              all_goals
                go_wp2
                obtain ⟨hbf, hKf⟩ := HFF.out
                rw [HVV.out]
                refine bodyPost_ret (res22 (by rfl) (by rfl) (by rfl) hKf) rfl ?_
                exact ⟨rfl, hbf⟩
      · have hsm2 : (x.toNat : Int) < 97 ∨ (97 ≤ (x.toNat : Int) ∧ 122 < (x.toNat : Int)) := by
          have := hsm
          simp only [smallB, smallF, Bool.and_eq_true, decide_eq_true_eq] at this
          omega
        by_cases hm : x.toNat = 37 ∨ x.toNat = 36 ∨ x.toNat = 64 ∨ x.toNat = 35
        · exact absurd hm HNO.out
        · have hvv := HV.out
          rw [readF_none p a x hap HGD.out hsm hm HNS.out] at hvv
          have m1 : ((x.toNat : Int) != 37) = true := by simp [bne]; omega
          have m2 : ((x.toNat : Int) != 36) = true := by simp [bne]; omega
          have m3 : ((x.toNat : Int) != 64) = true := by simp [bne]; omega
          have m4 : ((x.toNat : Int) != 35) = true := by simp [bne]; omega
          have HVV := Lib.hid hvv
          have HFF := Lib.hid (fin4 HB1.out K4.out hge4 (.int .u8 0) (.int .u8 0) (.string ⟨#[]⟩) (.int .i64 0) _ rfl)
          clear hvv HV hm hsm HNS HGD hxs
          generalize (x.toNat : Int) = xi at *
          obtain ⟨k0, k1, k2, k3, f0, f1, f2, f3⟩ := K4.out.c4i
          rcases hsm2 with hs1 | ⟨hs1, hs2⟩
          all_goals
            go_wp2
            obtain ⟨hbf, hKf⟩ := HFF.out
            rw [HVV.out]
            refine bodyPost_ret (res22 (by rfl) (by rfl) (by rfl) hKf) rfl ?_
            exact ⟨rfl, hbf⟩
end Go.Proofs.Ytgaedkaohjphaaa
