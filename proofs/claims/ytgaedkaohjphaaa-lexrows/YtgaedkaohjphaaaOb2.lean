/-
  Lex: the reference's one: a bare name.
-/
import Derived.Test.YtgaedkaohjphaaaOb0
import Derived.Test.YtgaedkaohjphaaaNb
namespace Go.Proofs.Ytgaedkaohjphaaa
open Go.RowKit
set_option linter.unusedVariables false
set_option linter.unusedSimpArgs false
set_option maxRecDepth 20000
set_option maxHeartbeats 8000000 in
theorem one_bare (A : Option Addr) (n c a : Nat) (p : List UInt8) (w : World) (h : Src w A n p) (hc : n ≤ c) (hn : n ≤ 1000000000) (ha : a < n) (hmk : isMk (p.getD a 0)) (hst : a + 1 < n ∧ startB (p.getD (a + 1) 0) = true) :
    Calls Try.prog 22 #[.slice A n c, .int .i64 (a : Int)] w fun e w' => e = .returned (oneV (readF p a)) ∧ Below w.heap.size w w' := by
  obtain ⟨v, hv⟩ : ∃ v, v = readF p a := ⟨_, rfl⟩
  rw [← hv]
  have hl : p.length = n := h.1
  have HL := Lib.hid hl
  obtain ⟨b, o, rfl, hcc⟩ := h.2 (by omega)
  have hap : a < p.length := by rw [hl]; exact ha
  have HC := Lib.hid hcc
  obtain ⟨x, hx⟩ : ∃ x, x = p[a] := ⟨_, rfl⟩
  have hgd : p.getD a 0 = x := by rw [hx, List.getD_eq_getElem?_getD, List.getElem?_eq_getElem hap]; rfl
  have HGD := Lib.hid hgd
  have HST := Lib.hid hst
  clear hst
  have HMK : Hid (isMk x) := by rw [← hgd]; exact hmk
  clear hmk
  obtain ⟨b4, hb4⟩ : ∃ b4, b4 = w.heap.size := ⟨_, rfl⟩
  obtain ⟨b8, hb8⟩ : ∃ b8, b8 = w.heap.size + 1 := ⟨_, rfl⟩
  obtain ⟨w0, hw0⟩ : ∃ w0, w0 = w.alloc (.cells #[.int .u8 0, .int .u8 0, .string ⟨#[]⟩, .int .i64 0] 34) := ⟨_, rfl⟩
  obtain ⟨w1, hw1⟩ : ∃ w1, w1 = w0.alloc (.cells #[.int .u8 0, .int .u8 0, .string ⟨#[]⟩, .int .i64 (a : Int)] 34) := ⟨_, rfl⟩
  have z0 : w0.heap.size = w.heap.size + 1 := by rw [hw0]; simp
  have HB1 : Hid (Below w.heap.size w w1) := by rw [hw1, hw0]; exact ((Below.refl _ _).alloc (Nat.le_refl _) _).alloc (by simp) _
  have K4 : Hid (Blk w1 b4 34 #[.int .u8 0, .int .u8 0, .string ⟨#[]⟩, .int .i64 0]) := by rw [hw1, hw0, hb4]; exact (Blk.new w 34 _).alloc _
  have K8 : Hid (Blk w1 b8 34 #[.int .u8 0, .int .u8 0, .string ⟨#[]⟩, .int .i64 (a : Int)]) := by rw [hw1, hb8, ← z0]; exact Blk.new w0 34 _
  have HS1 : Hid (∀ wx, Below w.heap.size w wx → Src wx (some ⟨b, o, none⟩) n p) := fun wx hx => h.old hx
  have e0 := hcc a hap
  rw [← hx] at e0
  have hbl : b < w.heap.size := World.block_lt_of_cell? w _ e0
  have e1 : (w.alloc (.cells #[.int .u8 0, .int .u8 0, .string ⟨#[]⟩, .int .i64 0] 34)).cell? ⟨b, o + a, none⟩ = some (.int .u8 (x.toNat : Int)) := by rw [← hw0]; exact cell_old (by rw [hw0]; exact (Below.refl _ _).alloc (Nat.le_refl _) _) hbl e0
  have hxs := x.toNat_lt
  have HV := Lib.hid hv
  have h1 : (a : Int) < (n : Int) := by omega
  clear hcc h hgd hv hl hx
  go_enter Try.func22, Try.ntmps22
  go_upto_region 3 with (fail)
  rw [← hw0, ← hw1, ← hb8, ← hb4]
  have hge4 : w.heap.size ≤ b4 := by omega
  have hge8 : w.heap.size ≤ b8 := by omega
  have hne : b4 ≠ b8 := by omega
  have e0 := cell_old HB1.out hbl e0
  have HC1 : Hid (∀ wx, Below w.heap.size w wx → ∀ i (hi : i < p.length), wx.cell? ⟨b, o + i, none⟩ = some (.int .u8 (p[i].toNat : Int))) := fun wx hx i hi => cell_old hx hbl (HC.out i hi)
  have z4 : b4 < w1.heap.size := K4.out.lt
  have z8 : b8 < w1.heap.size := K8.out.lt
  have hlb4 : b < b4 := by omega
  have hlb8 : b < b8 := by omega
  clear hw0 hw1 hb4 hb8 z0 e1 HC
  go_wp2_with fail
  go_loopw [9] (fun s9 wr => ∃ k : Nat, k ≤ 9 ∧ s9 = .int .i64 (k : Int) ∧ w1 = wr ∧ Hid (∀ j, j < k → signs.getD j 0 ≠ x)) (fun s9 _ => 9 - (intOf s9).toNat)
  case atStart => exact ⟨0, by omega, rfl, rfl, fun j hj => absurd hj (by omega)⟩
  case round =>
    obtain ⟨k, hk, rfl, rfl, hN⟩ := hrel
    by_cases hlt : k < 9
    · have hki : (k : Int) < 9 := by omega
      obtain ⟨y, hy⟩ : ∃ y, y = signs.getD k 0 := ⟨_, rfl⟩
      have hx1 : ∀ h, (((⟨#[59, 61, 38, 42, 40, 41, 44, 123, 125]⟩ : ByteArray)[k]'h).toNat : Int) = (y.toNat : Int) := fun h => by
        rw [hy, List.getD_eq_getElem?_getD, List.getElem?_eq_getElem (by exact h)]; rfl
      by_cases hyx : y = x
      · have hin : x ∈ signs := by
          rw [← hyx, hy, List.getD_eq_getElem?_getD, List.getElem?_eq_getElem (show k < signs.length from hlt)]
          exact List.getElem_mem _
        exact absurd hin (mk_sign x HMK.out)
      · have hxy : ((x.toNat : Int) == (y.toNat : Int)) = false := by
          have : x.toNat ≠ y.toNat := fun e => hyx (UInt8.toNat_inj.1 e.symm)
          simp; omega
        have HN2 : Hid (∀ j, j < k + 1 → signs.getD j 0 ≠ x) := fun j hj => by
          by_cases hjk : j = k
          · subst hjk; rw [← hy]; exact hyx
          · exact hN.out j (by omega)
        clear hy hyx hN
        generalize (y.toNat : Int) = yi at *
        go_wp2
        go_roundw
        case rel => exact ⟨k + 1, by omega, by go_num, by first | rfl | trivial, HN2⟩
        case measure => simp [intOf]; omega
    · obtain rfl : k = 9 := by omega
      have hns : ¬ x ∈ signs := fun h => by
        obtain ⟨j, hj, he⟩ := List.getElem_of_mem h
        refine hN.out j hj ?_
        rw [List.getD_eq_getElem?_getD, List.getElem?_eq_getElem hj]
        exact he
      have HNS := Lib.hid hns
      clear hN hns
      have hsm := mk_small x HMK.out
      have hsm2 : (x.toNat : Int) < 97 ∨ (97 ≤ (x.toNat : Int) ∧ 122 < (x.toNat : Int)) := by
        have := hsm
        simp only [smallB, smallF, Bool.and_eq_true, decide_eq_true_eq] at this
        omega
      have hm : x.toNat = 37 ∨ x.toNat = 36 ∨ x.toNat = 64 ∨ x.toNat = 35 := HMK.out
      have hvv := HV.out
      rw [readF_name p a x hap HGD.out hsm hm] at hvv
      obtain ⟨a1, ha1⟩ : ∃ a1 : Nat, a1 = a + 1 := ⟨_, rfl⟩
      have ha1i : (a : Int) + 1 = (a1 : Int) := by omega
      rw [← ha1] at hvv
      have HA1 := Lib.hid ha1
      clear ha1
      have hm2 : (x.toNat : Int) = 37 ∨ (x.toNat : Int) = 36 ∨ (x.toNat : Int) = 64 ∨ (x.toNat : Int) = 35 := by omega
      clear HV
      have HV := Lib.hid hvv
      clear hvv hm hsm HNS HGD
      have HM2 := Lib.hid hm2
      obtain ⟨w2, hw2⟩ : ∃ w2, w2 = (w1.setCell ⟨b8, 0, none⟩ (.int .u8 2)).setCell ⟨b8, 1, none⟩ (.int .u8 (x.toNat : Int)) := ⟨_, rfl⟩
      have hT := two8 HB1.out K4.out hge8 hne 0 1 (.int .u8 2) (.int .u8 (x.toNat : Int))
      rw [← hw2] at hT
      have HB2 := Lib.hid hT.1
      have K42 := Lib.hid hT.2
      have K82 : Hid (Blk w2 b8 34 #[.int .u8 2, .int .u8 (x.toNat : Int), .string ⟨#[]⟩, .int .i64 (a : Int)]) := by rw [hw2]; exact (K8.out.set_ 0 _).set_ 1 _
      have y4 : b4 < w2.heap.size := K42.out.lt
      have y8 : b8 < w2.heap.size := K82.out.lt
      clear hm2 hT
      have hC2 := fun i hi => HC1.out w2 HB2.out i hi
      have HC2 := Lib.hid hC2
      clear hC2
      go_upto_region 10 with (fail)
      go_cut [43] (fun s43 wz => s43 = .bool false ∧ w1 = wz)
      case first =>
        rcases hsm2 with hs1 | ⟨hs1, hs2⟩
        all_goals
          as_aux_lemma =>
            go_wp2
            go_meet
            case rel => exact ⟨by first | rfl | (congr 1; simp; omega), rfl⟩
      case rest =>
        obtain ⟨rfl, rfl⟩ := hcut
        clear hsm2
        go_upto_region 17 with (fail)
        go_cut [87] (fun s87 wz => s87 = .bool false ∧ w1 = wz)
        case first =>
          have HM := HM2.out
          generalize (x.toNat : Int) = xi at *
          clear HM2
          rcases HM with rfl | rfl | rfl | rfl
          all_goals
            as_aux_lemma =>
              go_wp2
              go_meet
              case rel => exact ⟨rfl, rfl⟩
        case rest =>
          obtain ⟨rfl, rfl⟩ := hcut
          obtain ⟨k0, k1, k2, k3, f0, f1, f2, f3⟩ := K4.out.c4i
          obtain ⟨g0, g1, g2, g3, j0, j1, j2, j3⟩ := K8.out.c4i
          go_upto_region 22 with (fail)
          rw [← hw2]
          clear k0 k1 k2 k3 f0 f1 f2 f3 g0 g1 g2 g3 j0 j1 j2 j3 hw2 HM2 K4 K8 HB1 HC1 HS1 z4 z8 e0
          have hcS : ∀ wx, Below w2.heap.size w2 wx → ∀ i (hi : i < p.length), wx.cell? ⟨b, o + i, none⟩ = some (.int .u8 (p[i].toNat : Int)) := fun wx hx i hi => cell_old hx (by omega) (HC2.out i hi)
          have HCS := Lib.hid hcS
          clear hcS HC2
          have hgp : ∀ i (hi : i < p.length), p.getD i 0 = p[i] := fun i hi => by rw [List.getD_eq_getElem?_getD, List.getElem?_eq_getElem hi]; rfl
          have HGP := Lib.hid hgp
          clear hgp
          have hst := HST.out
          rw [HA1.out.symm] at hst
          obtain ⟨ha1n, hst⟩ := hst
          have hip : a1 < p.length := by rw [HL.out]; exact ha1n
          rw [HGP.out a1 hip] at hst
          have e1 := HCS.out w2 (Below.refl _ _) a1 hip
          obtain ⟨kc, hkc⟩ : ∃ kc, kc = bareF (p.drop a1) := ⟨_, rfl⟩
          have hdr : p.drop a1 = p[a1] :: p.drop (a1 + 1) := List.drop_eq_getElem_cons hip
          have hkc1 : kc = cntW nameB (p.drop (a1 + 1)) + 1 := by rw [hkc, hdr, bareF, if_pos hst]
          have HK0 : Hid (kc = (a1 - a1) + cntW nameB (p.drop a1)) := by
            show _ = _
            rw [hkc1, hdr, cntW, if_pos (show nameB p[a1] = true from by
              have : startsF (p[a1].toNat : Int) = true := hst
              simp [nameB, this])]
            omega
          have hvv := HV.out
          have h34 : ¬ (a1 < p.length ∧ p.getD a1 0 = 34) := fun h => by
            have h2 := h.2
            rw [HGP.out a1 hip] at h2
            rw [h2] at hst; revert hst; decide
          have hrn : rnF p a1 = ((p.drop a1).take kc, a1 + kc, true) := by
            unfold rnF
            rw [if_neg h34, ← hkc]
            have : decide (0 < kc) = true := by rw [hkc1]; simp
            rw [this]
          rw [hrn] at hvv
          have HVV := Lib.hid hvv
          have hL := letter_any (p[a1].toNat : Int) w2
          rw [letter_starts, show startsF (p[a1].toNat : Int) = true from hst] at hL
          clear hvv HV hst hkc hkc1 hdr h34 hrn
          generalize (p[a1].toNat : Int) = y0 at *
          have ha1i2 : (a1 : Int) < (n : Int) := by omega
          have hca1 : a1 < c := by omega
          go_wp2_with fail
          refine hL.mono ?_
          rintro e w3 ⟨rfl, rfl⟩
          clear hL
          go_wp2_with fail
          go_loopw [11] (fun s11 wr => ∃ i : Nat, a1 ≤ i ∧ i ≤ n ∧ s11 = .int .i64 (i : Int) ∧ w2 = wr ∧ Hid (kc = (i - a1) + cntW nameB (p.drop i))) (fun s11 _ => n - (intOf s11).toNat)
          case atStart => exact ⟨a1, by omega, by omega, rfl, rfl, HK0⟩
          case round =>
            clear HK0
            clear e1
            obtain ⟨i, hai, hin, rfl, rfl, hE⟩ := hrel
            have HEXIT : Hid (kc = i - a1 → (convert 22 9 (.slice (some ⟨b, o + a1, none⟩) (i - a1) (c - a1))).run Try.prog w2 = .ok (.string (bs ((p.drop a1).take kc))) w2 ∧ v = (⟨2, x, (p.drop a1).take kc, a⟩, i, true)) := fun hk => by
              refine ⟨?_, by rw [HVV.out, show a1 + kc = i from by omega]⟩
              have hS : Src w2 (some ⟨b, o, none⟩) n p := ⟨HL.out, fun _ => ⟨b, o, rfl, fun i hi => HCS.out w2 (Below.refl _ _) i hi⟩⟩
              have := conv_back w2 b (o + a1) (i - a1) (c - a1) _ (Src.take (hS.drop a1) (i - a1) (by omega))
              rw [hk]; exact this
            by_cases hlt : i < n
            · have hip : i < p.length := by rw [HL.out]; exact hlt
              have hii : (i : Int) < (n : Int) := by omega
              have hic : i < c := by omega
              have e1 := HCS.out w2 (Below.refl _ _) i hip
              have hE2 := hE.out
              rw [List.drop_eq_getElem_cons hip, cntW] at hE2
              have hnb : nameB p[i] = (startsF (p[i].toNat : Int) || (digitF (p[i].toNat : Int) || (p[i].toNat : Int) == 46)) := rfl
              rw [hnb] at hE2
              have hL := letter_any (p[i].toNat : Int) w2
              rw [letter_starts] at hL
              have hD := digit_any (p[i].toNat : Int) w2
              obtain ⟨d46, hd46⟩ : ∃ d : Bool, d = ((p[i].toNat : Int) == 46) := ⟨_, rfl⟩
              have k46 : ((p[i].toNat : Int) == 46) = d46 := hd46.symm
              rw [k46] at hE2
              clear hnb hE hd46
              generalize (p[i].toNat : Int) = y at *
              generalize startsF y = s1 at *
              generalize digitF y = s2 at *
              have HE2 := Lib.hid hE2
              clear hE2
              cases s1 with
              | true =>
                have HN : Hid (kc = (i + 1 - a1) + cntW nameB (p.drop (i + 1))) := by
                  show _ = _
                  have := HE2.out
                  simp at this
                  omega
                clear HE2 hD k46 HEXIT
                go_wp2_with fail
                refine hL.mono ?_
                rintro e w3 ⟨rfl, rfl⟩
                go_wp2
                go_roundw
                case rel => exact ⟨i + 1, by omega, by omega, by go_num, by first | rfl | trivial, HN⟩
                case measure => simp [intOf]; omega
              | false =>
                cases s2 with
                | true =>
                  have HN : Hid (kc = (i + 1 - a1) + cntW nameB (p.drop (i + 1))) := by
                    show _ = _
                    have := HE2.out
                    simp at this
                    omega
                  clear HE2 k46 HEXIT
                  go_wp2_with fail
                  refine hL.mono ?_
                  rintro e w3 ⟨rfl, rfl⟩
                  go_wp2_with fail
                  refine hD.mono ?_
                  rintro e w3 ⟨rfl, rfl⟩
                  go_wp2
                  go_roundw
                  case rel => exact ⟨i + 1, by omega, by omega, by go_num, by first | rfl | trivial, HN⟩
                  case measure => simp [intOf]; omega
                | false =>
                  cases d46 with
                  | true =>
                    have HN : Hid (kc = (i + 1 - a1) + cntW nameB (p.drop (i + 1))) := by
                      show _ = _
                      have := HE2.out
                      simp at this
                      omega
                    clear HE2 HEXIT
                    go_wp2_with fail
                    refine hL.mono ?_
                    rintro e w3 ⟨rfl, rfl⟩
                    go_wp2_with fail
                    refine hD.mono ?_
                    rintro e w3 ⟨rfl, rfl⟩
                    go_wp2
                    go_roundw
                    case rel => exact ⟨i + 1, by omega, by omega, by go_num, by first | rfl | trivial, HN⟩
                    case measure => simp [intOf]; omega
                  | false =>
                    obtain ⟨hcv, hvx⟩ := HEXIT.out (by have := HE2.out; simpa using this)
                    have HCV := Lib.hid hcv
                    have HVV := Lib.hid hvx
                    clear HE2 HEXIT hvx hcv
                    generalize (p.drop a1).take kc = t at *
                    have HFF := Lib.hid (fin4 (HB2.out.setCell (p := ⟨b8, 2, none⟩) hge8 (.string (bs t))) (K42.out.far (p := ⟨b8, 2, none⟩) hne (.string (bs t))) hge4 (.int .u8 2) (.int .u8 (x.toNat : Int)) (.string (bs t)) (.int .i64 (a : Int)) _ rfl)
                    go_wp2_with fail
                    refine hL.mono ?_
                    rintro e w3 ⟨rfl, rfl⟩
                    go_wp2_with fail
                    refine hD.mono ?_
                    rintro e w3 ⟨rfl, rfl⟩
                    have hcv := HCV.out
                    obtain ⟨k0, k1, k2, k3, f0, f1, f2, f3⟩ := K42.out.c4i
                    obtain ⟨g0, g1, g2, g3, j0, j1, j2, j3⟩ := K82.out.c4i
                    have hic2 : i ≤ c := by omega
                    go_wp2
                    obtain ⟨hbf, hKf⟩ := HFF.out
                    rw [HVV.out]
                    refine bodyPost_ret (res22 (by rfl) (by rfl) (by rfl) hKf) rfl ?_
                    exact ⟨rfl, hbf⟩
            · obtain rfl : i = n := by omega
              have hkk : kc = i - a1 := by
                rw [hE.out, List.drop_of_length_le (by rw [HL.out]; exact Nat.le_refl _)]
                simp [cntW]
              obtain ⟨hcv, hvx⟩ := HEXIT.out hkk
              have HVV := Lib.hid hvx
              clear HEXIT hvx hkk hE
              generalize (p.drop a1).take kc = t at *
              have HFF := Lib.hid (fin4 (HB2.out.setCell (p := ⟨b8, 2, none⟩) hge8 (.string (bs t))) (K42.out.far (p := ⟨b8, 2, none⟩) hne (.string (bs t))) hge4 (.int .u8 2) (.int .u8 (x.toNat : Int)) (.string (bs t)) (.int .i64 (a : Int)) _ rfl)
              obtain ⟨k0, k1, k2, k3, f0, f1, f2, f3⟩ := K42.out.c4i
              obtain ⟨g0, g1, g2, g3, j0, j1, j2, j3⟩ := K82.out.c4i
              go_wp2
              obtain ⟨hbf, hKf⟩ := HFF.out
              rw [HVV.out]
              refine bodyPost_ret (res22 (by rfl) (by rfl) (by rfl) hKf) rfl ?_
              exact ⟨rfl, hbf⟩
end Go.Proofs.Ytgaedkaohjphaaa
