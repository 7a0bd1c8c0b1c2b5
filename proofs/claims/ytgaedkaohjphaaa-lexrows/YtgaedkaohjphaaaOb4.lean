/-
  Lex: the reference's one: a name in quotes.
-/
import Derived.Test.YtgaedkaohjphaaaOb0
import Derived.Test.YtgaedkaohjphaaaNb
import Derived.Deep.LoopGhost
namespace Go.Proofs.Ytgaedkaohjphaaa
open Go.RowKit
set_option linter.unusedVariables false
set_option linter.unusedSimpArgs false
set_option maxRecDepth 20000
set_option maxHeartbeats 8000000 in
theorem one_quot (A : Option Addr) (n c a : Nat) (p : List UInt8) (w : World) (h : Src w A n p) (hc : n ≤ c) (hn : n ≤ 1000000000) (ha : a < n) (hmk : isMk (p.getD a 0)) (hq : a + 1 < n ∧ p.getD (a + 1) 0 = 34) :
    Calls Try.prog 22 #[.slice A n c, .int .i64 (a : Int)] w fun e w' => e = .returned (oneV (readF p a)) ∧ Below w.heap.size w w' := by
  obtain ⟨v, hv⟩ : ∃ v, v = readF p a := ⟨_, rfl⟩
  rw [← hv]
  have hl : p.length = n := h.1
  have HL := Lib.hid hl
  obtain ⟨b, o, rfl, hcc⟩ := h.2 (by omega)
  have hap : a < p.length := by rw [hl]; exact ha
  have HC := Lib.hid hcc
  obtain ⟨x, hx⟩ : ∃ x, x = p[a] := ⟨_, rfl⟩
  have hgd : p.getD a 0 = x := by rw [hx, List.getD_eq_getElem?_getD, List.getElem?_eq_getElem hap]; rfl
  have HGD := Lib.hid hgd
  have HST := Lib.hid hq
  clear hq
  have HMK : Hid (isMk x) := by rw [← hgd]; exact hmk
  clear hmk
  obtain ⟨b4, hb4⟩ : ∃ b4, b4 = w.heap.size := ⟨_, rfl⟩
  obtain ⟨b8, hb8⟩ : ∃ b8, b8 = w.heap.size + 1 := ⟨_, rfl⟩
  obtain ⟨w0, hw0⟩ : ∃ w0, w0 = w.alloc (.cells #[.int .u8 0, .int .u8 0, .string ⟨#[]⟩, .int .i64 0] 34) := ⟨_, rfl⟩
  obtain ⟨w1, hw1⟩ : ∃ w1, w1 = w0.alloc (.cells #[.int .u8 0, .int .u8 0, .string ⟨#[]⟩, .int .i64 (a : Int)] 34) := ⟨_, rfl⟩
  have z0 : w0.heap.size = w.heap.size + 1 := by rw [hw0]; simp
  have HB1 : Hid (Below w.heap.size w w1) := by rw [hw1, hw0]; exact ((Below.refl _ _).alloc (Nat.le_refl _) _).alloc (by simp) _
  have K4 : Hid (Blk w1 b4 34 #[.int .u8 0, .int .u8 0, .string ⟨#[]⟩, .int .i64 0]) := by rw [hw1, hw0, hb4]; exact (Blk.new w 34 _).alloc _
  have K8 : Hid (Blk w1 b8 34 #[.int .u8 0, .int .u8 0, .string ⟨#[]⟩, .int .i64 (a : Int)]) := by rw [hw1, hb8, ← z0]; exact Blk.new w0 34 _
  have HS1 : Hid (∀ wx, Below w.heap.size w wx → Src wx (some ⟨b, o, none⟩) n p) := fun wx hx => h.old hx
  have e0 := hcc a hap
  rw [← hx] at e0
  have hbl : b < w.heap.size := World.block_lt_of_cell? w _ e0
  have e1 : (w.alloc (.cells #[.int .u8 0, .int .u8 0, .string ⟨#[]⟩, .int .i64 0] 34)).cell? ⟨b, o + a, none⟩ = some (.int .u8 (x.toNat : Int)) := by rw [← hw0]; exact cell_old (by rw [hw0]; exact (Below.refl _ _).alloc (Nat.le_refl _) _) hbl e0
  have hxs := x.toNat_lt
  have HV := Lib.hid hv
  have h1 : (a : Int) < (n : Int) := by omega
  clear hcc h hgd hv hl hx
  go_enter Try.func22, Try.ntmps22
  go_upto_region 3 with (fail)
  rw [← hw0, ← hw1, ← hb8, ← hb4]
  have hge4 : w.heap.size ≤ b4 := by omega
  have hge8 : w.heap.size ≤ b8 := by omega
  have hne : b4 ≠ b8 := by omega
  have e0 := cell_old HB1.out hbl e0
  have HC1 : Hid (∀ wx, Below w.heap.size w wx → ∀ i (hi : i < p.length), wx.cell? ⟨b, o + i, none⟩ = some (.int .u8 (p[i].toNat : Int))) := fun wx hx i hi => cell_old hx hbl (HC.out i hi)
  have z4 : b4 < w1.heap.size := K4.out.lt
  have z8 : b8 < w1.heap.size := K8.out.lt
  have hlb4 : b < b4 := by omega
  have hlb8 : b < b8 := by omega
  clear hw0 hw1 hb4 hb8 z0 e1 HC
  go_wp2_with fail
  go_loopw [9] (fun s9 wr => ∃ k : Nat, k ≤ 9 ∧ s9 = .int .i64 (k : Int) ∧ w1 = wr ∧ Hid (∀ j, j < k → signs.getD j 0 ≠ x)) (fun s9 _ => 9 - (intOf s9).toNat)
  case atStart => exact ⟨0, by omega, rfl, rfl, fun j hj => absurd hj (by omega)⟩
  case round =>
    obtain ⟨k, hk, rfl, rfl, hN⟩ := hrel
    by_cases hlt : k < 9
    · have hki : (k : Int) < 9 := by omega
      obtain ⟨y, hy⟩ : ∃ y, y = signs.getD k 0 := ⟨_, rfl⟩
      have hx1 : ∀ h, (((⟨#[59, 61, 38, 42, 40, 41, 44, 123, 125]⟩ : ByteArray)[k]'h).toNat : Int) = (y.toNat : Int) := fun h => by
        rw [hy, List.getD_eq_getElem?_getD, List.getElem?_eq_getElem (by exact h)]; rfl
      by_cases hyx : y = x
      · have hin : x ∈ signs := by
          rw [← hyx, hy, List.getD_eq_getElem?_getD, List.getElem?_eq_getElem (show k < signs.length from hlt)]
          exact List.getElem_mem _
        exact absurd hin (mk_sign x HMK.out)
      · have hxy : ((x.toNat : Int) == (y.toNat : Int)) = false := by
          have : x.toNat ≠ y.toNat := fun e => hyx (UInt8.toNat_inj.1 e.symm)
          simp; omega
        have HN2 : Hid (∀ j, j < k + 1 → signs.getD j 0 ≠ x) := fun j hj => by
          by_cases hjk : j = k
          · subst hjk; rw [← hy]; exact hyx
          · exact hN.out j (by omega)
        clear hy hyx hN
        generalize (y.toNat : Int) = yi at *
        go_wp2
        go_roundw
        case rel => exact ⟨k + 1, by omega, by go_num, by first | rfl | trivial, HN2⟩
        case measure => simp [intOf]; omega
    · obtain rfl : k = 9 := by omega
      have hns : ¬ x ∈ signs := fun h => by
        obtain ⟨j, hj, he⟩ := List.getElem_of_mem h
        refine hN.out j hj ?_
        rw [List.getD_eq_getElem?_getD, List.getElem?_eq_getElem hj]
        exact he
      have HNS := Lib.hid hns
      clear hN hns
      have hsm := mk_small x HMK.out
      have hsm2 : (x.toNat : Int) < 97 ∨ (97 ≤ (x.toNat : Int) ∧ 122 < (x.toNat : Int)) := by
        have := hsm
        simp only [smallB, smallF, Bool.and_eq_true, decide_eq_true_eq] at this
        omega
      have hm : x.toNat = 37 ∨ x.toNat = 36 ∨ x.toNat = 64 ∨ x.toNat = 35 := HMK.out
      have hvv := HV.out
      rw [readF_name p a x hap HGD.out hsm hm] at hvv
      obtain ⟨a1, ha1⟩ : ∃ a1 : Nat, a1 = a + 1 := ⟨_, rfl⟩
      have ha1i : (a : Int) + 1 = (a1 : Int) := by omega
      rw [← ha1] at hvv
      have HA1 := Lib.hid ha1
      clear ha1
      have hm2 : (x.toNat : Int) = 37 ∨ (x.toNat : Int) = 36 ∨ (x.toNat : Int) = 64 ∨ (x.toNat : Int) = 35 := by omega
      clear HV
      have HV := Lib.hid hvv
      clear hvv hm hsm HNS HGD
      have HM2 := Lib.hid hm2
      obtain ⟨w2, hw2⟩ : ∃ w2, w2 = (w1.setCell ⟨b8, 0, none⟩ (.int .u8 2)).setCell ⟨b8, 1, none⟩ (.int .u8 (x.toNat : Int)) := ⟨_, rfl⟩
      have hT := two8 HB1.out K4.out hge8 hne 0 1 (.int .u8 2) (.int .u8 (x.toNat : Int))
      rw [← hw2] at hT
      have HB2 := Lib.hid hT.1
      have K42 := Lib.hid hT.2
      have K82 : Hid (Blk w2 b8 34 #[.int .u8 2, .int .u8 (x.toNat : Int), .string ⟨#[]⟩, .int .i64 (a : Int)]) := by rw [hw2]; exact (K8.out.set_ 0 _).set_ 1 _
      have y4 : b4 < w2.heap.size := K42.out.lt
      have y8 : b8 < w2.heap.size := K82.out.lt
      clear hm2 hT
      have hC2 := fun i hi => HC1.out w2 HB2.out i hi
      have HC2 := Lib.hid hC2
      clear hC2
      go_upto_region 10 with (fail)
      go_cut [43] (fun s43 wz => s43 = .bool false ∧ w1 = wz)
      case first =>
        rcases hsm2 with hs1 | ⟨hs1, hs2⟩
        all_goals
          as_aux_lemma =>
            go_wp2
            go_meet
            case rel => exact ⟨by first | rfl | (congr 1; simp; omega), rfl⟩
      case rest =>
        obtain ⟨rfl, rfl⟩ := hcut
        clear hsm2
        go_upto_region 17 with (fail)
        go_cut [87] (fun s87 wz => s87 = .bool false ∧ w1 = wz)
        case first =>
          have HM := HM2.out
          generalize (x.toNat : Int) = xi at *
          clear HM2
          rcases HM with rfl | rfl | rfl | rfl
          all_goals
            as_aux_lemma =>
              go_wp2
              go_meet
              case rel => exact ⟨rfl, rfl⟩
        case rest =>
          obtain ⟨rfl, rfl⟩ := hcut
          obtain ⟨k0, k1, k2, k3, f0, f1, f2, f3⟩ := K4.out.c4i
          obtain ⟨g0, g1, g2, g3, j0, j1, j2, j3⟩ := K8.out.c4i
          go_upto_region 22 with (fail)
          rw [← hw2]
          clear k0 k1 k2 k3 f0 f1 f2 f3 g0 g1 g2 g3 j0 j1 j2 j3 hw2 HM2 K4 K8 HB1 HC1 HS1 z4 z8 e0
          have hcS : ∀ wx, Below w2.heap.size w2 wx → ∀ i (hi : i < p.length), wx.cell? ⟨b, o + i, none⟩ = some (.int .u8 (p[i].toNat : Int)) := fun wx hx i hi => cell_old hx (by omega) (HC2.out i hi)
          have HCS := Lib.hid hcS
          clear hcS HC2
          have hgp : ∀ i (hi : i < p.length), p.getD i 0 = p[i] := fun i hi => by rw [List.getD_eq_getElem?_getD, List.getElem?_eq_getElem hi]; rfl
          have HGP := Lib.hid hgp
          clear hgp
          have hq := HST.out
          rw [HA1.out.symm] at hq
          have hst : True := trivial
          obtain ⟨ha1n, hq34⟩ := hq
          have hip : a1 < p.length := by rw [HL.out]; exact ha1n
          have hq2 := hq34
          rw [HGP.out a1 hip] at hq2
          have e1 := HCS.out w2 (Below.refl _ _) a1 hip
          rw [hq2] at e1
          have e1 : w2.cell? ⟨b, o + a1, none⟩ = some (.int .u8 34) := e1
          have hL := letter_any 34 w2
          rw [letter_starts, show startsF 34 = false from by decide] at hL
          have hrn : rnF p a1 = rqF p (n + 1) (a1 + 1) [] := by unfold rnF; rw [if_pos ⟨hip, hq34⟩, HL.out]
          have hvv := HV.out
          rw [hrn] at hvv
          obtain ⟨r, hr⟩ : ∃ r, r = rqF p (n + 1) (a1 + 1) [] := ⟨_, rfl⟩
          rw [← hr] at hvv
          have HVV := Lib.hid hvv
          obtain ⟨a2, ha2⟩ : ∃ a2, a2 = a1 + 1 := ⟨_, rfl⟩
          have ha2i : (a1 : Int) + 1 = (a2 : Int) := by omega
          rw [← ha2] at hr
          have HR0 := Lib.hid hr
          have HA2 := Lib.hid ha2
          have ha2n : a2 ≤ n := by omega
          have ha1i2 : (a1 : Int) < (n : Int) := by omega
          have hca1 : a1 < c := by omega
          clear hvv HV hrn hst hq34 hq2 hip hr ha2
          go_wp2_with fail
          refine hL.mono ?_
          rintro e w3 ⟨rfl, rfl⟩
          clear hL
          go_wp2_with fail
          simp only [show decide (n ≤ a1) = false from by simp; omega]
          clear ha2i e1 ha1i ha1i2 hca1 ha1n
          go_loopg [11, 12] (n + 1) (fun k s11 s12 wr => ∃ (i m : Nat) (acc : List UInt8) (A7 : Option Addr) (c7 : Nat), s12 = .slice A7 m c7 ∧ i ≤ n ∧ m ≤ i ∧ n - i < k ∧ s11 = .int .i64 (i : Int) ∧ Hid (m = acc.length) ∧ Hid (wr.ownsRow w2.heap.size 5 1 (.slice A7 m c7) m (bytesV acc)) ∧ Hid (Below w2.heap.size w2 wr) ∧ Hid (r = rqF p k i acc))
          case atStart => exact ⟨a2, 0, [], none, 0, rfl, ha2n, Nat.zero_le _, by omega, rfl, rfl, World.ownsRow_nil _ _ _ _, Below.refl _ _, HR0⟩
          case round =>
            clear HR0 ha2n HA2 HA1
            obtain ⟨i, m, acc, A7, c7, rfl, hin, hmi, hf, rfl, hm, hO, hBl, hE⟩ := hrel
            obtain ⟨f, rfl⟩ : ∃ g, gk = g + 1 := ⟨gk - 1, by omega⟩
            have hE2 := hE.out
            rw [rqF, HL.out] at hE2
            have HBw := Lib.hid (HB2.out.trans (hBl.out.mono HB2.out.size))
            have K4r := Lib.hid (K42.out.below hBl.out y4)
            have K8r := Lib.hid (K82.out.below hBl.out y8)
            have z4 : b4 < wr.heap.size := K4r.out.lt
            have z8 : b8 < wr.heap.size := K8r.out.lt
            clear hE
            have HFF0 := Lib.hid (fin4 HBw.out K4r.out hge4 (.int .u8 0) (.int .u8 0) (.string ⟨#[]⟩) (.int .i64 0) _ rfl)
            by_cases hlt : i < n
            · have hip : i < p.length := by rw [HL.out]; exact hlt
              have hii : (i : Int) < (n : Int) := by omega
              have hic : i < c := by omega
              have e0 := HCS.out wr hBl.out i hip
              rw [HGP.out i hip] at hE2
              by_cases h34 : p[i] = 34
              · as_aux_lemma =>
                  rw [if_neg (fun h => h.2 h34), if_neg (by omega)] at hE2
                  rw [h34] at e0
                  have e0 : wr.cell? ⟨b, o + i, none⟩ = some (.int .u8 34) := e0
                  subst hE2
                  have hr5 := own_str hO.out
                  have HFF := Lib.hid (fin4 (HBw.out.setCell (p := ⟨b8, 2, none⟩) hge8 (.string (bs acc))) (K4r.out.far (p := ⟨b8, 2, none⟩) hne (.string (bs acc))) hge4 (.int .u8 2) (.int .u8 (x.toNat : Int)) (.string (bs acc)) (.int .i64 (a : Int)) _ rfl)
                  clear HFF0 h34 hO hm
                  obtain ⟨k0, k1, k2, k3, f0, f1, f2, f3⟩ := K4r.out.c4i
                  obtain ⟨g0, g1, g2, g3, j0, j1, j2, j3⟩ := K8r.out.c4i
                  go_wp2
                  obtain ⟨hbf, hKf⟩ := HFF.out
                  rw [HVV.out]
                  refine bodyPost_ret (res22 (by rfl) (by rfl) (by rfl) hKf) rfl ?_
                  exact ⟨rfl, hbf⟩
              · rw [if_pos ⟨hlt, h34⟩] at hE2
                have hdr : p.drop i = p[i] :: p.drop (i + 1) := List.drop_eq_getElem_cons hip
                have h34n : p[i].toNat ≠ 34 := fun h => h34 (UInt8.toNat_inj.1 h)
                have h34b : ((p[i].toNat : Int) != 34) = true := by simp [bne]; omega
                by_cases hout : p[i].toNat < 32 ∨ 126 < p[i].toNat
                · as_aux_lemma =>
                    rw [hdr, qb_out _ _ hout, if_pos rfl] at hE2
                    subst hE2
                    have hout2 : (p[i].toNat : Int) < 32 ∨ (32 ≤ (p[i].toNat : Int) ∧ 126 < (p[i].toNat : Int)) := by omega
                    have HFF := HFF0
                    clear HFF0 hout hO hm hdr h34 h34n
                    generalize (p[i].toNat : Int) = yi at *
                    obtain ⟨k0, k1, k2, k3, f0, f1, f2, f3⟩ := K4r.out.c4i
                    rcases hout2 with hs1 | ⟨hs1, hs2⟩
                    all_goals
                      go_wp2
                      obtain ⟨hbf, hKf⟩ := HFF.out
                      rw [HVV.out]
                      refine bodyPost_ret (res22 (by rfl) (by rfl) (by rfl) hKf) rfl ?_
                      exact ⟨rfl, hbf⟩
                · by_cases h92 : p[i].toNat ≠ 92
                  · as_aux_lemma =>
                      rw [hdr, qb_plain _ _ hout h92, if_neg (by simp)] at hE2
                      have HE2 : Hid (r = rqF p f (i + 1) (acc ++ [p[i]])) := hE2
                      obtain ⟨A5, c5, w5, hr5, hO5, hb5⟩ := pushB w2.heap.size (.slice A7 m c7) m acc p[i] wr hm.out hO.out (by omega) hBl.out.size
                      have HO5 := Lib.hid hO5
                      have HB5 := Lib.hid (hBl.out.trans hb5)
                      have HM5 : Hid (m + 1 = (acc ++ [p[i]]).length) := by show _ = _; rw [hm.out]; simp
                      have h92b : ((p[i].toNat : Int) != 92) = true := by simp [bne]; omega
                      have hs1 : 32 ≤ (p[i].toNat : Int) := by omega
                      have hs2 : (p[i].toNat : Int) ≤ 126 := by omega
                      clear HFF0 hout h92 h34 h34n hdr hE2 hO5 hb5 hm hO
                      generalize acc ++ [p[i]] = acc2 at *
                      generalize (p[i].toNat : Int) = yi at *
                      go_wp2_with (at_builtin; refine Lib.wpList_append_run _ rfl _ _ 22 22 rfl _ _ rfl rfl _ _ hr5 ?_)
                      go_roundg f
                      case rel => exact ⟨i + 1, m + 1, acc2, A5, c5, rfl, by omega, by omega, by omega, by go_num, HM5, HO5, HB5, HE2⟩
                      case measure => omega
                  · have h92e : p[i] = 92 := UInt8.toNat_inj.1 (by show p[i].toNat = 92; omega)
                    rw [h92e] at e0 hdr
                    have e0 : wr.cell? ⟨b, o + i, none⟩ = some (.int .u8 92) := e0
                    rw [hdr] at hE2
                    clear hdr hout h92 h34 h34n h34b h92e
                    have hE2 := hE2
                    have h92i : ((92 : Int) != 92) = false := by decide
                    by_cases hy1 : i + 1 < n
                    · have hip1 : i + 1 < p.length := by rw [HL.out]; exact hy1
                      have hy1i : (i : Int) + 1 < (n : Int) := by omega
                      have hc1 : i + 1 < c := by omega
                      have e1 := HCS.out wr hBl.out (i + 1) hip1
                      have hd1 : p.drop (i + 1) = p[i + 1] :: p.drop (i + 2) := List.drop_eq_getElem_cons hip1
                      rw [hd1] at hE2
                      by_cases hesc : p[i + 1].toNat = 34 ∨ p[i + 1].toNat = 92
                      · as_aux_lemma =>
                          rw [qb_esc _ _ hesc, if_neg (by simp)] at hE2
                          have HE2 : Hid (r = rqF p f (i + 2) (acc ++ [p[i + 1]])) := hE2
                          obtain ⟨A5, c5, w5, hr5, hO5, hb5⟩ := pushB w2.heap.size (.slice A7 m c7) m acc p[i + 1] wr hm.out hO.out (by omega) hBl.out.size
                          have HO5 := Lib.hid hO5
                          have HB5 := Lib.hid (hBl.out.trans hb5)
                          have HM5 : Hid (m + 1 = (acc ++ [p[i + 1]]).length) := by show _ = _; rw [hm.out]; simp
                          have hy : (p[i + 1].toNat : Int) = 34 ∨ (p[i + 1].toNat : Int) = 92 := by omega
                          clear HFF0 hesc hd1 hE2 hO5 hb5 hm hO
                          generalize acc ++ [p[i + 1]] = acc2 at *
                          generalize (p[i + 1].toNat : Int) = yj at *
                          rcases hy with rfl | rfl
                          all_goals
                            go_wp2_with (at_builtin; refine Lib.wpList_append_run _ rfl _ _ 22 22 rfl _ _ rfl rfl _ _ hr5 ?_)
                            go_roundg f
                            case rel => exact ⟨i + 2, m + 1, acc2, A5, c5, rfl, by omega, by omega, by omega, by go_num, HM5, HO5, HB5, HE2⟩
                            case measure => omega
                      · have hn1 : ((p[i + 1].toNat : Int) == 34) = false := by simp; omega
                        have hn2 : ((p[i + 1].toNat : Int) == 92) = false := by simp; omega
                        by_cases hy3 : i + 3 < n
                        · have hip2 : i + 2 < p.length := by rw [HL.out]; omega
                          have hip3 : i + 3 < p.length := by rw [HL.out]; exact hy3
                          have e2 := HCS.out wr hBl.out (i + 2) hip2
                          have e3 := HCS.out wr hBl.out (i + 3) hip3
                          have hd2 : p.drop (i + 2) = p[i + 2] :: p[i + 3] :: p.drop (i + 4) := by
                            rw [List.drop_eq_getElem_cons hip2, List.drop_eq_getElem_cons hip3]
                          rw [hd2] at hE2
                          have hy3i : (i : Int) + 3 < (n : Int) := by omega
                          have hy2i : (i : Int) + 2 < (n : Int) := by omega
                          have hc2 : i + 2 < c := by omega
                          have hc3 : i + 3 < c := by omega
                          have hu := p[i + 2].toNat_lt
                          have hv := p[i + 3].toNat_lt
                          have hN2 := fun wx => nib_any p[i + 2].toNat hu wx
                          have hN3 := fun wx => nib_any p[i + 3].toNat hv wx
                          by_cases hgood : p[i + 1].toNat = 120 ∧ nibF p[i + 2].toNat ≤ 15 ∧ nibF p[i + 3].toNat ≤ 15
                          · as_aux_lemma =>
                              obtain ⟨hg1, hg2, hg3⟩ := hgood
                              have h120 : p[i + 1] = 120 := UInt8.toNat_inj.1 hg1
                              rw [h120] at e1
                              have e1 : wr.cell? ⟨b, o + (i + 1), none⟩ = some (.int .u8 120) := e1
                              rw [h120, qb_hex _ _ _ hg2 hg3, if_neg (by simp)] at hE2
                              obtain ⟨z, hz⟩ : ∃ z, z = UInt8.ofNat (16 * nibF p[i + 2].toNat + nibF p[i + 3].toNat) := ⟨_, rfl⟩
                              rw [← hz] at hE2
                              have HE2 : Hid (r = rqF p f (i + 4) (acc ++ [z])) := hE2
                              have hzn : z.toNat = 16 * nibF p[i + 2].toNat + nibF p[i + 3].toNat := by rw [hz, UInt8.toNat_ofNat']; omega
                              obtain ⟨A5, c5, w5, hr5, hO5, hb5⟩ := pushB w2.heap.size (.slice A7 m c7) m acc z wr.drew hm.out (own_old hO.out (Below.refl _ _).drew) (by omega) hBl.out.size
                              have HO5 := Lib.hid hO5
                              have HB5 := Lib.hid ((hBl.out.trans (below_dn w2.heap.size wr 1)).trans hb5)
                              have HM5 : Hid (m + 1 = (acc ++ [z]).length) := by show _ = _; rw [hm.out]; simp
                              have hw1 : IntKind.u8.wrap (16 * (nibF p[i + 2].toNat : Int)) = 16 * (nibF p[i + 2].toNat : Int) := by simp [IntKind.wrap, IntKind.signed, IntKind.bits]; omega
                              have hw2 : IntKind.u8.wrap (16 * (nibF p[i + 2].toNat : Int) + (nibF p[i + 3].toNat : Int)) = (z.toNat : Int) := by simp [IntKind.wrap, IntKind.signed, IntKind.bits]; omega
                              have hci : ¬ (15 : Int) < (nibF p[i + 2].toNat : Int) := by omega
                              have hcj : ¬ (15 : Int) < (nibF p[i + 3].toNat : Int) := by omega
                              have HE23 : Hid (∀ W, Below w2.heap.size w2 W → W.cell? ⟨b, o + (i + 2), none⟩ = some (.int .u8 (p[i + 2].toNat : Int)) ∧ W.cell? ⟨b, o + (i + 3), none⟩ = some (.int .u8 (p[i + 3].toNat : Int))) := fun W hW => ⟨HCS.out W hW (i + 2) hip2, HCS.out W hW (i + 3) hip3⟩
                              clear HFF0 hesc hd1 hd2 hE2 hO5 hb5 hm hO hu hv hg1 h120 hz hzn hg2 hg3
                              generalize acc ++ [z] = acc2 at *
                              generalize (z.toNat : Int) = zi at *
                              generalize nibF p[i + 2].toNat = U at *
                              generalize nibF p[i + 3].toNat = V at *
                              generalize (p[i + 2].toNat : Int) = yu at *
                              generalize (p[i + 3].toNat : Int) = yv at *
                              go_wp2_with fail
                              refine (hN2 _).mono ?_
                              rintro e w3 ⟨rfl, rfl⟩
                              go_wp2_with fail
                              refine (hN3 _).mono ?_
                              rintro e w3 ⟨rfl, rfl⟩
                              go_upto_region 42 with (fail)
                              obtain ⟨j2, hj2⟩ : ∃ j2, j2 = i + 2 := ⟨_, rfl⟩
                              obtain ⟨j3, hj3⟩ : ∃ j3, j3 = i + 3 := ⟨_, rfl⟩
                              have hwi2 : IntKind.i64.wrap ((i : Int) + 2) = (j2 : Int) := by simp [IntKind.wrap, IntKind.signed, IntKind.bits]; omega
                              have hwi3 : IntKind.i64.wrap ((i : Int) + 3) = (j3 : Int) := by simp [IntKind.wrap, IntKind.signed, IntKind.bits]; omega
                              rw [← hj2] at e2
                              rw [← hj3] at e3
                              rw [← hj2, ← hj3] at HE23
                              have hj2n : j2 < n := by omega
                              have hj3n : j3 < n := by omega
                              have hj2c : j2 < c := by omega
                              have hj3c : j3 < c := by omega
                              have hj2i : (j2 : Int) < (n : Int) := by omega
                              have hj3i : (j3 : Int) < (n : Int) := by omega
                              clear hj2 hj3 hy2i hy3i
                              refine wp_region_held_drew (S := (fun W => Below w2.heap.size w2 W)) (by kernel_rfl) hBl.out.drew (fun hHeld => ?_)
                              try simp only [Act.put, List.setIfInBounds_toArray, List.set_cons_zero, List.set_cons_succ]
                              refine wpAnyH_take (i := 0) (oi := { dst := some 260, op := Op.move (Operand.tmp 12), type := 22, pos := "ref.go:119", after := #[], guard := none }) (v := ?_) rfl (by kernel_rfl) (by kernel_rfl) (by kernel_rfl) (fun _ _ _ h => h) (Or.inl ⟨by rfl, ?_⟩) (by assumption) ?_
                              rotate_left
                              · (intro W hSW; (try dsimp only at hSW); (have e23 := HE23.out W hSW); (obtain ⟨e2, e3⟩ := e23); go_simp; first | done | with_reducible rfl)
                              try simp only [Act.put, List.setIfInBounds_toArray, List.set_cons_zero, List.set_cons_succ]
                              refine wpAnyH_take (i := 1) (oi := { dst := some 261, op := Op.move (Operand.tmp 0), type := 22, pos := "ref.go:119", after := #[], guard := none }) (v := ?_) rfl (by kernel_rfl) (by kernel_rfl) (by kernel_rfl) (fun _ _ _ h => h) (Or.inl ⟨by rfl, ?_⟩) (by assumption) ?_
                              rotate_left
                              · (intro W hSW; (try dsimp only at hSW); (have e23 := HE23.out W hSW); (obtain ⟨e2, e3⟩ := e23); go_simp; first | done | with_reducible rfl)
                              try simp only [Act.put, List.setIfInBounds_toArray, List.set_cons_zero, List.set_cons_succ]
                              refine wpAnyH_take (i := 2) (oi := { dst := some 262, op := Op.move (Operand.tmp 11), type := 3, pos := "ref.go:119", after := #[], guard := none }) (v := ?_) rfl (by kernel_rfl) (by kernel_rfl) (by kernel_rfl) (fun _ _ _ h => h) (Or.inl ⟨by rfl, ?_⟩) (by assumption) ?_
                              rotate_left
                              · (intro W hSW; (try dsimp only at hSW); (have e23 := HE23.out W hSW); (obtain ⟨e2, e3⟩ := e23); go_simp; first | done | with_reducible rfl)
                              try simp only [Act.put, List.setIfInBounds_toArray, List.set_cons_zero, List.set_cons_succ]
                              refine wpAnyH_take (i := 3) (oi := { dst := some 263, op := Op.binOp BinOp.add 3 (Operand.tmp 262) (Operand.const (Value.int IntKind.i64 2)) 3, type := 3, pos := "ref.go:119", after := #[{ on := 2, ground := Ground.data }], guard := none }) (v := ?_) rfl (by kernel_rfl) (by kernel_rfl) (by kernel_rfl) (fun _ _ _ h => h) (Or.inl ⟨by rfl, ?_⟩) (by assumption) ?_
                              rotate_left
                              · (intro W hSW; (try dsimp only at hSW); (have e23 := HE23.out W hSW); (obtain ⟨e2, e3⟩ := e23); go_simp; first | done | with_reducible rfl)
                              try simp only [Act.put, List.setIfInBounds_toArray, List.set_cons_zero, List.set_cons_succ]
                              refine wpAnyH_take (i := 4) (oi := { dst := some 264, op := Op.indexAddr 22 (Operand.tmp 261) (Operand.tmp 263), type := 0, pos := "ref.go:119", after := #[{ on := 1, ground := Ground.data }, { on := 3, ground := Ground.data }], guard := none }) (v := ?_) rfl (by kernel_rfl) (by kernel_rfl) (by kernel_rfl) (fun _ _ _ h => h) (Or.inl ⟨by rfl, ?_⟩) (by assumption) ?_
                              rotate_left
                              · (intro W hSW; (try dsimp only at hSW); (have e23 := HE23.out W hSW); (obtain ⟨e2, e3⟩ := e23); go_simp; first | done | with_reducible rfl)
                              try simp only [Act.put, List.setIfInBounds_toArray, List.set_cons_zero, List.set_cons_succ]
                              refine wpAnyH_take (i := 5) (oi := { dst := some 265, op := Op.load 5 (Operand.tmp 264), type := 5, pos := "ref.go:119", after := #[{ on := 4, ground := Ground.data }], guard := none }) (v := ?_) rfl (by kernel_rfl) (by kernel_rfl) (by kernel_rfl) (fun _ _ _ h => h) (Or.inl ⟨by rfl, ?_⟩) (by assumption) ?_
                              rotate_left
                              · (intro W hSW; (try dsimp only at hSW); (have e23 := HE23.out W hSW); (obtain ⟨e2, e3⟩ := e23); go_simp; first | done | with_reducible rfl)
                              try simp only [Act.put, List.setIfInBounds_toArray, List.set_cons_zero, List.set_cons_succ]
                              refine wpAnyH_take (i := 8) (oi := { dst := some 268, op := Op.move (Operand.tmp 0), type := 22, pos := "ref.go:119", after := #[], guard := none }) (v := ?_) rfl (by kernel_rfl) (by kernel_rfl) (by kernel_rfl) (fun _ _ _ h => h) (Or.inl ⟨by rfl, ?_⟩) (by assumption) ?_
                              rotate_left
                              · (intro W hSW; (try dsimp only at hSW); (have e23 := HE23.out W hSW); (obtain ⟨e2, e3⟩ := e23); go_simp; first | done | with_reducible rfl)
                              try simp only [Act.put, List.setIfInBounds_toArray, List.set_cons_zero, List.set_cons_succ]
                              refine wpAnyH_take (i := 9) (oi := { dst := some 269, op := Op.move (Operand.tmp 11), type := 3, pos := "ref.go:119", after := #[], guard := none }) (v := ?_) rfl (by kernel_rfl) (by kernel_rfl) (by kernel_rfl) (fun _ _ _ h => h) (Or.inl ⟨by rfl, ?_⟩) (by assumption) ?_
                              rotate_left
                              · (intro W hSW; (try dsimp only at hSW); (have e23 := HE23.out W hSW); (obtain ⟨e2, e3⟩ := e23); go_simp; first | done | with_reducible rfl)
                              try simp only [Act.put, List.setIfInBounds_toArray, List.set_cons_zero, List.set_cons_succ]
                              refine wpAnyH_take (i := 10) (oi := { dst := some 270, op := Op.binOp BinOp.add 3 (Operand.tmp 269) (Operand.const (Value.int IntKind.i64 3)) 3, type := 3, pos := "ref.go:119", after := #[{ on := 9, ground := Ground.data }], guard := none }) (v := ?_) rfl (by kernel_rfl) (by kernel_rfl) (by kernel_rfl) (fun _ _ _ h => h) (Or.inl ⟨by rfl, ?_⟩) (by assumption) ?_
                              rotate_left
                              · (intro W hSW; (try dsimp only at hSW); (have e23 := HE23.out W hSW); (obtain ⟨e2, e3⟩ := e23); go_simp; first | done | with_reducible rfl)
                              try simp only [Act.put, List.setIfInBounds_toArray, List.set_cons_zero, List.set_cons_succ]
                              refine wpAnyH_take (i := 11) (oi := { dst := some 271, op := Op.indexAddr 22 (Operand.tmp 268) (Operand.tmp 270), type := 0, pos := "ref.go:119", after := #[{ on := 8, ground := Ground.data }, { on := 10, ground := Ground.data }], guard := none }) (v := ?_) rfl (by kernel_rfl) (by kernel_rfl) (by kernel_rfl) (fun _ _ _ h => h) (Or.inl ⟨by rfl, ?_⟩) (by assumption) ?_
                              rotate_left
                              · (intro W hSW; (try dsimp only at hSW); (have e23 := HE23.out W hSW); (obtain ⟨e2, e3⟩ := e23); go_simp; first | done | with_reducible rfl)
                              try simp only [Act.put, List.setIfInBounds_toArray, List.set_cons_zero, List.set_cons_succ]
                              refine wpAnyH_take (i := 12) (oi := { dst := some 272, op := Op.load 5 (Operand.tmp 271), type := 5, pos := "ref.go:119", after := #[{ on := 11, ground := Ground.data }], guard := none }) (v := ?_) rfl (by kernel_rfl) (by kernel_rfl) (by kernel_rfl) (fun _ _ _ h => h) (Or.inl ⟨by rfl, ?_⟩) (by assumption) ?_
                              rotate_left
                              · (intro W hSW; (try dsimp only at hSW); (have e23 := HE23.out W hSW); (obtain ⟨e2, e3⟩ := e23); go_simp; first | done | with_reducible rfl)
                              try simp only [Act.put, List.setIfInBounds_toArray, List.set_cons_zero, List.set_cons_succ]
                              refine wpAnyH_ready (rs := [6]) (by kernel_rfl) (by simp) ?_
                              refine AllReadyH.cons (o := { dst := some 266, op := Op.call { callee := Callee.value (Operand.func 31), args := #[Operand.tmp 265], argTypes := #[5] }, type := 5, pos := "ref.go:119", after := #[{ on := 5, ground := Ground.data }], guard := none }) rfl (fun KQ hKQ => ?_) AllReadyH.nil
                              go_simp
                              go_at_call 31
                              refine (hN2 _).mono ?_
                              rintro e w3 ⟨rfl, rfl⟩
                              refine hKQ.out _ _ hBl.out.drew (fun _ => ?_)
                              clear hKQ KQ
                              try simp only [Act.put, List.setIfInBounds_toArray, List.set_cons_zero, List.set_cons_succ]
                              refine wpAnyH_take (i := 7) (oi := { dst := some 267, op := Op.binOp BinOp.mul 5 (Operand.const (Value.int IntKind.u8 16)) (Operand.tmp 266) 5, type := 5, pos := "ref.go:119", after := #[{ on := 6, ground := Ground.data }], guard := none }) (v := ?_) rfl (by kernel_rfl) (by kernel_rfl) (by kernel_rfl) (fun _ _ _ h => h) (Or.inl ⟨by rfl, ?_⟩) (by assumption) ?_
                              rotate_left
                              · (intro W hSW; (try dsimp only at hSW); go_simp; first | done | with_reducible rfl)
                              try simp only [Act.put, List.setIfInBounds_toArray, List.set_cons_zero, List.set_cons_succ]
                              refine wpAnyH_ready (rs := [13]) (by kernel_rfl) (by simp) ?_
                              refine AllReadyH.cons (o := { dst := some 273, op := Op.call { callee := Callee.value (Operand.func 31), args := #[Operand.tmp 272], argTypes := #[5] }, type := 5, pos := "ref.go:119", after := #[{ on := 12, ground := Ground.data }, { on := 6, ground := Ground.chain }], guard := none }) rfl (fun KQ hKQ => ?_) AllReadyH.nil
                              go_simp
                              go_at_call 31
                              refine (hN3 _).mono ?_
                              rintro e w3 ⟨rfl, rfl⟩
                              refine hKQ.out _ _ hBl.out.drew (fun _ => ?_)
                              clear hKQ KQ
                              try simp only [Act.put, List.setIfInBounds_toArray, List.set_cons_zero, List.set_cons_succ]
                              refine wpAnyH_take (i := 14) (oi := { dst := some 274, op := Op.binOp BinOp.add 5 (Operand.tmp 267) (Operand.tmp 273) 5, type := 5, pos := "ref.go:119", after := #[{ on := 7, ground := Ground.data }, { on := 13, ground := Ground.data }], guard := none }) (v := ?_) rfl (by kernel_rfl) (by kernel_rfl) (by kernel_rfl) (fun _ _ _ h => h) (Or.inl ⟨by rfl, ?_⟩) (by assumption) ?_
                              rotate_left
                              · (intro W hSW; (try dsimp only at hSW); go_simp; first | done | with_reducible rfl)
                              try simp only [Act.put, List.setIfInBounds_toArray, List.set_cons_zero, List.set_cons_succ]
                              refine wpAnyH_ready (rs := [15]) (by kernel_rfl) (by simp) ?_
                              refine AllReadyH.cons (o := { dst := some 275, op := Op.buildSlice 22 1 #[(0, Operand.tmp 274)], type := 22, pos := "ref.go:119", after := #[{ on := 14, ground := Ground.data }], guard := none }) rfl (fun KQ hKQ => ?_) AllReadyH.nil
                              go_simp
                              refine hKQ.out _ _ (hBl.out.drew.alloc hBl.out.size _) (fun _ => ?_)
                              clear hKQ KQ
                              try simp only [Act.put, List.setIfInBounds_toArray, List.set_cons_zero, List.set_cons_succ]
                              refine wpAnyH_ready (rs := [16]) (by kernel_rfl) (by simp) ?_
                              refine AllReadyH.cons (o := { dst := some 276, op := Op.call { callee := Callee.builtin Builtin.append, args := #[Operand.tmp 260, Operand.tmp 275], argTypes := #[22, 22] }, type := 22, pos := "ref.go:119", after := #[{ on := 0, ground := Ground.data }, { on := 15, ground := Ground.data }, { on := 13, ground := Ground.chain }], guard := none }) rfl (fun KQ hKQ => ?_) AllReadyH.nil
                              refine step_append_run _ (by rfl) _ _ _ (by rfl) _ _ (by rfl) (by rfl) _ _ hr5 ?_
                              refine hKQ.out _ _ HB5.out (fun _ => ?_)
                              clear hKQ KQ
                              try simp only [Act.put, List.setIfInBounds_toArray, List.set_cons_zero, List.set_cons_succ]
                              refine wpAnyH_take (i := 17) (oi := { dst := some 12, op := Op.assign (Operand.tmp 276), type := 22, pos := "ref.go:119", after := #[{ on := 16, ground := Ground.data }, { on := 16, ground := Ground.chain }, { on := 0, ground := Ground.phase }, { on := 1, ground := Ground.phase }, { on := 2, ground := Ground.phase }, { on := 3, ground := Ground.phase }, { on := 4, ground := Ground.phase }, { on := 5, ground := Ground.phase }, { on := 6, ground := Ground.phase }, { on := 7, ground := Ground.phase }, { on := 8, ground := Ground.phase }, { on := 9, ground := Ground.phase }, { on := 10, ground := Ground.phase }, { on := 11, ground := Ground.phase }, { on := 12, ground := Ground.phase }, { on := 13, ground := Ground.phase }, { on := 14, ground := Ground.phase }, { on := 15, ground := Ground.phase }, { on := 16, ground := Ground.phase }], guard := none }) (v := ?_) rfl (by kernel_rfl) (by kernel_rfl) (by kernel_rfl) (fun _ _ _ h => h) (Or.inl ⟨by rfl, ?_⟩) (by assumption) ?_
                              rotate_left
                              · (intro W hSW; (try dsimp only at hSW); go_simp; first | done | with_reducible rfl)
                              try simp only [Act.put, List.setIfInBounds_toArray, List.set_cons_zero, List.set_cons_succ]
                              refine wpAnyH_done (by kernel_rfl) ?_ _
                              go_wp2
                              go_roundg f
                              case rel => exact ⟨i + 4, m + 1, acc2, A5, c5, rfl, by omega, by omega, by omega, by go_num, HM5, HO5, HB5, HE2⟩
                              case measure => omega
                          · as_aux_lemma =>
                              rw [qb_bad _ (fun y r' h => by injection h with h1 h2; subst h1; exact ⟨fun h => hesc (.inl h), fun h => hesc (.inr h)⟩) (fun u v r' h => by
                                injection h with h1 h2
                                injection h2 with h3 h4
                                injection h4 with h5 h6
                                have h1n : p[i + 1].toNat = 120 := by rw [h1]; rfl
                                rw [← h3, ← h5]
                                omega), if_pos rfl] at hE2
                              subst hE2
                              have HFF := HFF0
                              clear HFF0 hesc hd1 hd2 hm hO
                              have hcase : (p[i + 1].toNat : Int) ≠ 120 ∨ ((p[i + 1].toNat : Int) = 120 ∧ 15 < nibF p[i + 2].toNat) ∨ ((p[i + 1].toNat : Int) = 120 ∧ nibF p[i + 2].toNat ≤ 15 ∧ 15 < nibF p[i + 3].toNat) := by omega
                              clear hgood hu hv
                              generalize nibF p[i + 2].toNat = U at *
                              generalize nibF p[i + 3].toNat = V at *
                              generalize (p[i + 1].toNat : Int) = yj at *
                              generalize (p[i + 2].toNat : Int) = yu at *
                              generalize (p[i + 3].toNat : Int) = yv at *
                              obtain ⟨k0, k1, k2, k3, f0, f1, f2, f3⟩ := K4r.out.c4i
                              rcases hcase with hc | ⟨rfl, hc⟩ | ⟨rfl, hc, hcv⟩
                              · have hn3 : (yj != 120) = true := by simp [bne]; omega
                                go_wp2
                                obtain ⟨hbf, hKf⟩ := HFF.out
                                rw [HVV.out]
                                refine bodyPost_ret (res22 (by rfl) (by rfl) (by rfl) hKf) rfl ?_
                                exact ⟨rfl, hbf⟩
                              · have hci : (15 : Int) < (U : Int) := by omega
                                go_wp2_with fail
                                refine (hN2 _).mono ?_
                                rintro e w3 ⟨rfl, rfl⟩
                                go_wp2
                                obtain ⟨hbf, hKf⟩ := HFF.out
                                rw [HVV.out]
                                refine bodyPost_ret (res22 (by rfl) (by rfl) (by rfl) hKf) rfl ?_
                                exact ⟨rfl, hbf⟩
                              · have hci : ¬ (15 : Int) < (U : Int) := by omega
                                have hcj : (15 : Int) < (V : Int) := by omega
                                go_wp2_with fail
                                refine (hN2 _).mono ?_
                                rintro e w3 ⟨rfl, rfl⟩
                                go_wp2_with fail
                                refine (hN3 _).mono ?_
                                rintro e w3 ⟨rfl, rfl⟩
                                go_wp2
                                obtain ⟨hbf, hKf⟩ := HFF.out
                                rw [HVV.out]
                                refine bodyPost_ret (res22 (by rfl) (by rfl) (by rfl) hKf) rfl ?_
                                exact ⟨rfl, hbf⟩
                        · as_aux_lemma =>
                            rw [qb_bad _ (fun y r' h => by injection h with h1 h2; subst h1; exact ⟨fun h => hesc (.inl h), fun h => hesc (.inr h)⟩) (fun u v r' h => by
                              have := congrArg List.length h
                              simp only [List.length_cons, List.length_drop, HL.out] at this
                              omega), if_pos rfl] at hE2
                            subst hE2
                            have hy3i : ¬ (i : Int) + 3 < (n : Int) := by omega
                            have HFF := HFF0
                            clear HFF0 hesc hd1 hm hO
                            generalize (p[i + 1].toNat : Int) = yj at *
                            obtain ⟨k0, k1, k2, k3, f0, f1, f2, f3⟩ := K4r.out.c4i
                            go_wp2
                            obtain ⟨hbf, hKf⟩ := HFF.out
                            rw [HVV.out]
                            refine bodyPost_ret (res22 (by rfl) (by rfl) (by rfl) hKf) rfl ?_
                            exact ⟨rfl, hbf⟩
                    · as_aux_lemma =>
                        have hl0 : p.drop (i + 1) = [] := List.drop_of_length_le (by rw [HL.out]; omega)
                        rw [hl0, qb_bad [] (fun y r' h => by cases h) (fun u v r' h => by cases h), if_pos rfl] at hE2
                        subst hE2
                        have hy1i : ¬ (i : Int) + 1 < (n : Int) := by omega
                        have hy3i : ¬ (i : Int) + 3 < (n : Int) := by omega
                        have HFF := HFF0
                        clear HFF0 hm hO hl0
                        obtain ⟨k0, k1, k2, k3, f0, f1, f2, f3⟩ := K4r.out.c4i
                        go_wp2
                        obtain ⟨hbf, hKf⟩ := HFF.out
                        rw [HVV.out]
                        refine bodyPost_ret (res22 (by rfl) (by rfl) (by rfl) hKf) rfl ?_
                        exact ⟨rfl, hbf⟩
            · as_aux_lemma =>
                obtain rfl : i = n := by omega
                rw [if_neg (fun h => hlt h.1), if_pos rfl] at hE2
                subst hE2
                have HFF := HFF0
                clear HFF0 hO hm
                obtain ⟨k0, k1, k2, k3, f0, f1, f2, f3⟩ := K4r.out.c4i
                go_wp2
                obtain ⟨hbf, hKf⟩ := HFF.out
                rw [HVV.out]
                refine bodyPost_ret (res22 (by rfl) (by rfl) (by rfl) hKf) rfl ?_
                exact ⟨rfl, hbf⟩
end Go.Proofs.Ytgaedkaohjphaaa
