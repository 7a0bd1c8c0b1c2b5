/-
  Lex: the reference's Tokens.
-/
import Derived.Test.YtgaedkaohjphaaaOb5
import Derived.Test.YtgaedkaohjphaaaOf0
import Derived.Deep.LoopGhost
import Derived.Deep.CutBlock
namespace Go.Proofs.Ytgaedkaohjphaaa
open Go.RowKit
set_option linter.unusedVariables false
set_option linter.unusedSimpArgs false
set_option maxRecDepth 20000
/-- What the call of Tokens leaves. -/
def ToksB (w : World) (v : List Tok × Int) (e : Ending) (w' : World) : Prop :=
  ∃ (m : Nat) (A' : Option Addr) (c' : Nat), m = v.1.length ∧ e = .returned (.tuple #[.slice A' m c', .int .i64 v.2]) ∧ w'.ownsRow w.heap.size 34 4 (.slice A' m c') m (toksV v.1) ∧ Below w.heap.size w w'
set_option maxHeartbeats 8000000 in
theorem toks_any (A : Option Addr) (n c : Nat) (p : List UInt8) (w : World) (h : Src w A n p) (hc : n ≤ c) (hn : n ≤ 1000000) :
    Calls Try.prog 12 #[.slice A n c] w (ToksB w (toksF p (n + 1) 0 [])) := by
  obtain ⟨v, hv⟩ : ∃ v, v = toksF p (n + 1) 0 [] := ⟨_, rfl⟩
  rw [← hv]
  have HV0 : Hid (v = toksF p (n + 1) 0 []) := hv
  have H := Lib.hid h
  have hl : p.length = n := h.1
  have HL := Lib.hid hl
  clear hv h hl
  go_enter Try.func12, Try.ntmps12
  go_wp2_with fail
  go_loopg [4, 5] (n + 1) (fun k s4 s5 wr => ∃ (a m : Nat) (L : List Tok) (A4 : Option Addr) (c4 : Nat), s4 = .slice A4 m c4 ∧ s5 = .int .i64 (a : Int) ∧ a ≤ n ∧ m ≤ a ∧ n - a < k ∧ Hid (m = L.length) ∧ Hid (wr.ownsRow w.heap.size 34 4 (.slice A4 m c4) m (toksV L)) ∧ Hid (Below w.heap.size w wr) ∧ Hid (v = toksF p k a L))
  case atStart => exact ⟨0, 0, [], none, 0, rfl, rfl, Nat.zero_le _, Nat.le_refl _, by omega, rfl, World.ownsRow_nil _ _ _ _, Below.refl _ _, HV0⟩
  case round =>
    clear HV0
    obtain ⟨a, m, L, A4, c4, rfl, rfl, ha, hma, hk, hm, hO, hBl, hE⟩ := hrel
    obtain ⟨f, rfl⟩ : ∃ g, gk = g + 1 := ⟨gk - 1, by omega⟩
    obtain ⟨sk, hsk⟩ : ∃ sk, sk = skipF p (n + 1) a := ⟨_, rfl⟩
    have hE2 := hE.out
    rw [toksF, HL.out, ← hsk] at hE2
    have HE := Lib.hid hE2
    have HSK0 : Hid (sk = skipF p (n + 1) a) := hsk
    clear hE hE2 hsk
    obtain ⟨w1, rfl⟩ : ∃ w1, w1 = wr := ⟨_, rfl⟩
    go_wp2_with fail
    go_loopg [5] (n + 1) (fun k s5 wz => ∃ (a' : Nat), s5 = .int .i64 (a' : Int) ∧ a ≤ a' ∧ a' ≤ n ∧ n - a' < k ∧ w1 = wz ∧ Hid (sk = skipF p k a'))
    case atStart => exact ⟨a, rfl, Nat.le_refl _, ha, by omega, rfl, HSK0⟩
    case round =>
      clear HSK0
      obtain ⟨a', rfl, haa, han, hk2, rfl, hS⟩ := hrel
      obtain ⟨g, rfl⟩ : ∃ g, gk = g + 1 := ⟨gk - 1, by omega⟩
      by_cases hlt : a' < n
      · have hai : (a' : Int) < (n : Int) := by omega
        have hac : a' < c := by omega
        obtain ⟨b, o, rfl, hcc0⟩ := H.out.2 (by omega)
        have HC : Hid (∀ i (hi : i < p.length), w1.cell? ⟨b, o + i, none⟩ = some (.int .u8 (p[i].toNat : Int))) := fun i hi => cell_old hBl.out (World.block_lt_of_cell? w _ (hcc0 i hi)) (hcc0 i hi)
        have hap : a' < p.length := by rw [HL.out]; exact hlt
        have hdr : p.drop a' = p[a'] :: p.drop (a' + 1) := List.drop_eq_getElem_cons hap
        have HDR := Lib.hid hdr
        have e0 := HC.out a' hap
        obtain ⟨y, hy⟩ : ∃ y, y = p[a'] := ⟨_, rfl⟩
        rw [← hy] at e0
        have HY := Lib.hid hy
        clear hcc0 hdr hy
        obtain ⟨bl, hbl⟩ : ∃ bl, bl = blankF (y.toNat : Int) := ⟨_, rfl⟩
        have HBLK := Lib.hid hbl
        have hb5 : ((y.toNat : Int) = 32 ∧ bl = true) ∨ (((y.toNat : Int) == 32) = false ∧ (y.toNat : Int) = 9 ∧ bl = true) ∨ (((y.toNat : Int) == 32) = false ∧ ((y.toNat : Int) == 9) = false ∧ (y.toNat : Int) = 10 ∧ bl = true) ∨ (((y.toNat : Int) == 32) = false ∧ ((y.toNat : Int) == 9) = false ∧ ((y.toNat : Int) == 10) = false ∧ (y.toNat : Int) = 13 ∧ bl = true) ∨ (((y.toNat : Int) == 32) = false ∧ ((y.toNat : Int) == 9) = false ∧ ((y.toNat : Int) == 10) = false ∧ ((y.toNat : Int) == 13) = false ∧ bl = false) := by
          rw [hbl]
          unfold blankF
          generalize (y.toNat : Int) = yi
          by_cases h1 : yi = 32
          · left; subst h1; exact ⟨rfl, rfl⟩
          have h1b : (yi == 32) = false := by simpa using h1
          by_cases h2 : yi = 9
          · right; left; subst h2; exact ⟨rfl, rfl, rfl⟩
          have h2b : (yi == 9) = false := by simpa using h2
          by_cases h3 : yi = 10
          · right; right; left; subst h3; exact ⟨rfl, rfl, rfl, rfl⟩
          have h3b : (yi == 10) = false := by simpa using h3
          by_cases h4 : yi = 13
          · right; right; right; left; subst h4; exact ⟨rfl, rfl, rfl, rfl, rfl⟩
          have h4b : (yi == 13) = false := by simpa using h4
          right; right; right; right
          exact ⟨h1b, h2b, h3b, h4b, by rw [h1b, h2b, h3b, h4b]; rfl⟩
        clear hbl
        go_upto_region 4 with (fail)
        go_cut [39] (fun s39 wz => s39 = .bool bl ∧ w1 = wz)
        case first =>
          generalize (y.toNat : Int) = yi at *
          rcases hb5 with ⟨rfl, rfl⟩ | ⟨t1, rfl, rfl⟩ | ⟨t1, t2, rfl, rfl⟩ | ⟨t1, t2, t3, rfl, rfl⟩ | ⟨t1, t2, t3, t4, rfl⟩
          all_goals
            go_wp2
            go_meet
            case rel => exact ⟨rfl, rfl⟩
        case rest =>
          obtain ⟨rfl, rfl⟩ := hcut
          clear hb5
          cases bl with
          | true =>
            have hS2 : Hid (sk = skipF p g (a' + 1)) := by
              show _ = _
              rw [hS.out, skip_step p g a' 1 hap (by omega) (by rw [HDR.out, ← HY.out]; exact blank_gap y _ HBLK.out.symm)]
            clear hS
            go_wp2
            go_roundg g
            case measure => omega
            case rel => exact ⟨a' + 1, by go_num, by omega, by omega, by omega, rfl, hS2⟩
          | false =>
            have hGD : ∀ i (hi : i < p.length), p.getD i 0 = p[i] := fun i hi => by rw [List.getD_eq_getElem?_getD, List.getElem?_eq_getElem hi]; rfl
            have HGD := Lib.hid hGD
            clear hGD
            by_cases hcm : (y.toNat : Int) = 47 ∧ a' + 1 < n ∧ (p.getD (a' + 1) 0 = 47 ∨ p.getD (a' + 1) 0 = 42)
            · obtain ⟨h47, h1n, hz⟩ := hcm
              have hap1 : a' + 1 < p.length := by rw [HL.out]; exact h1n
              have hd1 : p.drop (a' + 1) = p[a' + 1] :: p.drop (a' + 2) := List.drop_eq_getElem_cons hap1
              rw [HGD.out _ hap1] at hz
              have e1 := HC.out (a' + 1) hap1
              have hy47 : y = 47 := UInt8.toNat_inj.1 (by show y.toNat = 47; omega)
              have hai1 : (a' : Int) + 1 < (n : Int) := by omega
              have hac1 : a' + 1 < c := by omega
              have hfull : p.drop a' = 47 :: p[a' + 1] :: p.drop (a' + 2) := by rw [HDR.out, hd1, ← HY.out, hy47]
              rw [hy47] at e0
              have e0 : w1.cell? ⟨b, o + a', none⟩ = some (.int .u8 47) := e0
              clear h47 hy47 HBLK HY HDR hd1
              rcases hz with hz | hz
              · as_aux_lemma =>
                rw [hz] at e1 hfull
                have e1 : w1.cell? ⟨b, o + (a' + 1), none⟩ = some (.int .u8 47) := e1
                have hS2 : Hid (sk = skipF p g (a' + 2 + cntW ne10 (p.drop (a' + 2)))) := by
                  show _ = _
                  rw [hS.out, skip_step p g a' (2 + cntW ne10 (p.drop (a' + 2))) hap (by omega) (by rw [hfull]; exact gap_line _), Nat.add_assoc]
                have hcl := cntW_le ne10 (p.drop (a' + 2))
                rw [List.length_drop, HL.out] at hcl
                obtain ⟨q, hq⟩ : ∃ q, q = cntW ne10 (p.drop (a' + 2)) := ⟨_, rfl⟩
                have HQ0 : Hid (q = (a' + 2 - (a' + 2)) + cntW ne10 (p.drop (a' + 2))) := by show _ = _; omega
                rw [← hq] at hS2 hcl
                clear hS hq hfull hz
                go_wp2_with fail
                go_loopg [6] (n + 1) (fun k s6 wz => ∃ e : Nat, s6 = .int .i64 (e : Int) ∧ a' + 2 ≤ e ∧ e ≤ n ∧ n - e < k ∧ w1 = wz ∧ Hid (q = (e - (a' + 2)) + cntW ne10 (p.drop e)))
                case atStart => exact ⟨a' + 2, by go_num, Nat.le_refl _, by omega, by omega, rfl, HQ0⟩
                case round =>
                  clear HQ0 e0 e1
                  obtain ⟨e, rfl, hae, hen, hk3, rfl, hq⟩ := hrel
                  obtain ⟨h', rfl⟩ : ∃ x, gk = x + 1 := ⟨gk - 1, by omega⟩
                  by_cases helt : e < n
                  · have hep : e < p.length := by rw [HL.out]; exact helt
                    have hei : (e : Int) < (n : Int) := by omega
                    have hec : e < c := by omega
                    have e2 := HC.out e hep
                    have hq2 := hq.out
                    rw [List.drop_eq_getElem_cons hep, cntW] at hq2
                    by_cases h10 : p[e] = 10
                    · rw [h10] at e2
                      rw [if_neg (by rw [h10]; decide)] at hq2
                      have e2 : w1.cell? ⟨b, o + e, none⟩ = some (.int .u8 10) := e2
                      have hee : a' + 2 + q = e := by omega
                      rw [hee] at hS2
                      clear hq hq2 h10 hee
                      go_wp2
                      go_roundg g
                      case measure => omega
                      case rel => exact ⟨e, rfl, by omega, by omega, by omega, rfl, hS2⟩
                    · have hne : ((p[e].toNat : Int) != 10) = true := by
                        have : p[e].toNat ≠ 10 := fun h => h10 (UInt8.toNat_inj.1 h)
                        simp [bne]; omega
                      rw [if_pos (by simp [ne10, bne, h10])] at hq2
                      have hq3 : Hid (q = (e + 1 - (a' + 2)) + cntW ne10 (p.drop (e + 1))) := by show _ = _; omega
                      clear hq hq2 h10
                      generalize (p[e].toNat : Int) = ye at *
                      go_wp2
                      go_roundg h'
                      case measure => omega
                      case rel => exact ⟨e + 1, by go_num, by omega, by omega, by omega, rfl, hq3⟩
                  · obtain rfl : e = n := by omega
                    have hq2 := hq.out
                    rw [List.drop_of_length_le (by rw [HL.out]; exact Nat.le_refl _)] at hq2
                    have hee : a' + 2 + q = e := by simp [cntW] at hq2; omega
                    rw [hee] at hS2
                    clear hq hq2 hee
                    go_wp2
                    go_roundg g
                    case measure => omega
                    case rel => exact ⟨e, rfl, by omega, by omega, by omega, rfl, hS2⟩
              · as_aux_lemma =>
                rw [hz] at e1 hfull
                have e1 : w1.cell? ⟨b, o + (a' + 1), none⟩ = some (.int .u8 42) := e1
                obtain ⟨bk, hbk⟩ : ∃ bk, bk = blkF (p.drop (a' + 2)) := ⟨_, rfl⟩
                have HSt : Hid (bk.2 = true → sk = skipF p g (a' + 2 + bk.1 + 2)) := fun h => by
                  rw [hS.out, skip_step p g a' (2 + bk.1 + 2) hap (by omega) (by rw [hfull, gap_block, ← hbk, h]; simp), show a' + (2 + bk.1 + 2) = a' + 2 + bk.1 + 2 from by omega]
                have HSf : Hid (bk.2 = false → sk = (a', false)) := fun h => by
                  rw [hS.out, skip_open p g a' hap (by rw [hfull, gap_block, ← hbk, h])]
                have HQ0 : Hid (bk = ((a' + 2 - (a' + 2)) + (blkF (p.drop (a' + 2))).1, (blkF (p.drop (a' + 2))).2)) := by show _ = _; rw [← hbk]; simp
                clear hS hbk hfull hz
                go_wp2_with fail
                go_loopg [6] (n + 1) (fun k s6 wz => ∃ e : Nat, s6 = .int .i64 (e : Int) ∧ a' + 2 ≤ e ∧ e ≤ n ∧ n - e < k ∧ w1 = wz ∧ Hid (bk = ((e - (a' + 2)) + (blkF (p.drop e)).1, (blkF (p.drop e)).2)))
                case atStart => exact ⟨a' + 2, by go_num, Nat.le_refl _, by omega, by omega, rfl, HQ0⟩
                case round =>
                  clear HQ0 e0 e1
                  obtain ⟨e, rfl, hae, hen, hk3, rfl, hq⟩ := hrel
                  obtain ⟨h', rfl⟩ : ∃ x, gk = x + 1 := ⟨gk - 1, by omega⟩
                  by_cases h2 : e + 1 < n
                  · have hep : e < p.length := by rw [HL.out]; omega
                    have hep1 : e + 1 < p.length := by rw [HL.out]; exact h2
                    have hei : (e : Int) + 1 < (n : Int) := by omega
                    have hec : e < c := by omega
                    have hec1 : e + 1 < c := by omega
                    have helt : e < n := by omega
                    have e2 := HC.out e hep
                    have e3 := HC.out (e + 1) hep1
                    have hq2 := hq.out
                    have hd2 : p.drop e = p[e] :: p[e + 1] :: p.drop (e + 2) := by rw [List.drop_eq_getElem_cons hep, List.drop_eq_getElem_cons hep1]
                    have hd3 : p.drop (e + 1) = p[e + 1] :: p.drop (e + 2) := by rw [List.drop_eq_getElem_cons hep1]
                    rw [hd2, blkF] at hq2
                    by_cases hse : p[e] = 42 ∧ p[e + 1] = 47
                    · rw [if_pos hse] at hq2
                      rw [hse.1] at e2
                      rw [hse.2] at e3
                      have e2 : w1.cell? ⟨b, o + e, none⟩ = some (.int .u8 42) := e2
                      have e3 : w1.cell? ⟨b, o + (e + 1), none⟩ = some (.int .u8 47) := e3
                      have hS2 := HSt.out (by rw [hq2])
                      have hb1 : bk.1 = e - (a' + 2) := by rw [hq2]; simp
                      rw [hb1, show a' + 2 + (e - (a' + 2)) + 2 = e + 2 from by omega] at hS2
                      have HS2 : Hid (sk = skipF p g (e + 2)) := hS2
                      clear hq hq2 hse hd2 hd3 hS2 HSt HSf hb1
                      go_wp2
                      go_roundg g
                      case measure => omega
                      case rel => exact ⟨e + 2, by go_num, by omega, by omega, by omega, rfl, HS2⟩
                    · rw [if_neg hse] at hq2
                      have hq3 : Hid (bk = ((e + 1 - (a' + 2)) + (blkF (p.drop (e + 1))).1, (blkF (p.drop (e + 1))).2)) := by
                        show _ = _
                        rw [hd3, hq2]
                        congr 1
                        omega
                      have hse2 : ((p[e].toNat : Int) != 42) = true ∨ ((p[e].toNat : Int) = 42 ∧ ((p[e + 1].toNat : Int) != 47) = true) := by
                        by_cases h4 : p[e] = 42
                        · right
                          have h5 : p[e + 1].toNat ≠ 47 := fun h => hse ⟨h4, UInt8.toNat_inj.1 h⟩
                          refine ⟨by rw [h4]; rfl, by simp [bne]; omega⟩
                        · left
                          have h5 : p[e].toNat ≠ 42 := fun h => h4 (UInt8.toNat_inj.1 h)
                          simp [bne]; omega
                      clear hq hq2 hse hd2 hd3
                      generalize (p[e].toNat : Int) = ye at *
                      generalize (p[e + 1].toNat : Int) = ye1 at *
                      rcases hse2 with h6 | ⟨rfl, h6⟩
                      all_goals
                        go_wp2
                        go_roundg h'
                        case measure => omega
                        case rel => exact ⟨e + 1, by go_num, by omega, by omega, by omega, rfl, hq3⟩
                  · have hb0 : blkF (p.drop e) = (0, false) := by
                      rcases (show e = n ∨ e + 1 = n by omega) with h3 | h3
                      · rw [List.drop_of_length_le (by rw [HL.out]; omega)]; rfl
                      · rw [List.drop_eq_getElem_cons (by rw [HL.out]; omega), List.drop_of_length_le (by rw [HL.out]; omega)]; rfl
                    have hq2 := hq.out
                    rw [hb0] at hq2
                    have hS2 := HSf.out (by rw [hq2])
                    have hvv := HE.out
                    rw [hS2, if_pos rfl] at hvv
                    have hei : ¬ (e : Int) + 1 < (n : Int) := by omega
                    have HVV := Lib.hid hvv
                    clear hq hq2 hb0 hS2 hvv HE HSt HSf
                    go_wp2
                    go_ret2
                    refine ⟨m, A4, c4, ?_, ?_, ?_, hBl.out⟩
                    · rw [HVV.out]; exact hm.out
                    · rw [HVV.out]; rfl
                    · rw [HVV.out]; exact hO.out
            · as_aux_lemma =>
              have hgap : gapF (p.drop a') = (0, true) := by
                rw [HDR.out, ← HY.out]
                refine gap_none y _ HBLK.out.symm (fun z l h47 hr => ?_)
                have hlen : a' + 1 < p.length := by
                  have := congrArg List.length hr
                  simp only [List.length_drop, List.length_cons] at this
                  omega
                have hz : p[a' + 1] = z := by
                  have h4 := List.drop_eq_getElem_cons hlen
                  rw [hr] at h4
                  injection h4 with h5 h6
                  exact h5.symm
                refine ⟨fun h => hcm ⟨by rw [h47]; rfl, by rw [← HL.out]; exact hlen, .inl (by rw [HGD.out _ hlen, hz, h])⟩, fun h => hcm ⟨by rw [h47]; rfl, by rw [← HL.out]; exact hlen, .inr (by rw [HGD.out _ hlen, hz, h])⟩⟩
              have hsk : sk = (a', true) := by rw [hS.out, skip_stop p g a' hap hgap]
              have hvv := HE.out
              rw [hsk, if_neg (by simp), if_neg (show ¬ a' = n by omega)] at hvv
              have hcm3 : ((y.toNat : Int) != 47) = true ∨ ((y.toNat : Int) = 47 ∧ ¬ (a' : Int) + 1 < (n : Int)) ∨ ((y.toNat : Int) = 47 ∧ a' + 1 < n ∧ (a' : Int) + 1 < (n : Int) ∧ ∃ z : Int, w1.cell? ⟨b, o + (a' + 1), none⟩ = some (.int .u8 z) ∧ (z != 47) = true ∧ (z != 42) = true) := by
                by_cases h47 : (y.toNat : Int) = 47
                · right
                  by_cases h1n : a' + 1 < n
                  · right
                    have hap1 : a' + 1 < p.length := by rw [HL.out]; exact h1n
                    refine ⟨h47, h1n, by omega, _, HC.out (a' + 1) hap1, ?_, ?_⟩
                    · have : p[a' + 1].toNat ≠ 47 := fun h => hcm ⟨h47, h1n, .inl (by rw [HGD.out _ hap1]; exact UInt8.toNat_inj.1 h)⟩
                      simp [bne]; omega
                    · have : p[a' + 1].toNat ≠ 42 := fun h => hcm ⟨h47, h1n, .inr (by rw [HGD.out _ hap1]; exact UInt8.toNat_inj.1 h)⟩
                      simp [bne]; omega
                  · left; exact ⟨h47, by omega⟩
                · left
                  have : y.toNat ≠ 47 := by omega
                  simp [bne]; omega
              have hOne := one_any (some ⟨b, o, none⟩) n c a' p w1 (H.out.old hBl.out) hc (by omega) hlt
              have hgt := readF_gt p a' hap
              have hle := readF_le p a' (by omega)
              obtain ⟨r, hr⟩ : ∃ r, r = readF p a' := ⟨_, rfl⟩
              rw [← hr] at hOne hgt hle hvv
              rw [HL.out] at hle
              have HONE := Lib.hid hOne
              have HVV := Lib.hid hvv
              clear hOne hvv hsk hgap hcm hS HE hr HBLK HY HDR
              go_upto_region 6 with (fail)
              go_cut [69] (fun s69 wz => s69 = .bool true ∧ w1 = wz)
              case first =>
                generalize (y.toNat : Int) = yi at *
                rcases hcm3 with h1 | ⟨rfl, h1⟩ | ⟨rfl, h1, h2, z, e1, h3, h4⟩
                · go_wp2
                  go_meet
                  case rel => exact ⟨rfl, rfl⟩
                · go_wp2
                  go_meet
                  case rel => exact ⟨rfl, rfl⟩
                · have hac1 : a' + 1 < c := by omega
                  go_wp2
                  go_meet
                  case rel => exact ⟨rfl, rfl⟩
              case rest =>
                obtain ⟨rfl, rfl⟩ := hcut
                clear hcm3 e0
                go_wp2_with fail
                refine HONE.out.mono ?_
                rintro e w3 ⟨rfl, hb3⟩
                have HB3 := Lib.hid (hBl.out.trans (hb3.mono hBl.out.size))
                have HO3 := Lib.hid (own_old hO.out hb3)
                clear hb3 HONE hBl hO
                obtain ⟨t, bd, ok⟩ := r
                dsimp only at hgt hle
                cases ok with
                | false =>
                  have hvv : v = (L, (bd : Int)) := by have := HVV.out; simpa using this
                  have HVV := Lib.hid hvv
                  clear hvv hgt hle
                  simp only [oneV, Tok.cells, Bool.false_eq_true, if_false, tok0]
                  have HBf := Lib.hid (HB3.out.alloc HB3.out.size (.cells #[.int .u8 0, .int .u8 0, .string (bs []), .int .i64 0] 34))
                  have HOf := Lib.hid (own_old HO3.out ((Below.refl w3.heap.size w3).alloc (Nat.le_refl _) (.cells #[.int .u8 0, .int .u8 0, .string (bs []), .int .i64 0] 34)))
                  go_wp2
                  go_ret2
                  refine ⟨m, A4, c4, ?_, ?_, ?_, HBf.out⟩
                  · rw [HVV.out]; exact hm.out
                  · rw [HVV.out]; rfl
                  · rw [HVV.out]; exact HOf.out
                | true =>
                  have hgt := hgt rfl
                  have hle := hle rfl
                  have hvv : v = toksF p f bd (L ++ [t]) := by have := HVV.out; simpa using this
                  obtain ⟨tk, tm, tt, ta⟩ := t
                  have HVV := Lib.hid hvv
                  clear hvv
                  have HBf := Lib.hid (HB3.out.alloc HB3.out.size (.cells #[.int .u8 (tk : Int), .int .u8 (tm.toNat : Int), .string (bs tt), .int .i64 (ta : Int)] 34))
                  have HOf := Lib.hid (own_old HO3.out ((Below.refl w3.heap.size w3).alloc (Nat.le_refl _) (.cells #[.int .u8 (tk : Int), .int .u8 (tm.toNat : Int), .string (bs tt), .int .i64 (ta : Int)] 34)))
                  obtain ⟨A5, c5, w5, hr5, hO5, hb5⟩ := pushT w.heap.size (w3.heap.size + 1) (.slice A4 m c4) m L ⟨tk, tm, tt, ta⟩ (w3.alloc (.cells #[.int .u8 (tk : Int), .int .u8 (tm.toNat : Int), .string (bs tt), .int .i64 (ta : Int)] 34)) (by simp) hm.out HOf.out (by omega) HBf.out.size
                  have HO5 := Lib.hid hO5
                  have HB5 := Lib.hid (HBf.out.trans hb5)
                  have HM5 : Hid (m + 1 = (L ++ [(⟨tk, tm, tt, ta⟩ : Tok)]).length) := by show _ = _; rw [hm.out]; simp
                  have hr5 : (Builtin.append_ #[26, 26] 26 #[.slice A4 m c4, .slice (some ⟨w3.heap.size + 1, 0, none⟩) 1 1]).run Try.prog ((w3.alloc (.cells #[.int .u8 (tk : Int), .int .u8 (tm.toNat : Int), .string (bs tt), .int .i64 (ta : Int)] 34)).alloc (.cells #[.int .u8 (tk : Int), .int .u8 (tm.toNat : Int), .string (bs tt), .int .i64 (ta : Int)] 34)) = _ := hr5
                  clear hO5 hb5 hm HO3 HB3 HBf HOf
                  generalize L ++ [(⟨tk, tm, tt, ta⟩ : Tok)] = L2 at *
                  simp only [oneV, Tok.cells, if_true]
                  generalize bs tt = S at *
                  go_wp2_with (at_builtin; refine Lib.wpList_append_run _ rfl _ _ 26 26 rfl _ _ rfl rfl _ _ hr5 ?_)
                  go_roundg f
                  case measure => omega
                  case rel => exact ⟨bd, m + 1, L2, A5, c5, rfl, rfl, by omega, by omega, by omega, HM5, HO5, HB5, HVV⟩

      · obtain rfl : a' = n := by omega
        have hs0 := hS.out
        have hse : skipF p (g + 1) a' = (a', true) := by rw [← HL.out]; exact skip_end p _
        rw [hse] at hs0
        have hvv := HE.out
        rw [hs0, if_neg (by simp), if_pos rfl] at hvv
        subst hvv
        obtain ⟨A5, c5, w5, hr5, hO5, hb5⟩ := pushT w.heap.size w1.heap.size (.slice A4 m c4) m L ⟨0, 0, [], a'⟩ w1 rfl hm.out hO.out (by omega) hBl.out.size
        have HO5 := Lib.hid hO5
        have HB5 := Lib.hid (hBl.out.trans hb5)
        have HM : Hid (m + 1 = (L ++ [(⟨0, 0, [], a'⟩ : Tok)]).length) := by show _ = _; rw [hm.out]; simp
        change (Builtin.append_ #[26, 26] 26 _).run Try.prog (w1.alloc (.cells #[.int .u8 0, .int .u8 0, .string ⟨#[]⟩, .int .i64 (a' : Int)] 34)) = _ at hr5
        clear hO5 hb5 hm hO hs0 hse hS HE
        go_wp2_with (at_builtin; refine Lib.wpList_append_run _ rfl _ _ 26 26 rfl _ _ rfl rfl _ _ hr5 ?_)
        go_ret2
        exact ⟨m + 1, A5, c5, HM.out, rfl, HO5.out, HB5.out⟩
end Go.Proofs.Ytgaedkaohjphaaa
