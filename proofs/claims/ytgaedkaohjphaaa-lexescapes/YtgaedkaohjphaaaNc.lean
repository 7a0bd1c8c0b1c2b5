/-
  Lex: the reference's Quote.
-/
import Derived.Test.YtgaedkaohjphaaaNa2
import Derived.Test.YtgaedkaohjphaaaNb2
import Derived.Deep.QuietTactic
import Derived.BigQuiet
namespace Go.Proofs.Ytgaedkaohjphaaa
open Go.RowKit
set_option linter.unusedVariables false
set_option linter.unusedSimpArgs false
set_option maxRecDepth 20000
theorem one_ext (p : List UInt8) (k : Nat) (h : k < p.length) : (bs p).extract ((k : Int).toNat) (((k : Int) + 1).toNat) = bs [p[k]] := by
  have e1 : ((k : Int)).toNat = k := by omega
  have e2 : ((k : Int) + 1).toNat = k + 1 := by omega
  rw [e1, e2]
  apply ByteArray.ext
  apply Array.ext'
  rw [ByteArray.data_extract]
  simp only [bs, Array.toList_extract, List.extract_eq_take_drop]
  rw [show k + 1 - k = 1 from by omega, List.drop_eq_getElem_cons h]
  rfl
theorem dig_ext : ∀ k : Nat, k < 16 → (⟨#[48, 49, 50, 51, 52, 53, 54, 55, 56, 57, 97, 98, 99, 100, 101, 102]⟩ : ByteArray).extract ((k : Int).toNat) (((k : Int) + 1).toNat) = bs [digs.getD k 0] := fun k hk => by
  rw [show (⟨#[48, 49, 50, 51, 52, 53, 54, 55, 56, 57, 97, 98, 99, 100, 101, 102]⟩ : ByteArray) = bs digs from rfl, one_ext digs k hk]
  rw [List.getD_eq_getElem?_getD, List.getElem?_eq_getElem hk]; rfl
theorem byte_beq (x y : UInt8) : (((x.toNat : Int)) == (y.toNat : Int)) = (x == y) := by
  by_cases hxy : x = y
  · rw [hxy, beq_self_eq_true, beq_self_eq_true]
  · have h1 : ((x.toNat : Int)) ≠ (y.toNat : Int) := fun e => hxy (UInt8.toNat_inj.1 (by omega))
    rw [beq_eq_false_iff_ne.2 h1, beq_eq_false_iff_ne.2 hxy]
set_option maxHeartbeats 4000000 in
theorem rquote_any (p : List UInt8) (w : World) (hn : p.length ≤ 1000) :
    Calls Try.prog 17 #[.string (bs p)] w fun e w' => e = .returned (.string (bs (qF p))) ∧ Below w.heap.size w w' := by
  have hB := bare16 p w (by omega)
  obtain ⟨v, hv⟩ : ∃ v, v = qF p := ⟨_, rfl⟩
  rw [← hv]
  obtain ⟨n, hnn⟩ : ∃ n, n = p.length := ⟨_, rfl⟩
  have H : Hid (p.length = n) := hnn.symm
  rw [← hnn] at hn
  unfold qF at hv
  by_cases hbr : isBareF p = true
  · rw [if_pos hbr] at hv
    subst hv
    rw [hbr] at hB
    generalize bs v = S at *
    go_enter Try.func17, Try.ntmps17
    go_wp2_with fail
    refine hB.mono ?_
    rintro e w2 ⟨rfl, rfl⟩
    go_wp2
    go_ret
    exact ⟨rfl, Below.refl _ _⟩
  · rw [if_neg hbr] at hv
    have hbr' : isBareF p = false := by simpa using hbr
    rw [hbr'] at hB
    obtain ⟨S, hS, hz, HZ⟩ : ∃ S : ByteArray, S = bs p ∧ S.size = n ∧ Hid (∀ (k : Nat) (h : k < p.length) (h' : k < S.size), ((S[k]'h').toNat : Int) = (p[k].toNat : Int)) := ⟨bs p, rfl, by rw [hnn]; simp [bs, ByteArray.size], fun k h h' => rfl⟩
    rw [← hS] at hB ⊢
    have HV := Lib.hid hv
    have HS := Lib.hid hS
    clear hS hnn hbr hbr' hv
    go_enter Try.func17, Try.ntmps17
    go_wp2_with fail
    refine hB.mono ?_
    rintro e w2 ⟨rfl, rfl⟩
    go_wp2_with fail
    go_loopw [3, 4] (fun s3 s4 wr => ∃ (k m : Nat) (T : ByteArray), k ≤ n ∧ m ≤ 1 + 4 * k ∧ s4 = .int .i64 (k : Int) ∧ s3 = .string T ∧ T.size = m ∧ Hid (T = bs ([34] ++ (p.take k).flatMap qbyte)) ∧ Hid (Below w.heap.size w wr)) (fun _ s4 _ => n - (intOf s4).toNat)
    case atStart => exact ⟨0, 1, _, Nat.zero_le _, by omega, rfl, rfl, rfl, rfl, Below.refl _ _⟩
    case round =>
      clear hB
      obtain ⟨k, m, T, hk, hmk, rfl, rfl, hsz, hT, hBl⟩ := hrel
      by_cases hlt : k < n
      · have hkl : k < p.length := by rw [H.out]; exact hlt
        have h1 : (k : Int) < (n : Int) := by omega
        have HZk : Hid (∀ h' : k < S.size, ((S[k]'h').toNat : Int) = (p[k].toNat : Int)) := fun h' => HZ.out k hkl h'
        obtain ⟨B1, hB1⟩ : ∃ B1, B1 = bs [p[k]] := ⟨_, rfl⟩
        have hsr : ∀ W : World, (Instr.slice 9 (.string S) (some (.int .i64 (k : Int))) (some (.int .i64 ((k : Int) + 1))) none).run Try.prog W = .ok (.string B1) W := fun W => by
          rw [run_slice_string (P := Try.prog) W 9 S .i64 .i64 k ((k : Int) + 1) Try.underlying9 (by omega) (by omega) (by rw [hz]; omega), hB1, HS.out]
          congr 2
          exact one_ext p k hkl
        have z1 : B1.size = 1 := by rw [hB1]; rfl
        have hfs := flat_snoc p k hkl
        obtain ⟨q, hq⟩ : ∃ q, q = qbyte p[k] := ⟨_, rfl⟩
        have hql := qbyte_len p[k]
        have HN : ∀ U : ByteArray, U = bs q → Hid (T ++ U = bs ([34] ++ (p.take (k + 1)).flatMap qbyte)) ∧ (T ++ U).size = m + q.length := fun U hU => by
          refine ⟨?_, ?_⟩
          · show _ = _
            rw [hfs, hT.out, hU, hq]; apply ByteArray.ext; simp [bs]
          · rw [ByteArray.size_append, hsz, hU]; rfl
        rw [← hq] at hql
        unfold qbyte at hq
        have hx256 := p[k].toNat_lt
        clear hfs hT
        by_cases he : escF (p[k].toNat : Int) = true
        · rw [if_pos he] at hq
          have y2 : ((⟨#[92]⟩ : ByteArray) ++ B1).size = 2 := by rw [hB1]; rfl
          obtain ⟨HN1, hN2⟩ := HN ((⟨#[92]⟩ : ByteArray) ++ B1) (by rw [hq, hB1]; apply ByteArray.ext; simp [bs])
          have hN3 : (T ++ ((⟨#[92]⟩ : ByteArray) ++ B1)).size = m + 2 := by rw [hN2, hq]; rfl
          have he2 : (p[k].toNat : Int) = 34 ∨ (p[k].toNat : Int) = 92 := by
            simpa [escF] using he
          clear HN hN2 he hx256 hq hql hB1
          generalize (p[k].toNat : Int) = x at *
          have hzk := HZk.out
          clear HZk
          rcases he2 with rfl | rfl
          all_goals
            go_wp2
            go_roundw
            case rel => exact ⟨k + 1, m + 2, _, by omega, by omega, by go_num, rfl, hN3, HN1, hBl⟩
            case measure => simp [intOf]; omega
        · rw [if_neg he] at hq
          have he2 : ((p[k].toNat : Int) == 34) = false ∧ ((p[k].toNat : Int) == 92) = false := by
            simpa [escF] using he
          obtain ⟨x34, x92⟩ := he2
          by_cases hs : seenF (p[k].toNat : Int) = true
          · rw [if_pos hs] at hq
            have hb2 : 32 ≤ (p[k].toNat : Int) ∧ (p[k].toNat : Int) ≤ 126 := by simpa [seenF] using hs
            obtain ⟨hb2, hb3⟩ := hb2
            obtain ⟨HN1, hN2⟩ := HN B1 (by rw [hq, hB1])
            have hN3 : (T ++ B1).size = m + 1 := by rw [hN2, hq]; rfl
            clear HN hN2 hs he hx256 hq hql hB1
            generalize (p[k].toNat : Int) = x at *
            have hzk := HZk.out
            clear HZk
            go_wp2
            go_roundw
            case rel => exact ⟨k + 1, m + 1, _, by omega, by omega, by go_num, rfl, hN3, HN1, hBl⟩
            case measure => simp [intOf]; omega
          · rw [if_neg hs] at hq
            obtain ⟨k1, hk1⟩ : ∃ j : Nat, j = p[k].toNat / 16 := ⟨_, rfl⟩
            obtain ⟨k2, hk2⟩ : ∃ j : Nat, j = p[k].toNat % 16 := ⟨_, rfl⟩
            rw [← hk1, ← hk2] at hq
            have hk1l : k1 < 16 := by omega
            have hk2l : k2 < 16 := by omega
            have hd1 : (p[k].toNat : Int).tdiv 16 = (k1 : Int) := by rw [Int.tdiv_eq_ediv_of_nonneg (by omega)]; omega
            have hd2 : (p[k].toNat : Int).tmod 16 = (k2 : Int) := by rw [Int.tmod_eq_emod_of_nonneg (by omega)]; omega
            have hd3 : (p[k].toNat : Int) / 16 = (k1 : Int) := by omega
            have hd4 : (p[k].toNat : Int) % 16 = (k2 : Int) := by omega
            have hw1 : IntKind.u8.wrap (k1 : Int) = (k1 : Int) := by simp [IntKind.wrap, IntKind.signed, IntKind.bits]; omega
            obtain ⟨D1, hD1⟩ : ∃ D, D = bs [digs.getD k1 0] := ⟨_, rfl⟩
            obtain ⟨D2, hD2⟩ : ∃ D, D = bs [digs.getD k2 0] := ⟨_, rfl⟩
            have hsr1 : ∀ W : World, (Instr.slice 9 (.string ⟨#[48, 49, 50, 51, 52, 53, 54, 55, 56, 57, 97, 98, 99, 100, 101, 102]⟩) (some (.int .u8 (k1 : Int))) (some (.int .u8 ((k1 : Int) + 1))) none).run Try.prog W = .ok (.string D1) W := fun W => by
              rw [run_slice_string (P := Try.prog) W 9 _ .u8 .u8 k1 ((k1 : Int) + 1) Try.underlying9 (by omega) (by omega) (by show (k1 : Int) + 1 ≤ 16; omega), hD1]
              congr 2
              exact dig_ext k1 hk1l
            have hsr2 : ∀ W : World, (Instr.slice 9 (.string ⟨#[48, 49, 50, 51, 52, 53, 54, 55, 56, 57, 97, 98, 99, 100, 101, 102]⟩) (some (.int .u8 (k2 : Int))) (some (.int .u8 ((k2 : Int) + 1))) none).run Try.prog W = .ok (.string D2) W := fun W => by
              rw [run_slice_string (P := Try.prog) W 9 _ .u8 .u8 k2 ((k2 : Int) + 1) Try.underlying9 (by omega) (by omega) (by show (k2 : Int) + 1 ≤ 16; omega), hD2]
              congr 2
              exact dig_ext k2 hk2l
            have y1 : D1.size = 1 := by rw [hD1]; rfl
            have y2 : D2.size = 1 := by rw [hD2]; rfl
            have y3 : ((⟨#[92, 120]⟩ : ByteArray) ++ D1).size = 3 := by rw [hD1]; rfl
            have y4 : ((⟨#[92, 120]⟩ : ByteArray) ++ D1 ++ D2).size = 4 := by rw [hD1, hD2]; rfl
            obtain ⟨HN1, hN2⟩ := HN ((⟨#[92, 120]⟩ : ByteArray) ++ D1 ++ D2) (by rw [hq, hD1, hD2]; apply ByteArray.ext; simp [bs])
            have hN3 : (T ++ ((⟨#[92, 120]⟩ : ByteArray) ++ D1 ++ D2)).size = m + 4 := by rw [hN2, hq]; rfl
            have hb2 : (p[k].toNat : Int) < 32 ∨ 126 < (p[k].toNat : Int) := by
              have h := hs
              simp only [seenF, Bool.and_eq_true, decide_eq_true_eq] at h
              omega
            clear HN hN2 hs he hx256 hq hql hB1 hD1 hD2 hk1 hk2
            generalize (p[k].toNat : Int) = x at *
            have hzk := HZk.out
            clear HZk hsr z1
            rcases hb2 with hb2 | hb2
            all_goals
              go_upto_region 12 with (fail)
              go_quiet (fail)
              have HBn := Lib.hid (hBl.out.trans (below_dn w.heap.size wr nq))
              generalize wr.drewN nq = wz at *
              go_wp2
              go_roundw
              case rel => exact ⟨k + 1, m + 4, _, by omega, by omega, by go_num, rfl, hN3, HN1, HBn⟩
              case measure => simp [intOf]; omega
      · obtain rfl : k = n := by omega
        have hT2 := hT.out
        rw [List.take_of_length_le (by rw [H.out]; exact Nat.le_refl _)] at hT2
        have HT2 : Hid (T ++ ⟨#[34]⟩ = bs v) := by
          show _ = _
          rw [hT2, HV.out, show (⟨#[34]⟩ : ByteArray) = bs [34] from rfl]
          apply ByteArray.ext; simp [bs]
        clear hT hT2 HV
        go_wp2
        go_ret
        exact ⟨by rw [← HT2.out]; rfl, hBl.out⟩
end Go.Proofs.Ytgaedkaohjphaaa
