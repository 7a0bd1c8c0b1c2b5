/-
  Lex: Quote.
-/
import Derived.Test.YtgaedkaohjphaaaNb
namespace Go.Proofs.Ytgaedkaohjphaaa
open Go.RowKit
set_option linter.unusedVariables false
set_option linter.unusedSimpArgs false
set_option maxRecDepth 20000
theorem flat_snoc (p : List UInt8) (k : Nat) (h : k < p.length) : (p.take (k + 1)).flatMap qbyte = (p.take k).flatMap qbyte ++ qbyte p[k] := by
  rw [List.take_succ_eq_append_getElem h, List.flatMap_append]
  simp
theorem flat_len : ∀ p : List UInt8, p.length ≤ (p.flatMap qbyte).length ∧ (p.flatMap qbyte).length ≤ 4 * p.length
  | [] => by simp
  | x :: l => by
    have h1 := flat_len l
    have h2 := qbyte_len x
    simp only [List.flatMap_cons, List.length_append, List.length_cons]
    omega
set_option maxHeartbeats 4000000 in
theorem quote_any (p : List UInt8) (w : World) (hn : p.length ≤ 1000) :
    Calls Try.prog 14 #[.string (bs p)] w fun e w' => e = .returned (.string (bs (qF p))) ∧ Below w.heap.size w w' := by
  have hB := bare15 p w (by omega)
  obtain ⟨v, hv⟩ : ∃ v, v = qF p := ⟨_, rfl⟩
  rw [← hv]
  obtain ⟨n, hnn⟩ : ∃ n, n = p.length := ⟨_, rfl⟩
  have H : Hid (p.length = n) := hnn.symm
  rw [← hnn] at hn
  unfold qF at hv
  by_cases hbr : isBareF p = true
  · rw [if_pos hbr] at hv
    subst hv
    rw [hbr] at hB
    generalize bs v = S at *
    go_enter Try.func14, Try.ntmps14
    go_wp2_with fail
    refine hB.mono ?_
    rintro e w2 ⟨rfl, rfl⟩
    go_wp2
    go_ret
    exact ⟨rfl, Below.refl _ _⟩
  · rw [if_neg hbr] at hv
    have hbr' : isBareF p = false := by simpa using hbr
    rw [hbr'] at hB
    obtain ⟨S, hS, hz, HZ⟩ : ∃ S : ByteArray, S = bs p ∧ S.size = n ∧ Hid (∀ (k : Nat) (h : k < p.length) (h' : k < S.size), ((S[k]'h').toNat : Int) = (p[k].toNat : Int)) := ⟨bs p, rfl, by rw [hnn]; simp [bs, ByteArray.size], fun k h h' => rfl⟩
    rw [← hS] at hB ⊢
    have HV := Lib.hid hv
    have hO := World.ownsRow_lit (base := w.heap.size) (e := 5) (size := 1) w #[.int .u8 34] 1 (Nat.le_refl _) (by decide) rfl
    have HO : Hid ((w.alloc (.cells #[.int .u8 34] 5)).ownsRow w.heap.size 5 1 (.slice (some ⟨w.heap.size, 0, none⟩) 1 1) 1 (bytesV [34])) := hO
    clear hS hnn hbr hbr' hv hO
    go_enter Try.func14, Try.ntmps14
    go_wp2_with fail
    refine hB.mono ?_
    rintro e w2 ⟨rfl, rfl⟩
    go_wp2_with fail
    go_loopw [3, 11] (fun s3 s11 wr => ∃ (k m : Nat) (A : Option Addr) (c : Nat), k ≤ n ∧ m ≤ 1 + 4 * k ∧ s11 = .int .i64 (k : Int) ∧ s3 = .slice A m c ∧ Hid (m = ([34] ++ (p.take k).flatMap qbyte).length) ∧ Hid (wr.ownsRow w.heap.size 5 1 (.slice A m c) m (bytesV ([34] ++ (p.take k).flatMap qbyte))) ∧ Hid (Below w.heap.size w wr)) (fun _ s11 _ => n - (intOf s11).toNat)
    case atStart => exact ⟨0, 1, _, _, Nat.zero_le _, by omega, rfl, rfl, rfl, HO, (Below.refl _ _).alloc (Nat.le_refl _) _⟩
    case round =>
      clear HO hB
      obtain ⟨k, m, A, c, hk, hmk, rfl, rfl, hm, hO, hBl⟩ := hrel
      by_cases hlt : k < n
      · have hkl : k < p.length := by rw [H.out]; exact hlt
        have h1 : (k : Int) < (n : Int) := by omega
        have HZk : Hid (∀ h' : k < S.size, ((S[k]'h').toNat : Int) = (p[k].toNat : Int)) := fun h' => HZ.out k hkl h'
        have hP := put_any w.heap.size A m c _ p[k] wr hm.out hO.out (by omega) hBl.out.size
        have hq := qbyte_len p[k]
        have hfs := flat_snoc p k hkl
        rw [List.append_assoc, ← hfs] at hP
        have HP := Lib.hid hP
        have HM : Hid (m + (qbyte p[k]).length = ([34] ++ (p.take (k + 1)).flatMap qbyte).length) := by
          show _ = _
          rw [hfs, ← List.append_assoc, List.length_append, ← hm.out]
        clear hP hfs
        generalize hmq : m + (qbyte p[k]).length = m2 at *
        have hm2 : m2 ≤ 1 + 4 * (k + 1) := by omega
        clear hmq hq hm hO
        generalize (p[k].toNat : Int) = x at *
        go_wp2_with fail
        simp only [HZk.out]
        refine HP.out.mono ?_
        rintro e w2 ⟨A2, c2, rfl, hO2, hb2⟩
        have HO2 := Lib.hid hO2
        have HB2 := Lib.hid (hBl.out.trans hb2)
        clear HP hO2 hb2 HZk
        go_wp2
        go_roundw
        case rel => exact ⟨k + 1, m2, A2, c2, by omega, hm2, by go_num, rfl, HM, HO2, HB2⟩
        case measure => simp [intOf]; omega
      · obtain rfl : k = n := by omega
        have hO2 := hO.out
        have hm2 := hm.out
        rw [List.take_of_length_le (by rw [H.out]; exact Nat.le_refl _)] at hO2 hm2
        obtain ⟨A5, c5, w5, hr5, hO5, hb5⟩ := pushL w.heap.size (.slice A m c) m 1 _ [34] wr hm2 rfl hO2 (by omega) (by omega) (by omega) hBl.out.size #[.int .u8 34] rfl
        have hr6 := own_str hO5
        rw [← HV.out] at hr6
        have HB5 := Lib.hid (hBl.out.trans hb5)
        clear hO hm hO2 hm2 hO5 HV hBl hb5
        go_wp2_with (at_builtin; refine Lib.wpList_append_run _ rfl _ _ 22 22 rfl _ _ rfl rfl _ _ hr5 ?_)
        go_ret
        exact ⟨rfl, HB5.out⟩
end Go.Proofs.Ytgaedkaohjphaaa
