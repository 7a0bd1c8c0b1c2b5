/-
  Lex: what is bare, in the reference.
-/
import Derived.Test.YtgaedkaohjphaaaNa
namespace Go.Proofs.Ytgaedkaohjphaaa
open Go.RowKit
set_option linter.unusedVariables false
set_option linter.unusedSimpArgs false
set_option maxRecDepth 20000
set_option maxHeartbeats 4000000 in
theorem bare16 (p : List UInt8) (w : World) (hn : p.length ≤ 1000000000) :
    Calls Try.prog 16 #[.string (bs p)] w fun e w' => e = .returned (.bool (isBareF p)) ∧ w = w' := by
  cases p with
  | nil =>
    rw [show bs [] = ⟨#[]⟩ from rfl] at *
    go_enter Try.func16, Try.ntmps16
    go_wp2
    go_ret
    exact ⟨rfl, rfl⟩
  | cons x l =>
    obtain ⟨p, hp⟩ : ∃ p, p = x :: l := ⟨_, rfl⟩
    obtain ⟨v, hv⟩ : ∃ v, v = isBareF (x :: l) := ⟨_, rfl⟩
    rw [← hv]
    rw [isBareF] at hv
    rw [← hp] at hn ⊢
    obtain ⟨n, hnn⟩ : ∃ n, n = p.length := ⟨_, rfl⟩
    have H : Hid (p.length = n) := hnn.symm
    have hn1 : 1 ≤ n := by rw [hnn, hp]; simp
    obtain ⟨S, hS, hz, HZ⟩ : ∃ S : ByteArray, S = bs p ∧ S.size = n ∧ Hid (∀ (k : Nat) (h : k < p.length) (h' : k < S.size), ((S[k]'h').toNat : Int) = (p[k].toNat : Int)) := ⟨bs p, rfl, by rw [hnn]; simp [bs, ByteArray.size], fun k h h' => rfl⟩
    have hne : ¬ S.toList = [] := by rw [hS, ByteArray.toList_eq, hp]; simp [bs]
    have hemp : S.toList.isEmpty = false := by simpa using hne
    rw [← hS]
    rw [← hnn] at hn
    have hx0 : ∀ h' : 0 < S.size, ((S[0]'h').toNat : Int) = (x.toNat : Int) := fun h' => by
      rw [HZ.out 0 (by rw [H.out]; omega) h']; subst hp; rfl
    have hL := letter_any (x.toNat : Int) w
    rw [letter_starts] at hL
    have hsx : startB x = startsF (x.toNat : Int) := rfl
    rw [hsx] at hv
    have hi0 : (0 : Int) < (n : Int) := by omega
    have HD : Hid (p.drop 1 = l) := by show _ = _; rw [hp]; rfl
    clear hS hnn hp
    generalize (x.toNat : Int) = xi at *
    generalize startsF xi = sv at *
    have HX := Lib.hid hx0
    have HV := Lib.hid hv
    clear hx0 hv hsx
    go_enter Try.func16, Try.ntmps16
    go_wp2_with fail
    simp only [HX.out]
    refine hL.mono ?_
    rintro e w2 ⟨rfl, rfl⟩
    clear hL
    cases sv with
    | false =>
      have hv2 := HV.out
      simp only [Bool.false_and] at hv2
      subst hv2
      clear HV
      go_wp2
      go_ret
      exact ⟨rfl, rfl⟩
    | true =>
      have HV1 : Hid (v = (p.drop 1).all nameB) := by show _ = _; rw [HV.out, HD.out]; rfl
      clear HV HX HD hi0
      go_wp2_with fail
      go_loopw [3] (fun s3 wr => ∃ k : Nat, k ≤ n ∧ s3 = .int .i64 (k : Int) ∧ w = wr ∧ Hid (v = (p.drop k).all nameB)) (fun s3 _ => n - (intOf s3).toNat)
      case atStart => exact ⟨1, hn1, rfl, rfl, HV1⟩
      case round =>
        clear HV1
        obtain ⟨k, hk, rfl, rfl, hE⟩ := hrel
        by_cases hlt : k < n
        · have hkl : k < p.length := by rw [H.out]; exact hlt
          have h1 : (k : Int) < (n : Int) := by omega
          have hE2 := hE.out
          rw [List.drop_eq_getElem_cons hkl, List.all_cons] at hE2
          have hnb : nameB p[k] = (startsF (p[k].toNat : Int) || (digitF (p[k].toNat : Int) || (p[k].toNat : Int) == 46)) := rfl
          rw [hnb] at hE2
          have HZk : Hid (∀ h' : k < S.size, ((S[k]'h').toNat : Int) = (p[k].toNat : Int)) := fun h' => HZ.out k hkl h'
          have hL := letter_any (p[k].toNat : Int) w
          rw [letter_starts] at hL
          have hD := digit_any (p[k].toNat : Int) w
          clear hnb hE
          obtain ⟨d46, hd46⟩ : ∃ d : Bool, d = ((p[k].toNat : Int) == 46) := ⟨_, rfl⟩
          have k46 : ((p[k].toNat : Int) == 46) = d46 := hd46.symm
          rw [k46] at hE2
          have n46 : ((p[k].toNat : Int) != 46) = !d46 := by simp only [bne, k46]
          clear hd46
          generalize (p[k].toNat : Int) = y at *
          generalize startsF y = a1 at *
          generalize digitF y = a2 at *
          have HE2 := Lib.hid hE2
          clear hE2
          have fin : v = (p.drop (k + 1)).all nameB → Hid (v = (p.drop (k + 1)).all nameB) := fun h => h
          cases a1 with
          | true =>
            have HN := fin (by have := HE2.out; simpa using this)
            clear fin hD k46 n46
            go_wp2_with fail
            simp only [HZk.out]
            refine hL.mono ?_
            rintro e w2 ⟨rfl, rfl⟩
            go_wp2
            go_roundw
            case rel => exact ⟨k + 1, by omega, by go_num, by first | rfl | trivial, HN⟩
            case measure => simp [intOf]; omega
          | false =>
            cases a2 with
            | true =>
              have HN := fin (by have := HE2.out; simpa using this)
              clear fin k46 n46
              go_wp2_with fail
              simp only [HZk.out]
              refine hL.mono ?_
              rintro e w2 ⟨rfl, rfl⟩
              go_wp2_with fail
              simp only [HZk.out]
              refine hD.mono ?_
              rintro e w2 ⟨rfl, rfl⟩
              go_wp2
              go_roundw
              case rel => exact ⟨k + 1, by omega, by go_num, by first | rfl | trivial, HN⟩
              case measure => simp [intOf]; omega
            | false =>
              cases d46 with
              | true =>
                have HN := fin (by have := HE2.out; simpa using this)
                clear fin
                have n46' : (y != 46) = false := n46
                clear n46
                go_wp2_with fail
                simp only [HZk.out]
                refine hL.mono ?_
                rintro e w2 ⟨rfl, rfl⟩
                go_wp2_with fail
                simp only [HZk.out]
                refine hD.mono ?_
                rintro e w2 ⟨rfl, rfl⟩
                have hzk := HZk.out
                clear HZk
                go_wp2
                go_roundw
                case rel => exact ⟨k + 1, by omega, by go_num, by first | rfl | trivial, HN⟩
                case measure => simp [intOf]; omega
              | false =>
                have hvf : v = false := by have := HE2.out; simpa using this
                subst hvf
                clear fin HE2
                have n46' : (y != 46) = true := n46
                clear n46
                go_wp2_with fail
                simp only [HZk.out]
                refine hL.mono ?_
                rintro e w2 ⟨rfl, rfl⟩
                go_wp2_with fail
                simp only [HZk.out]
                refine hD.mono ?_
                rintro e w2 ⟨rfl, rfl⟩
                have hzk := HZk.out
                clear HZk
                go_wp2
                go_ret
                exact ⟨rfl, rfl⟩
        · obtain rfl : k = n := by omega
          have hE2 := hE.out
          rw [List.drop_of_length_le (by rw [H.out]; exact Nat.le_refl _)] at hE2
          simp only [List.all_nil] at hE2
          subst hE2
          clear hE
          go_wp2
          go_ret
          exact ⟨rfl, rfl⟩
end Go.Proofs.Ytgaedkaohjphaaa
