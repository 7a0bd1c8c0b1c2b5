/-
  Lex: slices that read as bytes; how long words and bare names are.
-/
import Derived.Test.YtgaedkaohjphaaaLb
import Derived.Below
namespace Go.Proofs.Ytgaedkaohjphaaa
open Go.RowKit
set_option linter.unusedVariables false
set_option linter.unusedSimpArgs false
set_option maxRecDepth 20000

/-- A string of bytes. -/
def bs (x : List UInt8) : ByteArray := ⟨x.toArray⟩
/-- The cells of some bytes. -/
def nums (p : List UInt8) : List Int := p.map fun b => (b.toNat : Int)
theorem bytesOf_nums (p : List UInt8) : Lib.bytesOf (nums p) = p := by
  simp [Lib.bytesOf, nums, Function.comp_def]
theorem nums_len (p : List UInt8) : (nums p).length = p.length := by simp [nums]
theorem nums_get (p : List UInt8) (i : Nat) (h : i < p.length) : (nums p).getD i 0 = (p[i].toNat : Int) := by simp [nums, List.getD, h]
/-- A slice that reads as these bytes. -/
def Src (w : World) (A : Option Addr) (n : Nat) (p : List UInt8) : Prop := p.length = n ∧ (0 < n → ∃ b o, A = some ⟨b, o, none⟩ ∧ ∀ i (h : i < p.length), w.cell? ⟨b, o + i, none⟩ = some (.int .u8 (p[i].toNat : Int)))
theorem cell_old {w w' : World} {B : Nat} (hb : Below B w w') {b o : Nat} {v : Value} (hB : b < B) (h : w.cell? ⟨b, o, none⟩ = some v) : w'.cell? ⟨b, o, none⟩ = some v :=
  (World.cell?_of_block (hb.block b hB)).trans h
theorem Src.old {w w' : World} {A : Option Addr} {n : Nat} {p : List UInt8} (h : Src w A n p) (hb : Below w.heap.size w w') : Src w' A n p := by
  refine ⟨h.1, fun hp => ?_⟩
  obtain ⟨b, o, hA, hc⟩ := h.2 hp
  refine ⟨b, o, hA, fun i hi => ?_⟩
  exact cell_old hb (World.block_lt_of_cell? w _ (hc i hi)) (hc i hi)
theorem Src.drop {w : World} {b o n : Nat} {p : List UInt8} (h : Src w (some ⟨b, o, none⟩) n p) (k : Nat) : Src w (some ⟨b, o + k, none⟩) (n - k) (p.drop k) := by
  refine ⟨by rw [List.length_drop, h.1], fun hp => ⟨b, o + k, rfl, fun i hi => ?_⟩⟩
  obtain ⟨b', o', hA, hc⟩ := h.2 (by omega)
  injection hA with hA
  injection hA with h1 h2
  subst h1; subst h2
  have := hc (k + i) (by rw [List.length_drop] at hi; omega)
  rw [List.getElem_drop]
  rwa [Nat.add_assoc]
theorem Src.take {w : World} {A : Option Addr} {n : Nat} {p : List UInt8} (h : Src w A n p) (k : Nat) (hk : k ≤ n) : Src w A k (p.take k) := by
  refine ⟨by rw [List.length_take, h.1]; omega, fun hp => ?_⟩
  obtain ⟨b, o, hA, hc⟩ := h.2 (by omega)
  exact ⟨b, o, hA, fun i hi => by rw [List.getElem_take]; exact hc i (by rw [List.length_take] at hi; omega)⟩
theorem Src.none_ (w : World) (A : Option Addr) : Src w A 0 [] := ⟨rfl, fun h => by omega⟩
theorem Src.ints {w : World} {A : Option Addr} {n : Nat} {p : List UInt8} (h : Src w A n p) : Lib.BytesIn w A n (nums p) := fun hp => by
  obtain ⟨b, o, hA, hc⟩ := h.2 hp
  exact ⟨b, o, hA, fun i hi => by rw [nums_get p i (by rw [h.1]; exact hi)]; exact hc i (by rw [h.1]; exact hi)⟩
def smallB (x : UInt8) : Bool := smallF (x.toNat : Int)
def startB (x : UInt8) : Bool := startsF (x.toNat : Int)
def nameB (x : UInt8) : Bool := startsF (x.toNat : Int) || goesF (x.toNat : Int)
/-- How many at the beginning. -/
def cntW (f : UInt8 → Bool) : List UInt8 → Nat
  | [] => 0
  | x :: l => if f x = true then cntW f l + 1 else 0
theorem cntW_le (f : UInt8 → Bool) : ∀ l, cntW f l ≤ l.length
  | [] => Nat.le_refl _
  | x :: l => by
    have := cntW_le f l
    simp only [cntW, List.length_cons]
    split <;> omega
def bareF : List UInt8 → Nat
  | [] => 0
  | x :: l => if startB x = true then cntW nameB l + 1 else 0
theorem bareF_le : ∀ l, bareF l ≤ l.length
  | [] => Nat.le_refl _
  | x :: l => by
    have := cntW_le nameB l
    simp only [bareF, List.length_cons]
    split <;> omega

set_option maxHeartbeats 1000000 in
theorem word_any (A : Option Addr) (n c : Nat) (p : List UInt8) (w : World) (h : Src w A n p) (hn : n ≤ 1000000000) :
    Calls Try.prog 34 #[.slice A n c] w fun e w' => e = .returned (.int .i64 (cntW smallB p : Nat)) ∧ w = w' := by
  obtain ⟨v, hv⟩ : ∃ v, v = cntW smallB p := ⟨_, rfl⟩
  rw [← hv]
  have HV0 : Hid (v = 0 + cntW smallB (p.drop 0)) := by show _ = _; rw [hv, List.drop_zero, Nat.zero_add]
  have H := Lib.hid h
  clear hv h
  go_enter Try.func34, Try.ntmps34
  go_wp2_with fail
  go_loopw [3] (fun s3 wr => ∃ k : Nat, k ≤ n ∧ s3 = .int .i64 (k : Int) ∧ w = wr ∧ Hid (v = k + cntW smallB (p.drop k))) (fun s3 _ => n - (intOf s3).toNat)
  case atStart => exact ⟨0, Nat.zero_le _, rfl, rfl, HV0⟩
  case round =>
    clear HV0
    obtain ⟨k, hk, rfl, rfl, hE⟩ := hrel
    by_cases hlt : k < n
    · have hkl : k < p.length := by rw [H.out.1]; exact hlt
      have h1 : (k : Int) < (n : Int) := by omega
      obtain ⟨b, o, rfl, hc⟩ := H.out.2 (by omega)
      have e0 := hc k hkl
      have hE2 := hE.out
      rw [List.drop_eq_getElem_cons hkl] at hE2
      simp only [cntW] at hE2
      have hS := small_any (p[k].toNat : Int) w
      have HSv : Hid (smallF (p[k].toNat : Int) = smallB p[k]) := rfl
      generalize (p[k].toNat : Int) = x at *
      generalize smallB p[k] = sv at *
      rw [HSv.out] at hS
      clear HSv hE
      cases sv with
      | true =>
        have HE2 : Hid (v = (k + 1) + cntW smallB (p.drop (k + 1))) := by show _ = _; simp at hE2; omega
        clear hE2 hc
        go_wp2_with fail
        refine hS.mono ?_
        rintro e w2 ⟨rfl, rfl⟩
        go_wp2
        go_roundw
        case rel => exact ⟨k + 1, by omega, by go_num, by first | rfl | trivial, HE2⟩
        case measure => simp [intOf]; omega
      | false =>
        obtain rfl : v = k := by simpa using hE2
        clear hE2 hc
        go_wp2_with fail
        refine hS.mono ?_
        rintro e w2 ⟨rfl, rfl⟩
        go_wp2
        go_ret
        exact ⟨rfl, rfl⟩
    · obtain rfl : k = n := by omega
      have hE2 := hE.out
      rw [List.drop_of_length_le (by rw [H.out.1]; exact Nat.le_refl _)] at hE2
      obtain rfl : v = k := by simpa [cntW] using hE2
      clear hE hE2
      go_wp2
      go_ret
      exact ⟨rfl, rfl⟩

set_option maxHeartbeats 2000000 in
theorem bare_any (A : Option Addr) (n c : Nat) (p : List UInt8) (w : World) (h : Src w A n p) (hn : n ≤ 1000000000) :
    Calls Try.prog 50 #[.slice A n c] w fun e w' => e = .returned (.int .i64 (bareF p : Nat)) ∧ w = w' := by
  obtain ⟨v, hv⟩ : ∃ v, v = bareF p := ⟨_, rfl⟩
  rw [← hv]
  have HV0 : Hid (v = if 0 = 0 then bareF p else 0 + cntW nameB (p.drop 0)) := by show _ = _; rw [hv]; rfl
  have H0 := Lib.hid h
  have H : Hid (p.length = n) := h.1
  clear hv h
  go_enter Try.func50, Try.ntmps50
  go_wp2_with fail
  go_loopw [3] (fun s3 wr => ∃ k : Nat, k ≤ n ∧ s3 = .int .i64 (k : Int) ∧ w = wr ∧ Hid (v = if k = 0 then bareF p else k + cntW nameB (p.drop k))) (fun s3 _ => n - (intOf s3).toNat)
  case atStart => exact ⟨0, Nat.zero_le _, rfl, rfl, HV0⟩
  case round =>
    clear HV0
    obtain ⟨k, hk, rfl, rfl, hE⟩ := hrel
    by_cases hlt : k < n
    · have hkl : k < p.length := by rw [H.out]; exact hlt
      have h1 : (k : Int) < (n : Int) := by omega
      obtain ⟨b, o, rfl, hc⟩ := H0.out.2 (by omega)
      have e0 := hc k hkl
      clear hc
      have hS := starts_any (p[k].toNat : Int) w
      have hG := goes_any (p[k].toNat : Int) w
      have HV : Hid (v = if startsF (p[k].toNat : Int) = true then (k + 1) + cntW nameB (p.drop (k + 1)) else if k = 0 then 0 else if goesF (p[k].toNat : Int) = true then (k + 1) + cntW nameB (p.drop (k + 1)) else k) := by
        show _ = _
        rw [hE.out]
        by_cases hk0 : k = 0
        · subst hk0
          rw [if_pos rfl]
          obtain ⟨x, l, hp⟩ : ∃ x l, p = x :: l := by cases p with | nil => simp at hkl | cons x l => exact ⟨x, l, rfl⟩
          subst hp
          simp only [bareF, startB, List.getElem_cons_zero, List.drop_succ_cons, List.drop_zero]
          by_cases hs : startsF (x.toNat : Int) = true <;> simp [hs]
          omega
        · rw [if_neg hk0, if_neg hk0, List.drop_eq_getElem_cons hkl]
          simp only [cntW, nameB, Bool.or_eq_true]
          by_cases hs : startsF (p[k].toNat : Int) = true
          · rw [if_pos (.inl hs), if_pos hs]; omega
          · rw [if_neg hs]
            by_cases hg : goesF (p[k].toNat : Int) = true
            · rw [if_pos (.inr hg), if_pos hg]; omega
            · rw [if_neg (by simp [hs, hg]), if_neg hg]; omega
      generalize (p[k].toNat : Int) = x at *
      generalize startsF x = sv at *
      generalize goesF x = gv at *
      clear hE
      have fin : ∀ (wx : World), v = (k + 1) + cntW nameB (p.drop (k + 1)) → Hid (v = if k + 1 = 0 then bareF p else (k + 1) + cntW nameB (p.drop (k + 1))) := fun wx h => by show _ = _; rw [if_neg (by omega)]; exact h
      cases sv with
      | true =>
        have HE2 := fin w (by have := HV.out; simpa using this)
        clear fin HV hG
        go_wp2_with fail
        refine hS.mono ?_
        rintro e w2 ⟨rfl, rfl⟩
        go_wp2
        go_roundw
        case rel => exact ⟨k + 1, by omega, by go_num, by first | rfl | trivial, HE2⟩
        case measure => simp [intOf]; omega
      | false =>
        by_cases hk0 : k = 0
        · have hk1 : ¬ 0 < (k : Int) := by omega
          obtain rfl : v = k := by have := HV.out; simp [hk0] at this; omega
          clear fin HV hG hk0
          go_wp2_with fail
          refine hS.mono ?_
          rintro e w2 ⟨rfl, rfl⟩
          go_wp2
          go_ret
          exact ⟨rfl, rfl⟩
        · have hk1 : 0 < (k : Int) := by omega
          cases gv with
          | true =>
            have HE2 := fin w (by have := HV.out; simpa [hk0] using this)
            clear fin HV
            go_wp2_with fail
            refine hS.mono ?_
            rintro e w2 ⟨rfl, rfl⟩
            go_wp2_with fail
            refine hG.mono ?_
            rintro e w2 ⟨rfl, rfl⟩
            go_wp2
            go_roundw
            case rel => exact ⟨k + 1, by omega, by go_num, by first | rfl | trivial, HE2⟩
            case measure => simp [intOf]; omega
          | false =>
            obtain rfl : v = k := by have := HV.out; simpa [hk0] using this
            clear fin HV
            go_wp2_with fail
            refine hS.mono ?_
            rintro e w2 ⟨rfl, rfl⟩
            go_wp2_with fail
            refine hG.mono ?_
            rintro e w2 ⟨rfl, rfl⟩
            go_wp2
            go_ret
            exact ⟨rfl, rfl⟩
    · obtain rfl : k = n := by omega
      have hE2 := hE.out
      rw [List.drop_of_length_le (by rw [H.out]; exact Nat.le_refl _)] at hE2
      obtain rfl : v = k := by
        by_cases hk0 : k = 0
        · rw [if_pos hk0] at hE2
          have : p = [] := List.eq_nil_of_length_eq_zero (by rw [H.out]; exact hk0)
          rw [hE2, this, hk0]; rfl
        · rw [if_neg hk0] at hE2; simpa [cntW] using hE2
      clear hE hE2
      go_wp2
      go_ret
      exact ⟨rfl, rfl⟩

set_option maxHeartbeats 2000000 in
theorem bares_any (p : List UInt8) (w : World) (hn : p.length ≤ 1000000000) :
    Calls Try.prog 26 #[.string (bs p)] w fun e w' => e = .returned (.int .i64 (bareF p : Nat)) ∧ w = w' := by
  obtain ⟨v, hv⟩ : ∃ v, v = bareF p := ⟨_, rfl⟩
  rw [← hv]
  have HV0 : Hid (v = if 0 = 0 then bareF p else 0 + cntW nameB (p.drop 0)) := by show _ = _; rw [hv]; rfl
  obtain ⟨n, hnn⟩ : ∃ n, n = p.length := ⟨_, rfl⟩
  have H : Hid (p.length = n) := hnn.symm
  obtain ⟨S, hS, hz, HZ⟩ : ∃ S : ByteArray, S = bs p ∧ S.size = n ∧ Hid (∀ (k : Nat) (h : k < p.length) (h' : k < S.size), ((S[k]'h').toNat : Int) = (p[k].toNat : Int)) := ⟨bs p, rfl, by rw [hnn]; simp [bs, ByteArray.size], fun k h h' => rfl⟩
  rw [← hS]
  rw [← hnn] at hn
  clear hS
  clear hv hnn
  go_enter Try.func26, Try.ntmps26
  go_wp2_with fail
  go_loopw [3] (fun s3 wr => ∃ k : Nat, k ≤ n ∧ s3 = .int .i64 (k : Int) ∧ w = wr ∧ Hid (v = if k = 0 then bareF p else k + cntW nameB (p.drop k))) (fun s3 _ => n - (intOf s3).toNat)
  case atStart => exact ⟨0, Nat.zero_le _, rfl, rfl, HV0⟩
  case round =>
    clear HV0
    obtain ⟨k, hk, rfl, rfl, hE⟩ := hrel
    by_cases hlt : k < n
    · have hkl : k < p.length := by rw [H.out]; exact hlt
      have h1 : (k : Int) < (n : Int) := by omega
      have e0 : Hid (∀ h' : k < S.size, ((S[k]'h').toNat : Int) = (p[k].toNat : Int)) := fun h' => HZ.out k hkl h'
      have hS := starts_any (p[k].toNat : Int) w
      have hG := goes_any (p[k].toNat : Int) w
      have HV : Hid (v = if startsF (p[k].toNat : Int) = true then (k + 1) + cntW nameB (p.drop (k + 1)) else if k = 0 then 0 else if goesF (p[k].toNat : Int) = true then (k + 1) + cntW nameB (p.drop (k + 1)) else k) := by
        show _ = _
        rw [hE.out]
        by_cases hk0 : k = 0
        · subst hk0
          rw [if_pos rfl]
          obtain ⟨x, l, hp⟩ : ∃ x l, p = x :: l := by cases p with | nil => simp at hkl | cons x l => exact ⟨x, l, rfl⟩
          subst hp
          simp only [bareF, startB, List.getElem_cons_zero, List.drop_succ_cons, List.drop_zero]
          by_cases hs : startsF (x.toNat : Int) = true <;> simp [hs]
          omega
        · rw [if_neg hk0, if_neg hk0, List.drop_eq_getElem_cons hkl]
          simp only [cntW, nameB, Bool.or_eq_true]
          by_cases hs : startsF (p[k].toNat : Int) = true
          · rw [if_pos (.inl hs), if_pos hs]; omega
          · rw [if_neg hs]
            by_cases hg : goesF (p[k].toNat : Int) = true
            · rw [if_pos (.inr hg), if_pos hg]; omega
            · rw [if_neg (by simp [hs, hg]), if_neg hg]; omega
      generalize (p[k].toNat : Int) = x at *
      generalize startsF x = sv at *
      generalize goesF x = gv at *
      clear hE
      have fin : ∀ (wx : World), v = (k + 1) + cntW nameB (p.drop (k + 1)) → Hid (v = if k + 1 = 0 then bareF p else (k + 1) + cntW nameB (p.drop (k + 1))) := fun wx h => by show _ = _; rw [if_neg (by omega)]; exact h
      cases sv with
      | true =>
        have HE2 := fin w (by have := HV.out; simpa using this)
        clear fin HV hG
        go_wp2_with fail
        simp only [e0.out]
        refine hS.mono ?_
        rintro e w2 ⟨rfl, rfl⟩
        go_wp2
        go_roundw
        case rel => exact ⟨k + 1, by omega, by go_num, by first | rfl | trivial, HE2⟩
        case measure => simp [intOf]; omega
      | false =>
        by_cases hk0 : k = 0
        · have hk1 : ¬ 0 < (k : Int) := by omega
          obtain rfl : v = k := by have := HV.out; simp [hk0] at this; omega
          clear fin HV hG hk0
          go_wp2_with fail
          simp only [e0.out]
          refine hS.mono ?_
          rintro e w2 ⟨rfl, rfl⟩
          go_wp2
          go_ret
          exact ⟨rfl, rfl⟩
        · have hk1 : 0 < (k : Int) := by omega
          cases gv with
          | true =>
            have HE2 := fin w (by have := HV.out; simpa [hk0] using this)
            clear fin HV
            go_wp2_with fail
            simp only [e0.out]
            refine hS.mono ?_
            rintro e w2 ⟨rfl, rfl⟩
            go_wp2_with fail
            simp only [e0.out]
            refine hG.mono ?_
            rintro e w2 ⟨rfl, rfl⟩
            go_wp2
            go_roundw
            case rel => exact ⟨k + 1, by omega, by go_num, by first | rfl | trivial, HE2⟩
            case measure => simp [intOf]; omega
          | false =>
            obtain rfl : v = k := by have := HV.out; simpa [hk0] using this
            clear fin HV
            go_wp2_with fail
            simp only [e0.out]
            refine hS.mono ?_
            rintro e w2 ⟨rfl, rfl⟩
            go_wp2_with fail
            simp only [e0.out]
            refine hG.mono ?_
            rintro e w2 ⟨rfl, rfl⟩
            go_wp2
            go_ret
            exact ⟨rfl, rfl⟩
    · obtain rfl : k = n := by omega
      have hE2 := hE.out
      rw [List.drop_of_length_le (by rw [H.out]; exact Nat.le_refl _)] at hE2
      obtain rfl : v = k := by
        by_cases hk0 : k = 0
        · rw [if_pos hk0] at hE2
          have : p = [] := List.eq_nil_of_length_eq_zero (by rw [H.out]; exact hk0)
          rw [hE2, this, hk0]; rfl
        · rw [if_neg hk0] at hE2; simpa [cntW] using hE2
      clear hE hE2
      go_wp2
      go_ret
      exact ⟨rfl, rfl⟩
end Go.Proofs.Ytgaedkaohjphaaa
