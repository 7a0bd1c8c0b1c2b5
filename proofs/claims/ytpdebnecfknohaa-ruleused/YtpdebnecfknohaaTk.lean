/-
  Small rules: within, Variable, object, refThere, allVariables, refsThere, fault.
-/
import Derived.Test.YtpdebnecfknohaaTn
import Derived.Test.YtpdebnecfknohaaFp
namespace Go.Proofs.Ytpdebnecfknohaa
open Go.RowKit
set_option linter.unusedVariables false
set_option linter.unusedSimpArgs false
set_option maxRecDepth 20000

/-- What a call that answers a truth leaves. -/
def BlB (w : World) (v : Bool) (e : Ending) (w' : World) : Prop := e = .returned (.bool v) ∧ Below w.heap.size w w'
def withF (n : Int) (m : Nat) : Bool := decide (0 ≤ n ∧ n < m)
theorem within_any (n : Int) (m : Nat) (w : World) : Calls Try.prog 80 #[.int .i64 n, .int .i64 (m : Int)] w (BlB w (withF n m)) := by
  by_cases h0 : 0 ≤ n
  · by_cases h1 : n < m
    · have e : withF n m = true := by simp [withF, h0, h1]
      rw [e]
      go_enter Try.func80, Try.ntmps80
      go_wp2
      go_ret
      exact ⟨by simp [h0, h1], Below.refl _ _⟩
    · have e : withF n m = false := by simp [withF, h1]
      rw [e]
      go_enter Try.func80, Try.ntmps80
      go_wp2
      go_ret
      exact ⟨by simp [h0, h1], Below.refl _ _⟩
  · have e : withF n m = false := by simp [withF, h0]
    rw [e]
    go_enter Try.func80, Try.ntmps80
    go_wp2
    go_ret
    exact ⟨by simp [h0], Below.refl _ _⟩
def varB (k : Int) : Bool := k == 1 || k == 2
theorem var_any (k i : Int) (w : World) : Calls Try.prog 24 #[.agg #[.int .u8 k, .int .i64 i]] w (BlB w (varB k)) := by
  obtain ⟨v, hv⟩ : ∃ v, v = varB k := ⟨_, rfl⟩
  rw [← hv]
  have HB : Hid (Below w.heap.size w (w.alloc (.cells #[.int .u8 k, .int .i64 i] 46))) := (Below.refl _ _).alloc (Nat.le_refl _) _
  by_cases h1 : k = 1
  · subst h1
    obtain rfl : v = true := by rw [hv]; rfl
    clear hv
    go_enter Try.func24, Try.ntmps24
    go_wp2
    go_ret
    exact ⟨by simp, HB.out⟩
  · by_cases h2 : k = 2
    · subst h2
      obtain rfl : v = true := by rw [hv]; rfl
      clear hv
      go_enter Try.func24, Try.ntmps24
      go_wp2
      go_ret
      exact ⟨by simp, HB.out⟩
    · have e1 : (k == 1) = false := by simpa using h1
      have e2 : (k == 2) = false := by simpa using h2
      obtain rfl : v = false := by rw [hv]; simp [varB, e1, e2]
      clear hv
      go_enter Try.func24, Try.ntmps24
      go_wp2
      go_ret
      exact ⟨by simp [e1, e2], HB.out⟩
def objB (k : Int) : Bool := varB k || k == 3 || k == 4
theorem obj_any (k i : Int) (w : World) : Calls Try.prog 81 #[.agg #[.int .u8 k, .int .i64 i]] w (BlB w (objB k)) := by
  obtain ⟨v, hv⟩ : ∃ v, v = objB k := ⟨_, rfl⟩
  rw [← hv]
  have KB : Hid (Blk (w.alloc (.cells #[.int .u8 k, .int .i64 i] 46)) w.heap.size 46 #[.int .u8 k, .int .i64 i]) := Blk.new w 46 _
  have HB : Hid (Below w.heap.size w (w.alloc (.cells #[.int .u8 k, .int .i64 i] 46))) := (Below.refl _ _).alloc (Nat.le_refl _) _
  have hV := fun wx => var_any k i wx
  have HV := Lib.hid hV
  clear hV
  go_enter Try.func81, Try.ntmps81
  go_wp2_with fail
  refine (HV.out _).mono ?_
  rintro e w2 ⟨rfl, hb2⟩
  have HB2 := Lib.hid (HB.out.trans (hb2.mono HB.out.size))
  have K2 := Lib.hid (KB.out.old hb2)
  clear hb2 KB HB
  obtain ⟨c0, c1⟩ := K2.out.c2
  have z1 : w.heap.size < w2.heap.size := K2.out.lt
  obtain ⟨b, hb⟩ : ∃ b, b = varB k := ⟨_, rfl⟩
  rw [← hb]
  have hv2 : v = (b || k == 3 || k == 4) := by rw [hv, hb]; rfl
  clear hv hb
  cases b with
  | true =>
    obtain rfl : v = true := by rw [hv2]; simp
    clear hv2
    go_wp2
    go_ret
    exact ⟨by simp, HB2.out⟩
  | false =>
    by_cases h3 : k = 3
    · subst h3
      obtain rfl : v = true := by rw [hv2]; rfl
      clear hv2
      go_wp2
      go_ret
      exact ⟨by simp, HB2.out⟩
    · by_cases h4 : k = 4
      · subst h4
        obtain rfl : v = true := by rw [hv2]; rfl
        clear hv2
        go_wp2
        go_ret
        exact ⟨by simp, HB2.out⟩
      · have e1 : (k == 3) = false := by simpa using h3
        have e2 : (k == 4) = false := by simpa using h4
        obtain rfl : v = false := by rw [hv2, e1, e2]; rfl
        clear hv2
        go_wp2
        go_ret
        exact ⟨by simp, HB2.out⟩
/-- Is there what is named: of so many locals, globals, functions, sites. -/
def thereF (nl ng nf ns : Nat) (k i : Int) : Bool := if k = 1 then withF i nl else if k = 2 then withF i ng else if k = 3 then withF i nf else if k = 4 then withF i ns else true
theorem there_any (As Ag Af Ae Al At Ab : Option Addr) (ls cs ng cg nf cf ne ce nl cl ns ct lb cb : Nat) (fn fp k i : Int) (w : World) :
    Calls Try.prog 83 #[.agg #[.slice As ls cs, .slice Ag ng cg, .slice Af nf cf, .slice Ae ne ce], .agg #[.int .i64 fn, .int .i64 fp, .slice Al nl cl, .slice At ns ct, .slice Ab lb cb], .agg #[.int .u8 k, .int .i64 i]] w (BlB w (thereF nl ng nf ns k i)) := by
  obtain ⟨v, hv⟩ : ∃ v, v = thereF nl ng nf ns k i := ⟨_, rfl⟩
  rw [← hv]
  have HB : Hid (Below w.heap.size w (((w.alloc (.cells #[.slice As ls cs, .slice Ag ng cg, .slice Af nf cf, .slice Ae ne ce] 30)).alloc (.cells #[.int .i64 fn, .int .i64 fp, .slice Al nl cl, .slice At ns ct, .slice Ab lb cb] 40)).alloc (.cells #[.int .u8 k, .int .i64 i] 46))) := (((Below.refl _ _).alloc (Nat.le_refl _) _).alloc (by simp) _).alloc (by simp; omega) _
  have HW : Hid (∀ (m : Nat) (wx : World), Below w.heap.size w wx → Calls Try.prog 80 #[.int .i64 i, .int .i64 (m : Int)] wx (BlB w (withF i m))) := fun m wx hx => (within_any i m wx).mono fun e w' h => ⟨h.1, hx.trans (h.2.mono hx.size)⟩
  unfold thereF at hv
  by_cases h1 : k = 1
  · subst h1
    rw [if_pos rfl] at hv
    subst hv
    go_enter Try.func83, Try.ntmps83
    go_wp2_with fail
    refine (HW.out nl _ HB.out).mono ?_
    rintro e w2 ⟨rfl, hb2⟩
    have HB2 := Lib.hid hb2
    clear hb2
    go_wp2
    go_ret
    exact ⟨rfl, HB2.out⟩
  have e1 : (k == 1) = false := by simpa using h1
  rw [if_neg h1] at hv
  by_cases h2 : k = 2
  · subst h2
    rw [if_pos rfl] at hv
    subst hv
    clear h1
    go_enter Try.func83, Try.ntmps83
    go_wp2_with fail
    refine (HW.out ng _ HB.out).mono ?_
    rintro e w2 ⟨rfl, hb2⟩
    have HB2 := Lib.hid hb2
    clear hb2
    go_wp2
    go_ret
    exact ⟨rfl, HB2.out⟩
  have e2 : (k == 2) = false := by simpa using h2
  rw [if_neg h2] at hv
  by_cases h3 : k = 3
  · subst h3
    rw [if_pos rfl] at hv
    subst hv
    clear h1 h2
    go_enter Try.func83, Try.ntmps83
    go_wp2_with fail
    refine (HW.out nf _ HB.out).mono ?_
    rintro e w2 ⟨rfl, hb2⟩
    have HB2 := Lib.hid hb2
    clear hb2
    go_wp2
    go_ret
    exact ⟨rfl, HB2.out⟩
  have e3 : (k == 3) = false := by simpa using h3
  rw [if_neg h3] at hv
  by_cases h4 : k = 4
  · subst h4
    rw [if_pos rfl] at hv
    subst hv
    clear h1 h2 h3
    go_enter Try.func83, Try.ntmps83
    go_wp2_with fail
    refine (HW.out ns _ HB.out).mono ?_
    rintro e w2 ⟨rfl, hb2⟩
    have HB2 := Lib.hid hb2
    clear hb2
    go_wp2
    go_ret
    exact ⟨rfl, HB2.out⟩
  have e4 : (k == 4) = false := by simpa using h4
  rw [if_neg h4] at hv
  subst hv
  clear h1 h2 h3 h4
  go_enter Try.func83, Try.ntmps83
  go_wp2
  go_ret
  exact ⟨rfl, HB.out⟩
/-- A fault, as a value. -/
def faultV (r f s : Int) : Value := .agg #[.int .i64 (if r = 0 then 0 else 8), .int .i64 0, .int .i64 0, .int .i64 0, .int .i64 r, .int .i64 f, .int .i64 s]
theorem fault_any (r f s : Int) (w : World) : Calls Try.prog 36 #[.int .i64 r, .int .i64 f, .int .i64 s] w fun e w' => e = .returned (faultV r f s) ∧ Below w.heap.size w w' := by
  by_cases h0 : r = 0
  · subst h0
    go_enter Try.func36, Try.ntmps36
    go_wp2
    have KB : Blk ((w.alloc (.cells #[.int .i64 0, .int .i64 0, .int .i64 0, .int .i64 0, .int .i64 0, .int .i64 f, .int .i64 s] 35)).alloc (.cells #[.int .i64 0, .int .i64 0, .int .i64 0, .int .i64 0, .int .i64 0, .int .i64 f, .int .i64 s] 35)) w.heap.size 35 #[.int .i64 0, .int .i64 0, .int .i64 0, .int .i64 0, .int .i64 0, .int .i64 f, .int .i64 s] := (Blk.new w 35 _).alloc _
    obtain ⟨r0, r1, r2, r3, r4, r5, r6⟩ := KB.c7
    refine bodyPost_ret (v := .agg #[.int .i64 0, .int .i64 0, .int .i64 0, .int .i64 0, .int .i64 0, .int .i64 f, .int .i64 s]) (by simp [results, Try.results36, go_sem, r0, r1, r2, r3, r4, r5, r6]) rfl ?_
    exact ⟨by simp [faultV], ((Below.refl _ _).alloc (Nat.le_refl _) _).alloc (by simp) _⟩
  · have e1 : (r == 0) = false := by simpa using h0
    have e2 : (r != 0) = true := by simpa using h0
    go_enter Try.func36, Try.ntmps36
    go_wp2
    have KB : Blk ((w.alloc (.cells #[.int .i64 8, .int .i64 0, .int .i64 0, .int .i64 0, .int .i64 r, .int .i64 f, .int .i64 s] 35)).alloc (.cells #[.int .i64 8, .int .i64 0, .int .i64 0, .int .i64 0, .int .i64 r, .int .i64 f, .int .i64 s] 35)) w.heap.size 35 #[.int .i64 8, .int .i64 0, .int .i64 0, .int .i64 0, .int .i64 r, .int .i64 f, .int .i64 s] := (Blk.new w 35 _).alloc _
    obtain ⟨r0, r1, r2, r3, r4, r5, r6⟩ := KB.c7
    refine bodyPost_ret (v := .agg #[.int .i64 8, .int .i64 0, .int .i64 0, .int .i64 0, .int .i64 r, .int .i64 f, .int .i64 s]) (by simp [results, Try.results36, go_sem, r0, r1, r2, r3, r4, r5, r6]) rfl ?_
    exact ⟨by simp [faultV, h0], ((Below.refl _ _).alloc (Nat.le_refl _) _).alloc (by simp) _⟩
/-- Are all references ones to variables? -/
def allVar (l : List (Int × Int)) : Bool := l.all fun x => varB x.1
set_option maxHeartbeats 400000 in
theorem allVar_any (Aa : Option Addr) (ca : Nat) (xs : List (Int × Int)) (w : World) (h : ArgsAt w (.slice Aa xs.length ca) xs) (hl : xs.length ≤ 1000000000) : Calls Try.prog 82 #[.slice Aa xs.length ca] w (BlB w (allVar xs)) := by
  obtain ⟨A', c', hv, h⟩ := h
  injection hv with hv1 hv2 hv3
  subst hv1 hv3
  clear hv2
  obtain ⟨v, hv⟩ : ∃ v, allVar (xs.drop 0) = v := ⟨_, rfl⟩
  have HV0 : Hid (allVar (xs.drop 0) = v) := hv
  rw [show allVar xs = allVar (xs.drop 0) from rfl, hv]
  have HA := Lib.hid h
  obtain ⟨n, hn⟩ : ∃ n, n = xs.length := ⟨_, rfl⟩
  have HN := Lib.hid hn
  rw [← hn] at hl ⊢
  have hV := fun k i wx => var_any k i wx
  have HV := Lib.hid hV
  clear hV h hv hn
  go_enter Try.func82, Try.ntmps82
  go_wp2_with fail
  go_loopw [7] (fun s wr => ∃ (k : Nat), k ≤ n ∧ s = .int .i64 (k : Int) ∧ Hid (allVar (xs.drop k) = v) ∧ Hid (Below w.heap.size w wr)) (fun s _ => n - (intOf s).toNat)
  case atStart => exact ⟨0, Nat.zero_le _, rfl, HV0, Below.refl _ _⟩
  case round =>
    clear HV0
    obtain ⟨k, hk, rfl, hE, hB⟩ := hrel
    by_cases hlt : k < n
    · have hkl : k < xs.length := by rw [← HN.out]; exact hlt
      have hli : (k : Int) < (n : Int) := by omega
      obtain ⟨b, o, rfl, hc⟩ := HA.out (by omega)
      obtain ⟨d0, d1⟩ := hc k hkl
      have hbl : b < w.heap.size := World.block_lt_of_cell? w ⟨b, o + k * 2, none⟩ d0
      have e0 := cell_old hB.out hbl d0
      have e1 := cell_old hB.out hbl d1
      rw [show xs.getD k (0, 0) = xs[k] from by simp [List.getD, hkl]] at e0 e1
      have hE2 := hE.out
      rw [List.drop_eq_getElem_cons hkl] at hE2
      simp only [allVar, List.all_cons] at hE2
      generalize xs[k] = x at *
      obtain ⟨xk, xi⟩ := x
      dsimp only at e0 e1 hE2
      have hz : b < wr.heap.size := by have := hB.out.size; omega
      have HE2 := Lib.hid hE2
      have HB2 : Hid (Below w.heap.size w (wr.alloc (.cells #[.int .u8 xk, .int .i64 xi] 46))) := hB.out.alloc hB.out.size _
      clear hE2 hc d0 d1 hbl hE
      go_wp2_with fail
      refine (HV.out _ _ _).mono ?_
      rintro e w2 ⟨rfl, hb2⟩
      have HB3 := Lib.hid (HB2.out.trans (hb2.mono HB2.out.size))
      clear hb2 e0 e1 hz
      obtain ⟨bv, hbv⟩ : ∃ b, b = varB xk := ⟨_, rfl⟩
      have hE3 := HE2.out
      rw [← hbv] at hE3 ⊢
      have HE3 := Lib.hid hE3
      clear HE2 hE3 hbv
      cases bv with
      | false =>
        obtain rfl : v = false := by rw [← HE3.out]; rfl
        go_wp2
        go_ret
        exact ⟨rfl, HB3.out⟩
      | true =>
        have HE4 : Hid (allVar (xs.drop (k + 1)) = v) := by show _ = _; rw [← HE3.out]; simp [allVar]
        go_wp2
        go_roundw
        case rel => exact ⟨k + 1, by omega, by go_num, HE4, HB3⟩
        case measure => simp [intOf]; omega
    · obtain rfl : k = n := by omega
      obtain rfl : v = true := by rw [← hE.out, List.drop_of_length_le (by rw [← HN.out]; omega)]; rfl
      go_wp2
      go_ret
      exact ⟨rfl, hB.out⟩
end Go.Proofs.Ytpdebnecfknohaa
