/-
  Bodies held against each other: what slices.Equal of references, sameButBody and EqualFunc leave.
-/
import Derived.Test.YtpjoggefklohjaaBd
import Derived.StillTactics
import Derived.Deep.Cut
namespace Go.Proofs.Ytpjoggefklohjaa
open Go.RowKit
set_option linter.unusedVariables false

/-- Are two bodies one? -/
def Bd.same : Bd → Bd → Bool
  | .nil, .nil => true
  | .cons k a1 a2 b1 b2 xs s r, .cons k' a1' a2' b1' b2' xs' s' r' => decide (k = k') && decide ((a1, a2) = (a1', a2')) && decide ((b1, b2) = (b1', b2')) && decide (xs = xs') && s.same s' && r.same r'
  | _, _ => false
/-- Are they one, whatever stands in their statements' bodies? -/
def Bd.shal : Bd → Bd → Bool
  | .nil, .nil => true
  | .cons k a1 a2 b1 b2 xs s r, .cons k' a1' a2' b1' b2' xs' s' r' => decide (k = k') && decide ((a1, a2) = (a1', a2')) && decide ((b1, b2) = (b1', b2')) && decide (xs = xs') && r.shal r'
  | _, _ => false
theorem Bd.same_refl : ∀ t : Bd, t.same t = true
  | .nil => rfl
  | .cons k a1 a2 b1 b2 xs s r => by simp [Bd.same, Bd.same_refl s, Bd.same_refl r]
theorem Bd.shal_len : ∀ (t u : Bd), t.shal u = true → t.len = u.len
  | .nil, .nil, _ => rfl
  | .cons _ _ _ _ _ _ _ r, .cons _ _ _ _ _ _ _ r', h => by
    simp only [Bd.shal, Bool.and_eq_true] at h
    simp only [Bd.len]
    rw [Bd.shal_len r r' h.2]
  | .nil, .cons _ _ _ _ _ _ _ _, h => by simp [Bd.shal] at h
  | .cons _ _ _ _ _ _ _ _, .nil, h => by simp [Bd.shal] at h
theorem Bd.same_shal : ∀ (t u : Bd), t.shal u = false → t.same u = false
  | .nil, .nil, h => by simp [Bd.shal] at h
  | .cons k a1 a2 b1 b2 xs s r, .cons k' a1' a2' b1' b2' xs' s' r', h => by
    simp only [Bd.shal, Bd.same] at h ⊢
    cases hr : r.shal r'
    · rw [Bd.same_shal r r' hr, Bool.and_false]
    · rw [hr, Bool.and_true] at h
      rw [h]; simp
  | .nil, .cons _ _ _ _ _ _ _ _, h => rfl
  | .cons _ _ _ _ _ _ _ _, .nil, h => rfl
theorem list_ext_args {L M : List (Int × Int)} (hl : L.length = M.length) (h : ∀ i, i < L.length → L.getD i (0, 0) = M.getD i (0, 0)) : L = M := by
  apply List.ext_getElem hl
  intro i h1 h2
  have := h i h1
  simpa [List.getD, h1, h2] using this

set_option maxRecDepth 20000 in
set_option maxHeartbeats 1000000 in
theorem eqRefs_any (v1 v2 : Value) (L M : List (Int × Int)) (w : World) (h1 : ArgsAt w v1 L) (h2 : ArgsAt w v2 M) (hl : L.length ≤ 1000000000) (hm : M.length ≤ 1000000000) :
    Calls Try.prog 44 #[v1, v2] w fun e w' => e = .returned (.bool (decide (L = M))) ∧ Below w.heap.size w w' := by
  obtain ⟨A1, c1, rfl, h1⟩ := h1
  obtain ⟨A2, c2, rfl, h2⟩ := h2
  have H1 := Lib.hid h1
  have H2 := Lib.hid h2
  clear h1 h2
  by_cases hlen : L.length = M.length
  · obtain ⟨N, hN⟩ : ∃ N, N = L.length := ⟨_, rfl⟩
    rw [← hlen, ← hN]
    have HN := Lib.hid hN
    rw [← hN] at hl
    clear hN hm
    go_enter Try.func44, Try.ntmps44
    go_wp2_with fail
    go_loopw [13] (fun i wr => ∃ k : Nat, k ≤ N ∧ i = .int .i64 k ∧ Hid (∀ j, j < k → L.getD j (0, 0) = M.getD j (0, 0)) ∧ Hid (Below w.heap.size w wr)) (fun i _ => N - (intOf i).toNat)
    case atStart => exact ⟨0, Nat.zero_le _, rfl, (fun j hj => by omega), Below.refl _ _⟩
    case round =>
      obtain ⟨k, hk, rfl, hE, hB⟩ := hrel
      by_cases hlt : k < N
      · obtain ⟨b1, o1, rfl, d1⟩ := H1.out (by have := HN.out; omega)
        obtain ⟨b2, o2, rfl, d2⟩ := H2.out (by have := HN.out; omega)
        obtain ⟨d11, d12⟩ := d1 k (by have := HN.out; omega)
        obtain ⟨d21, d22⟩ := d2 k (by have := HN.out; omega)
        have l1 := World.block_lt_of_cell? w ⟨b1, o1 + k * 2, none⟩ d11
        have l2 := World.block_lt_of_cell? w ⟨b2, o2 + k * 2, none⟩ d21
        have c11 := cell_old hB.out l1 d11
        have c12 := cell_old hB.out l1 d12
        have c21 := cell_old hB.out l2 d21
        have c22 := cell_old hB.out l2 d22
        have HNe : Hid (L.getD k (0, 0) ≠ M.getD k (0, 0) → decide (L = M) = false) := fun e => decide_eq_false (fun e2 => e (by rw [e2]))
        generalize hp : L.getD k (0, 0) = p at *
        generalize hq : M.getD k (0, 0) = q at *
        have HP := Lib.hid hp
        have HQ := Lib.hid hq
        clear hp hq
        obtain ⟨a1, x1⟩ := p
        obtain ⟨a2, x2⟩ := q
        simp only at c11 c12 c21 c22
        clear d1 d2 d11 d12 d21 d22 l1 l2
        by_cases e : a1 = a2 ∧ x1 = x2
        · obtain ⟨rfl, rfl⟩ := e
          go_upto_region 6 with (fail)
          go_still (by kernel_rfl)
          go_wp2
          go_roundw
          case rel =>
            refine ⟨k + 1, by omega, by go_num, ?_, ?_⟩
            · intro j hj
              by_cases hjk : j = k
              · subst hjk; exact HP.out.trans HQ.out.symm
              · exact hE.out j (by omega)
            · exact hB.out.drew
          case measure => simp [intOf]; omega
        · have HNE := Lib.hid (HNe.out (fun e2 => e (by injection e2 with h1 h2; exact ⟨h1, h2⟩)))
          by_cases ha : a1 = a2
          · subst ha
            have hx : (x1 == x2) = false := by simp at e ⊢; exact e
            have hx2 : ¬ (x1 = x2) := by simpa using hx
            clear e
            go_upto_region 6 with (fail)
            go_still (by kernel_rfl)
            go_wp2
            go_ret
            exact ⟨congrArg (fun b => Ending.returned (Value.bool b)) HNE.out.symm, hB.out.drew⟩
          · have hx : (a1 == a2) = false := by simpa using ha
            clear e
            go_upto_region 6 with (fail)
            go_still (by kernel_rfl)
            go_wp2
            go_ret
            exact ⟨congrArg (fun b => Ending.returned (Value.bool b)) HNE.out.symm, hB.out.drew⟩
      · obtain rfl : k = N := by omega
        have HF : Hid (L = M) := list_ext_args hlen (fun j hj => hE.out j (by have := HN.out; omega))
        go_wp2
        go_ret
        exact ⟨congrArg (fun b => Ending.returned (Value.bool b)) (decide_eq_true HF.out).symm, hB.out⟩
  · have HD : Hid (decide (L = M) = false) := decide_eq_false (fun e => hlen (by rw [e]))
    have hni : ((L.length : Int) == (M.length : Int)) = false := by simp; omega
    go_enter Try.func44, Try.ntmps44
    go_wp2
    go_ret
    exact ⟨congrArg (fun b => Ending.returned (Value.bool b)) HD.out.symm, Below.refl _ _⟩

/-- A statement's own cells, but its body. -/
structure StV where
  k : Int
  a1 : Int
  a2 : Int
  b1 : Int
  b2 : Int
  xs : List (Int × Int)
def StV.eq (s t : StV) : Bool := decide (s.k = t.k) && decide ((s.a1, s.a2) = (t.a1, t.a2)) && decide ((s.b1, s.b2) = (t.b1, t.b2)) && decide (s.xs = t.xs)
set_option maxRecDepth 20000 in
set_option maxHeartbeats 2000000 in
theorem sameBut_any (s t : StV) (A1 A2 B1 B2 : Option Addr) (n1 n2 c1 c2 d1 d2 : Nat) (w : World) (h1 : ArgsAt w (.slice A1 s.xs.length c1) s.xs) (h2 : ArgsAt w (.slice A2 t.xs.length c2) t.xs) (hl : s.xs.length ≤ 1000000000) (hm : t.xs.length ≤ 1000000000) :
    Calls Try.prog 35 #[.agg #[.int .u8 s.k, .int .u8 s.a1, .int .i64 s.a2, .int .u8 s.b1, .int .i64 s.b2, .slice A1 s.xs.length c1, .slice B1 n1 d1], .agg #[.int .u8 t.k, .int .u8 t.a1, .int .i64 t.a2, .int .u8 t.b1, .int .i64 t.b2, .slice A2 t.xs.length c2, .slice B2 n2 d2]] w
      fun e w' => e = .returned (.bool (s.eq t)) ∧ Below w.heap.size w w' := by
  obtain ⟨k, a1, a2, b1, b2, xs⟩ := s
  obtain ⟨k', a1', a2', b1', b2', xs'⟩ := t
  simp only at h1 h2 hl hm ⊢
  have HB : Hid (Below w.heap.size w ((w.alloc (.cells #[.int .u8 k, .int .u8 a1, .int .i64 a2, .int .u8 b1, .int .i64 b2, .slice A1 xs.length c1, .slice B1 n1 d1] 46)).alloc (.cells #[.int .u8 k', .int .u8 a1', .int .i64 a2', .int .u8 b1', .int .i64 b2', .slice A2 xs'.length c2, .slice B2 n2 d2] 46))) := ((Below.refl _ _).alloc (Nat.le_refl _) _).alloc (by simp) _
  have HE := Lib.hid (eqRefs_any _ _ xs xs' _ (h1.old HB.out) (h2.old HB.out) hl hm)
  clear h1 h2
  by_cases hk : k = k'
  · subst hk
    by_cases ha : a1 = a1' ∧ a2 = a2'
    · obtain ⟨rfl, rfl⟩ := ha
      by_cases hb : b1 = b1' ∧ b2 = b2'
      · obtain ⟨rfl, rfl⟩ := hb
        go_enter Try.func35, Try.ntmps35
        go_wp2_with fail
        refine HE.out.mono ?_
        rintro e w2 ⟨rfl, hb2⟩
        have HB2 := Lib.hid (HB.out.trans (hb2.mono HB.out.size))
        clear hb2
        generalize hd : decide (xs = xs') = d
        have HD : Hid (StV.eq ⟨k, a1, a2, b1, b2, xs⟩ ⟨k, a1, a2, b1, b2, xs'⟩ = d) := by show _ = _; rw [← hd]; simp [StV.eq]
        clear hd
        go_wp2
        go_ret
        exact ⟨congrArg (fun b => Ending.returned (Value.bool b)) HD.out.symm, HB2.out⟩
      · have HD : Hid (StV.eq ⟨k, a1, a2, b1, b2, xs⟩ ⟨k, a1, a2, b1', b2', xs'⟩ = false) := by show _ = _; simp [StV.eq, hb]
        by_cases hb1 : b1 = b1'
        · subst hb1
          have hx : (b2 == b2') = false := by simp at hb ⊢; exact hb
          have hx2 : ¬ (b2 = b2') := by simpa using hx
          clear hb
          go_enter Try.func35, Try.ntmps35
          go_wp2
          go_ret
          exact ⟨congrArg (fun b => Ending.returned (Value.bool b)) HD.out.symm, HB.out⟩
        · have hx : (b1 == b1') = false := by simpa using hb1
          clear hb
          go_enter Try.func35, Try.ntmps35
          go_wp2
          go_ret
          exact ⟨congrArg (fun b => Ending.returned (Value.bool b)) HD.out.symm, HB.out⟩
    · have HD : Hid (StV.eq ⟨k, a1, a2, b1, b2, xs⟩ ⟨k, a1', a2', b1', b2', xs'⟩ = false) := by show _ = _; simp [StV.eq, ha]
      by_cases ha1 : a1 = a1'
      · subst ha1
        have hx : (a2 == a2') = false := by simp at ha ⊢; exact ha
        have hx2 : ¬ (a2 = a2') := by simpa using hx
        clear ha
        go_enter Try.func35, Try.ntmps35
        go_wp2
        go_ret
        exact ⟨congrArg (fun b => Ending.returned (Value.bool b)) HD.out.symm, HB.out⟩
      · have hx : (a1 == a1') = false := by simpa using ha1
        clear ha
        go_enter Try.func35, Try.ntmps35
        go_wp2
        go_ret
        exact ⟨congrArg (fun b => Ending.returned (Value.bool b)) HD.out.symm, HB.out⟩
  · have HD : Hid (StV.eq ⟨k, a1, a2, b1, b2, xs⟩ ⟨k', a1', a2', b1', b2', xs'⟩ = false) := by show _ = _; simp [StV.eq, hk]
    have hx : (k == k') = false := by simpa using hk
    go_enter Try.func35, Try.ntmps35
    go_wp2
    go_ret
    exact ⟨congrArg (fun b => Ending.returned (Value.bool b)) HD.out.symm, HB.out⟩
end Go.Proofs.Ytpjoggefklohjaa
