/-
  What EqualFunc of two bodies leaves.
-/
import Derived.Test.YtpjoggefklohjaaSb
namespace Go.Proofs.Ytpjoggefklohjaa
open Go.RowKit
set_option linter.unusedVariables false

theorem Bd.len_le : ∀ t : Bd, t.len ≤ t.size
  | .nil => Nat.le_refl _
  | .cons _ _ _ _ _ _ s r => by have := Bd.len_le r; simp only [Bd.len, Bd.size]; omega
/-- The longest row of arguments. -/
def Bd.wide : Bd → Nat
  | .nil => 0
  | .cons _ _ _ _ _ xs s r => xs.length + s.wide + r.wide
theorem Bd.wide_drop : ∀ (t : Bd) (i : Nat), (t.drop i).wide ≤ t.wide
  | t, 0 => by simp [Bd.drop]
  | .nil, i + 1 => by simp [Bd.drop]
  | .cons _ _ _ _ _ _ _ r, i + 1 => by have := Bd.wide_drop r i; simp only [Bd.drop, Bd.wide]; omega
theorem Bd.shal_lenne (t u : Bd) (h : t.len ≠ u.len) : t.shal u = false := by
  cases hs : t.shal u
  · rfl
  · exact absurd (Bd.shal_len t u hs) h

set_option maxRecDepth 20000 in
set_option maxHeartbeats 2000000 in
theorem eqF_any (A B : Option Addr) (c d : Nat) (t u : Bd) (w : World) (h1 : BodyV w A t) (h2 : BodyV w B u) (hl : t.len ≤ 1000000000) (hm : u.len ≤ 1000000000) (hw1 : t.wide ≤ 1000000000) (hw2 : u.wide ≤ 1000000000) :
    Calls Try.prog 34 #[.slice A t.len c, .slice B u.len d, .func (.func 35) #[] #[]] w fun e w' => e = .returned (.bool (t.shal u)) ∧ Below w.heap.size w w' := by
  have H1 := Lib.hid h1
  have H2 := Lib.hid h2
  clear h1 h2
  by_cases hlen : t.len = u.len
  · obtain ⟨N, hN⟩ : ∃ N, N = t.len := ⟨_, rfl⟩
    rw [← hlen, ← hN]
    have HN := Lib.hid hN
    have HLE := Lib.hid hlen
    rw [← hN] at hl
    clear hN hm hlen
    go_enter Try.func34, Try.ntmps34
    go_wp2_with fail
    go_loopw [17] (fun i wr => ∃ k : Nat, k ≤ N ∧ i = .int .i64 k ∧ Hid (t.shal u = (t.drop k).shal (u.drop k)) ∧ Hid (Below w.heap.size w wr)) (fun i _ => N - (intOf i).toNat)
    case atStart => exact ⟨0, Nat.zero_le _, rfl, rfl, Below.refl _ _⟩
    case round =>
      obtain ⟨k, hk, rfl, hE, hB⟩ := hrel
      by_cases hlt : k < N
      · obtain ⟨k1, a1, a2, b1, b2, xs, s1, r1, hd1⟩ := Bd.drop_cons t k (by have := HN.out; omega)
        obtain ⟨k2, a1', a2', b1', b2', xs', s2, r2, hd2⟩ := Bd.drop_cons u k (by have := HN.out; have := HLE.out; omega)
        obtain ⟨b, o, rfl, hat⟩ := H1.out (by have := HN.out; omega)
        obtain ⟨b', o', rfl, hat'⟩ := H2.out (by have := HN.out; have := HLE.out; omega)
        have hwd1 := Bd.wide_drop t k
        have hwd2 := Bd.wide_drop u k
        have q1 := hat.drop t b o k
        have q2 := hat'.drop u b' o' k
        have hE2 := hE.out
        rw [hd1] at q1 hwd1 hE2
        rw [hd2] at q2 hwd2 hE2
        obtain ⟨⟨d0, d1, d2, d3, d4⟩, ⟨va, d5, HA1⟩, ⟨As, cs, d6, _⟩, _⟩ := q1
        obtain ⟨⟨f0, f1, f2, f3, f4⟩, ⟨va', f5, HA2⟩, ⟨As', cs', f6, _⟩, _⟩ := q2
        obtain ⟨Aa, ca, rfl, ha1⟩ := HA1
        obtain ⟨Aa', ca', rfl, ha2⟩ := HA2
        have hbl := World.block_lt_of_cell? w ⟨b, o + k * 7, none⟩ d0
        have hbl' := World.block_lt_of_cell? w ⟨b', o' + k * 7, none⟩ f0
        have e0 := cell_old hB.out hbl d0
        have e1 := cell_old hB.out hbl d1
        have e2 := cell_old hB.out hbl d2
        have e3 := cell_old hB.out hbl d3
        have e4 := cell_old hB.out hbl d4
        have e5 := cell_old hB.out hbl d5
        have e6 := cell_old hB.out hbl d6
        have B1 : Below wr.heap.size wr (wr.alloc (.cells #[.int .u8 k1, .int .u8 a1, .int .i64 a2, .int .u8 b1, .int .i64 b2, .slice Aa xs.length ca, .slice As s1.len cs] 46)) := (Below.refl _ _).alloc (Nat.le_refl _) _
        have hBB := hB.out.trans (B1.mono hB.out.size)
        have g0 := cell_old hBB hbl' f0
        have g1 := cell_old hBB hbl' f1
        have g2 := cell_old hBB hbl' f2
        have g3 := cell_old hBB hbl' f3
        have g4 := cell_old hBB hbl' f4
        have g5 := cell_old hBB hbl' f5
        have g6 := cell_old hBB hbl' f6
        have hB2 := hBB.alloc hBB.size (.cells #[.int .u8 k2, .int .u8 a1', .int .i64 a2', .int .u8 b1', .int .i64 b2', .slice Aa' xs'.length ca', .slice As' s2.len cs'] 46)
        have HB2 := Lib.hid hB2
        have hSB := sameBut_any ⟨k1, a1, a2, b1, b2, xs⟩ ⟨k2, a1', a2', b1', b2', xs'⟩ Aa Aa' As As' s1.len s2.len ca ca' cs cs' _ (ArgsAt.old ⟨Aa, ca, rfl, ha1⟩ hB2) (ArgsAt.old ⟨Aa', ca', rfl, ha2⟩ hB2) (by simp only [Bd.wide] at hwd1 ⊢; omega) (by simp only [Bd.wide] at hwd2 ⊢; omega)
        have HSB := Lib.hid hSB
        have HE2 := Lib.hid hE2
        have Hn1 := Lib.hid (Bd.drop_succ t k hd1)
        have Hn2 := Lib.hid (Bd.drop_succ u k hd2)
        clear d0 d1 d2 d3 d4 d5 d6 f0 f1 f2 f3 f4 f5 f6 hat hat' ha1 ha2 hSB hE2 hE hB2 hd1 hd2 hwd1 hwd2 hbl hbl' B1 hBB
        go_wp2_with fail
        refine HSB.out.mono ?_
        rintro e w3 ⟨rfl, hb3⟩
        have HB3 := Lib.hid (HB2.out.trans (hb3.mono HB2.out.size))
        clear hb3 HSB e0 e1 e2 e3 e4 e5 e6 g0 g1 g2 g3 g4 g5 g6
        have HQ : Hid (t.shal u = (StV.eq ⟨k1, a1, a2, b1, b2, xs⟩ ⟨k2, a1', a2', b1', b2', xs'⟩ && r1.shal r2)) := HE2.out
        generalize StV.eq ⟨k1, a1, a2, b1, b2, xs⟩ ⟨k2, a1', a2', b1', b2', xs'⟩ = q at *
        cases q
        · go_wp2
          go_ret
          exact ⟨congrArg (fun b => Ending.returned (Value.bool b)) (HQ.out.trans (Bool.false_and _)).symm, HB3.out⟩
        · go_wp2
          go_roundw
          case rel => exact ⟨k + 1, by omega, by go_num, by rw [Hn1.out, Hn2.out]; exact HQ.out.trans (Bool.true_and _), HB3⟩
          case measure => simp [intOf]; omega
      · obtain rfl : k = N := by omega
        have hE2 := hE.out
        rw [Bd.drop_end t k (by have := HN.out; omega), Bd.drop_end u k (by have := HN.out; have := HLE.out; omega)] at hE2
        have HE2 := Lib.hid hE2
        clear hE2
        go_wp2
        go_ret
        exact ⟨congrArg (fun b => Ending.returned (Value.bool b)) HE2.out.symm, hB.out⟩
  · have HD := Lib.hid (Bd.shal_lenne t u hlen)
    have hni : ((t.len : Int) == (u.len : Int)) = false := by simp; omega
    go_enter Try.func34, Try.ntmps34
    go_wp2
    go_ret
    exact ⟨congrArg (fun b => Ending.returned (Value.bool b)) HD.out.symm, Below.refl _ _⟩
end Go.Proofs.Ytpjoggefklohjaa
