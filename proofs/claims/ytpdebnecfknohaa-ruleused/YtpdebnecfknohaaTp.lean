/-
  What the rules on a statement leave, one behind the other; how much room there is.
-/
import Derived.Test.YtpdebnecfknohaaTo
namespace Go.Proofs.Ytpdebnecfknohaa
open Go.RowKit
set_option linter.unusedVariables false
set_option linter.unusedSimpArgs false
set_option maxRecDepth 20000

theorem Blk.c9 {W : World} {g t : Nat} {c0 c1 c2 c3 c4 c5 c6 c7 c8 : Value} (h : Blk W g t #[c0, c1, c2, c3, c4, c5, c6, c7, c8]) : W.cell? ⟨g, 0, none⟩ = some c0 ∧ W.cell? ⟨g, 1, none⟩ = some c1 ∧ W.cell? ⟨g, 2, none⟩ = some c2 ∧ W.cell? ⟨g, 3, none⟩ = some c3 ∧ W.cell? ⟨g, 4, none⟩ = some c4 ∧ W.cell? ⟨g, 5, none⟩ = some c5 ∧ W.cell? ⟨g, 6, none⟩ = some c6 ∧ W.cell? ⟨g, 7, none⟩ = some c7 ∧ W.cell? ⟨g, 8, none⟩ = some c8 := ⟨h.cell 0, h.cell 1, h.cell 2, h.cell 3, h.cell 4, h.cell 5, h.cell 6, h.cell 7, h.cell 8⟩
/-- The rule that a statement breaks; 0: none. -/
def stmtF (L : List Fn) (nl ng ns : Nat) (x : It) : Int :=
  if 8 < x.deep then 6 else if kindF x.k x.a1 x.a2 x.b1 x.b2 x.xs x.sub.len = false then 7 else if refsF nl ng L.length ns x.a1 x.a2 x.b1 x.b2 x.xs = false then 8 else if arityF L x.k x.b1 x.b2 x.xs.length = false then 9 else 0
set_option maxHeartbeats 4000000 in
theorem stmt_any (As Ag Af Ae Al At Ab Aa Asub : Option Addr) (ls cs ng cg cf ne ce nl cl ns ct lb cb ca csub : Nat) (fn fp N : Int) (L : List Fn) (x : It) (w : World) (h : ArgsAt w (.slice Aa x.xs.length ca) x.xs) (hl : x.xs.length ≤ 1000000000) (hd : x.deep ≤ 1000000000) (hF : FnsS (fun _ => True) w Af L) :
    Calls Try.prog 40 #[.agg #[.slice As ls cs, .slice Ag ng cg, .slice Af L.length cf, .slice Ae ne ce], .agg #[.int .i64 fn, .int .i64 fp, .slice Al nl cl, .slice At ns ct, .slice Ab lb cb], .agg #[.int .i64 N, .int .i64 (x.deep : Int), .int .u8 x.k, .int .u8 x.a1, .int .i64 x.a2, .int .u8 x.b1, .int .i64 x.b2, .slice Aa x.xs.length ca, .slice Asub x.sub.len csub]] w (InB w (stmtF L nl ng ns x)) := by
  obtain ⟨v, hv⟩ : ∃ v, v = stmtF L nl ng ns x := ⟨_, rfl⟩
  rw [← hv]
  unfold stmtF at hv
  obtain ⟨deep, k, a1, a2, b1, b2, xs, sub⟩ := x
  dsimp only at *
  have hK := fun wx (hx : Below w.heap.size w wx) => kinds_any Aa Asub ca sub.len csub k a1 a2 b1 b2 xs wx (h.old hx) hl
  have hR := fun wx (hx : Below w.heap.size w wx) => refs_any As Ag Af Ae Al At Ab Aa Asub ls cs ng cg L.length cf ne ce nl cl ns ct lb cb ca sub.len csub fn fp k a1 a2 b1 b2 xs wx (h.old hx) hl
  have hA := fun wx (hx : Below w.heap.size w wx) (hb : k = 5 → b1 = 3 → 0 ≤ b2 ∧ b2 < L.length) => arity_any As Ag Af Ae Aa Asub ls cs ng cg cf ne ce ca sub.len csub L k a1 a2 b1 b2 xs.length wx (hF.old hx) hb
  have hth : refsF nl ng L.length ns a1 a2 b1 b2 xs = true → k = 5 → b1 = 3 → 0 ≤ b2 ∧ b2 < L.length := fun h1 _ h3 => by
    simp only [refsF, Bool.and_eq_true] at h1
    obtain ⟨_, _, h4⟩ := h1
    subst h3
    have : withF b2 L.length = true := h4
    simpa [withF] using this
  have HTh := Lib.hid hth
  obtain ⟨na, hn⟩ : ∃ n, n = xs.length := ⟨_, rfl⟩
  obtain ⟨nf, hnf⟩ : ∃ n, n = L.length := ⟨_, rfl⟩
  obtain ⟨lsub, hls⟩ : ∃ n, n = sub.len := ⟨_, rfl⟩
  rw [← hn] at hK hR hA hv ⊢
  rw [← hnf] at hR hA hv ⊢
  rw [← hls] at hK hR hA hv ⊢
  have HNF := Lib.hid hnf
  obtain ⟨bk, hbk⟩ : ∃ b, b = kindF k a1 a2 b1 b2 xs lsub := ⟨_, rfl⟩
  obtain ⟨br, hbr⟩ : ∃ b, b = refsF nl ng nf ns a1 a2 b1 b2 xs := ⟨_, rfl⟩
  obtain ⟨ba, hba⟩ : ∃ b, b = arityF L k b1 b2 na := ⟨_, rfl⟩
  rw [← hbk] at hK hv
  rw [← hbr] at hR hv
  rw [← hba] at hA hv
  have HBR := Lib.hid hbr
  have HK := Lib.hid hK
  have HR := Lib.hid hR
  have HA := Lib.hid hA
  have HV := Lib.hid hv
  clear hK hR hA hv hth h hF hbk hbr hba hn hnf hls
  obtain ⟨w1, hw1⟩ : ∃ w1, w1 = ((w.alloc (.cells #[.slice As ls cs, .slice Ag ng cg, .slice Af nf cf, .slice Ae ne ce] 30)).alloc (.cells #[.int .i64 fn, .int .i64 fp, .slice Al nl cl, .slice At ns ct, .slice Ab lb cb] 40)).alloc (.cells #[.int .i64 N, .int .i64 (deep : Int), .int .u8 k, .int .u8 a1, .int .i64 a2, .int .u8 b1, .int .i64 b2, .slice Aa na ca, .slice Asub lsub csub] 84) := ⟨_, rfl⟩
  have HB1 : Hid (Below w.heap.size w w1) := by rw [hw1]; exact (((Below.refl _ _).alloc (Nat.le_refl _) _).alloc (by simp) _).alloc (by simp; omega) _
  have K1 : Hid (Blk w1 w.heap.size 30 #[.slice As ls cs, .slice Ag ng cg, .slice Af nf cf, .slice Ae ne ce]) := by rw [hw1]; exact ((Blk.new w 30 _).alloc _).alloc _
  have K2 : Hid (Blk w1 (w.heap.size + 1) 40 #[.int .i64 fn, .int .i64 fp, .slice Al nl cl, .slice At ns ct, .slice Ab lb cb]) := by rw [hw1]; exact (Blk.new' _ 40 _ _ (by simp)).alloc _
  have K3 : Hid (Blk w1 (w.heap.size + 1 + 1) 84 #[.int .i64 N, .int .i64 (deep : Int), .int .u8 k, .int .u8 a1, .int .i64 a2, .int .u8 b1, .int .i64 b2, .slice Aa na ca, .slice Asub lsub csub]) := by rw [hw1]; exact Blk.new' _ 84 _ _ (by simp)
  go_enter Try.func40, Try.ntmps40
  go_upto_region 1 with (fail)
  rw [← hw1]
  clear hw1
  obtain ⟨s0, s1, s2, s3, s4, s5, s6, s7, s8⟩ := K3.out.c9
  have z3 : w.heap.size + 1 + 1 < w1.heap.size := K3.out.lt
  by_cases h8 : 8 < deep
  · have h8i : (8 : Int) < (deep : Int) := by omega
    obtain rfl : v = 6 := by rw [HV.out, if_pos h8]
    clear HV
    go_wp2
    go_ret
    exact ⟨rfl, HB1.out⟩
  have h8i : ¬ (8 : Int) < (deep : Int) := by omega
  have hv := HV.out
  rw [if_neg h8] at hv
  have HV2 := Lib.hid hv
  clear HV hv
  go_wp2_with fail
  refine (HK.out _ HB1.out).mono ?_
  rintro e w2 ⟨rfl, hb2⟩
  have HB2 := Lib.hid (HB1.out.trans (hb2.mono HB1.out.size))
  have L1 := Lib.hid (K1.out.old hb2)
  have L2 := Lib.hid (K2.out.old hb2)
  have L3 := Lib.hid (K3.out.old hb2)
  clear hb2 s0 s1 s2 s3 s4 s5 s6 s7 s8 z3 K1 K2 K3
  cases bk with
  | false =>
    obtain rfl : v = 7 := by simpa using HV2.out
    clear HV2
    go_wp2
    go_ret
    exact ⟨rfl, HB2.out⟩
  | true =>
    have hv := HV2.out
    rw [if_neg (by simp)] at hv
    have HV3 := Lib.hid hv
    clear HV2 hv
    obtain ⟨m0, m1, m2, m3⟩ := L1.out.c4
    obtain ⟨f0, f1, f2, f3, f4⟩ := L2.out.c5
    obtain ⟨s0, s1, s2, s3, s4, s5, s6, s7, s8⟩ := L3.out.c9
    have z1 : w.heap.size < w2.heap.size := L1.out.lt
    have z2 : w.heap.size + 1 < w2.heap.size := L2.out.lt
    have z3 : w.heap.size + 1 + 1 < w2.heap.size := L3.out.lt
    go_wp2_with fail
    refine (HR.out _ HB2.out).mono ?_
    rintro e w3 ⟨rfl, hb3⟩
    have HB3 := Lib.hid (HB2.out.trans (hb3.mono HB2.out.size))
    have M1 := Lib.hid (L1.out.old hb3)
    have M2 := Lib.hid (L2.out.old hb3)
    have M3 := Lib.hid (L3.out.old hb3)
    clear hb3 s0 s1 s2 s3 s4 s5 s6 s7 s8 z3 z1 z2 m0 m1 m2 m3 f0 f1 f2 f3 f4 L1 L2 L3
    cases br with
    | false =>
      obtain rfl : v = 8 := by simpa using HV3.out
      clear HV3
      go_wp2
      go_ret
      exact ⟨rfl, HB3.out⟩
    | true =>
      have hv := HV3.out
      rw [if_neg (by simp)] at hv
      have HV4 := Lib.hid hv
      clear HV3 hv
      have hb5 : k = 5 → b1 = 3 → 0 ≤ b2 ∧ b2 < (nf : Int) := by rw [HNF.out]; exact HTh.out (by rw [← HNF.out]; exact HBR.out.symm)
      have HA3 := Lib.hid (HA.out w3 HB3.out hb5)
      clear hb5
      obtain ⟨m0, m1, m2, m3⟩ := M1.out.c4
      obtain ⟨s0, s1, s2, s3, s4, s5, s6, s7, s8⟩ := M3.out.c9
      have z1 : w.heap.size < w3.heap.size := M1.out.lt
      have z3 : w.heap.size + 1 + 1 < w3.heap.size := M3.out.lt
      go_wp2_with fail
      refine HA3.out.mono ?_
      rintro e w4 ⟨rfl, hb4⟩
      have HB4 := Lib.hid (HB3.out.trans (hb4.mono HB3.out.size))
      clear hb4 s0 s1 s2 s3 s4 s5 s6 s7 s8 z3 z1 m0 m1 m2 m3 M1 M2 M3
      cases ba with
      | false =>
        obtain rfl : v = 9 := by simpa using HV4.out
        clear HV4
        go_wp2
        go_ret
        exact ⟨rfl, HB4.out⟩
      | true =>
        obtain rfl : v = 0 := by simpa using HV4.out
        clear HV4
        go_wp2
        go_ret
        exact ⟨rfl, HB4.out⟩

/-- How many more statements might stand beside a body's, where so many may. -/
def roomF : Bd → Int → Int
  | .nil, m => m
  | .cons k _ _ _ _ _ sub rest, m => if (if 0 ≤ m - 1 ∧ k = 7 then roomF sub (m - 1) else m - 1) < 0 then (if 0 ≤ m - 1 ∧ k = 7 then roomF sub (m - 1) else m - 1) else roomF rest (if 0 ≤ m - 1 ∧ k = 7 then roomF sub (m - 1) else m - 1)
theorem roomF_le : ∀ (t : Bd) (m : Int), roomF t m ≤ m
  | .nil, m => by simp [roomF]
  | .cons k _ _ _ _ _ sub rest, m => by
    have h1 := roomF_le sub (m - 1)
    have h2 := roomF_le rest (if 0 ≤ m - 1 ∧ k = 7 then roomF sub (m - 1) else m - 1)
    have h3 : (if 0 ≤ m - 1 ∧ k = 7 then roomF sub (m - 1) else m - 1) ≤ m := by split <;> omega
    simp only [roomF]
    generalize (if 0 ≤ m - 1 ∧ k = 7 then roomF sub (m - 1) else m - 1) = y at *
    split <;> omega
theorem roomF_nn : ∀ (t : Bd) (m : Int), 0 ≤ m → -1 ≤ roomF t m
  | .nil, m, h => by simp only [roomF]; omega
  | .cons k _ _ _ _ _ sub rest, m, h => by
    have h1 := roomF_nn sub (m - 1)
    have h2 := roomF_nn rest (if 0 ≤ m - 1 ∧ k = 7 then roomF sub (m - 1) else m - 1)
    have h3 : -1 ≤ (if 0 ≤ m - 1 ∧ k = 7 then roomF sub (m - 1) else m - 1) := by
      split
      · rename_i hc; exact h1 hc.1
      · omega
    simp only [roomF]
    generalize (if 0 ≤ m - 1 ∧ k = 7 then roomF sub (m - 1) else m - 1) = y at *
    split
    · omega
    · exact h2 (by omega)
end Go.Proofs.Ytpdebnecfknohaa
