/-
  What the rules on a function leave.
-/
import Derived.Test.YtpdebnecfknohaaTo
namespace Go.Proofs.Ytpdebnecfknohaa
open Go.RowKit
set_option linter.unusedVariables false
set_option linter.unusedSimpArgs false
set_option maxRecDepth 20000

theorem Blk.c9 {W : World} {g t : Nat} {c0 c1 c2 c3 c4 c5 c6 c7 c8 : Value} (h : Blk W g t #[c0, c1, c2, c3, c4, c5, c6, c7, c8]) : W.cell? ⟨g, 0, none⟩ = some c0 ∧ W.cell? ⟨g, 1, none⟩ = some c1 ∧ W.cell? ⟨g, 2, none⟩ = some c2 ∧ W.cell? ⟨g, 3, none⟩ = some c3 ∧ W.cell? ⟨g, 4, none⟩ = some c4 ∧ W.cell? ⟨g, 5, none⟩ = some c5 ∧ W.cell? ⟨g, 6, none⟩ = some c6 ∧ W.cell? ⟨g, 7, none⟩ = some c7 ∧ W.cell? ⟨g, 8, none⟩ = some c8 := ⟨h.cell 0, h.cell 1, h.cell 2, h.cell 3, h.cell 4, h.cell 5, h.cell 6, h.cell 7, h.cell 8⟩
/-- The rule that a statement breaks; 0: none. -/
def stmtF (L : List Fn) (nl ng ns : Nat) (x : It) : Int :=
  if 8 < x.deep then 6 else if kindF x.k x.a1 x.a2 x.b1 x.b2 x.xs x.sub.len = false then 7 else if refsF nl ng L.length ns x.a1 x.a2 x.b1 x.b2 x.xs = false then 8 else if arityF L x.k x.b1 x.b2 x.xs.length = false then 9 else 0
set_option maxHeartbeats 4000000 in
theorem stmt_any (As Ag Af Ae Al At Ab Aa Asub : Option Addr) (ls cs ng cg cf ne ce nl cl ns ct lb cb ca csub : Nat) (fn fp N : Int) (L : List Fn) (x : It) (w : World) (h : ArgsAt w (.slice Aa x.xs.length ca) x.xs) (hl : x.xs.length ≤ 1000000000) (hd : x.deep ≤ 1000000000) (hF : FnsS (fun _ => True) w Af L) :
    Calls Try.prog 40 #[.agg #[.slice As ls cs, .slice Ag ng cg, .slice Af L.length cf, .slice Ae ne ce], .agg #[.int .i64 fn, .int .i64 fp, .slice Al nl cl, .slice At ns ct, .slice Ab lb cb], .agg #[.int .i64 N, .int .i64 (x.deep : Int), .int .u8 x.k, .int .u8 x.a1, .int .i64 x.a2, .int .u8 x.b1, .int .i64 x.b2, .slice Aa x.xs.length ca, .slice Asub x.sub.len csub]] w (InB w (stmtF L nl ng ns x)) := by
  obtain ⟨v, hv⟩ : ∃ v, v = stmtF L nl ng ns x := ⟨_, rfl⟩
  rw [← hv]
  unfold stmtF at hv
  obtain ⟨deep, k, a1, a2, b1, b2, xs, sub⟩ := x
  dsimp only at *
  have hK := fun wx (hx : Below w.heap.size w wx) => kinds_any Aa Asub ca sub.len csub k a1 a2 b1 b2 xs wx (h.old hx) hl
  have hR := fun wx (hx : Below w.heap.size w wx) => refs_any As Ag Af Ae Al At Ab Aa Asub ls cs ng cg L.length cf ne ce nl cl ns ct lb cb ca sub.len csub fn fp k a1 a2 b1 b2 xs wx (h.old hx) hl
  have hA := fun wx (hx : Below w.heap.size w wx) (hb : k = 5 → b1 = 3 → 0 ≤ b2 ∧ b2 < L.length) => arity_any As Ag Af Ae Aa Asub ls cs ng cg cf ne ce ca sub.len csub L k a1 a2 b1 b2 xs.length wx (hF.old hx) hb
  have hth : refsF nl ng L.length ns a1 a2 b1 b2 xs = true → k = 5 → b1 = 3 → 0 ≤ b2 ∧ b2 < L.length := fun h1 _ h3 => by
    simp only [refsF, Bool.and_eq_true] at h1
    obtain ⟨_, _, h4⟩ := h1
    subst h3
    have : withF b2 L.length = true := h4
    simpa [withF] using this
  have HTh := Lib.hid hth
  obtain ⟨na, hn⟩ : ∃ n, n = xs.length := ⟨_, rfl⟩
  obtain ⟨nf, hnf⟩ : ∃ n, n = L.length := ⟨_, rfl⟩
  obtain ⟨lsub, hls⟩ : ∃ n, n = sub.len := ⟨_, rfl⟩
  rw [← hn] at hK hR hA hv ⊢
  rw [← hnf] at hR hA hv ⊢
  rw [← hls] at hK hR hA hv ⊢
  have HNF := Lib.hid hnf
  obtain ⟨bk, hbk⟩ : ∃ b, b = kindF k a1 a2 b1 b2 xs lsub := ⟨_, rfl⟩
  obtain ⟨br, hbr⟩ : ∃ b, b = refsF nl ng nf ns a1 a2 b1 b2 xs := ⟨_, rfl⟩
  obtain ⟨ba, hba⟩ : ∃ b, b = arityF L k b1 b2 na := ⟨_, rfl⟩
  rw [← hbk] at hK hv
  rw [← hbr] at hR hv
  rw [← hba] at hA hv
  have HBR := Lib.hid hbr
  have HK := Lib.hid hK
  have HR := Lib.hid hR
  have HA := Lib.hid hA
  have HV := Lib.hid hv
  clear hK hR hA hv hth h hF hbk hbr hba hn hnf hls
  obtain ⟨w1, hw1⟩ : ∃ w1, w1 = ((w.alloc (.cells #[.slice As ls cs, .slice Ag ng cg, .slice Af nf cf, .slice Ae ne ce] 30)).alloc (.cells #[.int .i64 fn, .int .i64 fp, .slice Al nl cl, .slice At ns ct, .slice Ab lb cb] 40)).alloc (.cells #[.int .i64 N, .int .i64 (deep : Int), .int .u8 k, .int .u8 a1, .int .i64 a2, .int .u8 b1, .int .i64 b2, .slice Aa na ca, .slice Asub lsub csub] 84) := ⟨_, rfl⟩
  have HB1 : Hid (Below w.heap.size w w1) := by rw [hw1]; exact (((Below.refl _ _).alloc (Nat.le_refl _) _).alloc (by simp) _).alloc (by simp; omega) _
  have K1 : Hid (Blk w1 w.heap.size 30 #[.slice As ls cs, .slice Ag ng cg, .slice Af nf cf, .slice Ae ne ce]) := by rw [hw1]; exact ((Blk.new w 30 _).alloc _).alloc _
  have K2 : Hid (Blk w1 (w.heap.size + 1) 40 #[.int .i64 fn, .int .i64 fp, .slice Al nl cl, .slice At ns ct, .slice Ab lb cb]) := by rw [hw1]; exact (Blk.new' _ 40 _ _ (by simp)).alloc _
  have K3 : Hid (Blk w1 (w.heap.size + 1 + 1) 84 #[.int .i64 N, .int .i64 (deep : Int), .int .u8 k, .int .u8 a1, .int .i64 a2, .int .u8 b1, .int .i64 b2, .slice Aa na ca, .slice Asub lsub csub]) := by rw [hw1]; exact Blk.new' _ 84 _ _ (by simp)
  go_enter Try.func40, Try.ntmps40
  go_upto_region 1 with (fail)
  rw [← hw1]
  clear hw1
  obtain ⟨s0, s1, s2, s3, s4, s5, s6, s7, s8⟩ := K3.out.c9
  have z3 : w.heap.size + 1 + 1 < w1.heap.size := K3.out.lt
  by_cases h8 : 8 < deep
  · have h8i : (8 : Int) < (deep : Int) := by omega
    obtain rfl : v = 6 := by rw [HV.out, if_pos h8]
    clear HV
    go_wp2
    go_ret
    exact ⟨rfl, HB1.out⟩
  have h8i : ¬ (8 : Int) < (deep : Int) := by omega
  have hv := HV.out
  rw [if_neg h8] at hv
  have HV2 := Lib.hid hv
  clear HV hv
  go_wp2_with fail
  refine (HK.out _ HB1.out).mono ?_
  rintro e w2 ⟨rfl, hb2⟩
  have HB2 := Lib.hid (HB1.out.trans (hb2.mono HB1.out.size))
  have L1 := Lib.hid (K1.out.old hb2)
  have L2 := Lib.hid (K2.out.old hb2)
  have L3 := Lib.hid (K3.out.old hb2)
  clear hb2 s0 s1 s2 s3 s4 s5 s6 s7 s8 z3 K1 K2 K3
  cases bk with
  | false =>
    obtain rfl : v = 7 := by simpa using HV2.out
    clear HV2
    go_wp2
    go_ret
    exact ⟨rfl, HB2.out⟩
  | true =>
    have hv := HV2.out
    rw [if_neg (by simp)] at hv
    have HV3 := Lib.hid hv
    clear HV2 hv
    obtain ⟨m0, m1, m2, m3⟩ := L1.out.c4
    obtain ⟨f0, f1, f2, f3, f4⟩ := L2.out.c5
    obtain ⟨s0, s1, s2, s3, s4, s5, s6, s7, s8⟩ := L3.out.c9
    have z1 : w.heap.size < w2.heap.size := L1.out.lt
    have z2 : w.heap.size + 1 < w2.heap.size := L2.out.lt
    have z3 : w.heap.size + 1 + 1 < w2.heap.size := L3.out.lt
    go_wp2_with fail
    refine (HR.out _ HB2.out).mono ?_
    rintro e w3 ⟨rfl, hb3⟩
    have HB3 := Lib.hid (HB2.out.trans (hb3.mono HB2.out.size))
    have M1 := Lib.hid (L1.out.old hb3)
    have M2 := Lib.hid (L2.out.old hb3)
    have M3 := Lib.hid (L3.out.old hb3)
    clear hb3 s0 s1 s2 s3 s4 s5 s6 s7 s8 z3 z1 z2 m0 m1 m2 m3 f0 f1 f2 f3 f4 L1 L2 L3
    cases br with
    | false =>
      obtain rfl : v = 8 := by simpa using HV3.out
      clear HV3
      go_wp2
      go_ret
      exact ⟨rfl, HB3.out⟩
    | true =>
      have hv := HV3.out
      rw [if_neg (by simp)] at hv
      have HV4 := Lib.hid hv
      clear HV3 hv
      have hb5 : k = 5 → b1 = 3 → 0 ≤ b2 ∧ b2 < (nf : Int) := by rw [HNF.out]; exact HTh.out (by rw [← HNF.out]; exact HBR.out.symm)
      have HA3 := Lib.hid (HA.out w3 HB3.out hb5)
      clear hb5
      obtain ⟨m0, m1, m2, m3⟩ := M1.out.c4
      obtain ⟨s0, s1, s2, s3, s4, s5, s6, s7, s8⟩ := M3.out.c9
      have z1 : w.heap.size < w3.heap.size := M1.out.lt
      have z3 : w.heap.size + 1 + 1 < w3.heap.size := M3.out.lt
      go_wp2_with fail
      refine HA3.out.mono ?_
      rintro e w4 ⟨rfl, hb4⟩
      have HB4 := Lib.hid (HB3.out.trans (hb4.mono HB3.out.size))
      clear hb4 s0 s1 s2 s3 s4 s5 s6 s7 s8 z3 z1 m0 m1 m2 m3 M1 M2 M3
      cases ba with
      | false =>
        obtain rfl : v = 9 := by simpa using HV4.out
        clear HV4
        go_wp2
        go_ret
        exact ⟨rfl, HB4.out⟩
      | true =>
        obtain rfl : v = 0 := by simpa using HV4.out
        clear HV4
        go_wp2
        go_ret
        exact ⟨rfl, HB4.out⟩

/-- How many more statements might stand beside a body's, where so many may. -/
def roomF : Bd → Int → Int
  | .nil, m => m
  | .cons k _ _ _ _ _ sub rest, m => if (if 0 ≤ m - 1 ∧ k = 7 then roomF sub (m - 1) else m - 1) < 0 then (if 0 ≤ m - 1 ∧ k = 7 then roomF sub (m - 1) else m - 1) else roomF rest (if 0 ≤ m - 1 ∧ k = 7 then roomF sub (m - 1) else m - 1)
theorem roomF_le : ∀ (t : Bd) (m : Int), roomF t m ≤ m
  | .nil, m => by simp [roomF]
  | .cons k _ _ _ _ _ sub rest, m => by
    have h1 := roomF_le sub (m - 1)
    have h2 := roomF_le rest (if 0 ≤ m - 1 ∧ k = 7 then roomF sub (m - 1) else m - 1)
    have h3 : (if 0 ≤ m - 1 ∧ k = 7 then roomF sub (m - 1) else m - 1) ≤ m := by split <;> omega
    simp only [roomF]
    generalize (if 0 ≤ m - 1 ∧ k = 7 then roomF sub (m - 1) else m - 1) = y at *
    split <;> omega
theorem roomF_nn : ∀ (t : Bd) (m : Int), 0 ≤ m → -1 ≤ roomF t m
  | .nil, m, h => by simp only [roomF]; omega
  | .cons k _ _ _ _ _ sub rest, m, h => by
    have h1 := roomF_nn sub (m - 1)
    have h2 := roomF_nn rest (if 0 ≤ m - 1 ∧ k = 7 then roomF sub (m - 1) else m - 1)
    have h3 : -1 ≤ (if 0 ≤ m - 1 ∧ k = 7 then roomF sub (m - 1) else m - 1) := by
      split
      · rename_i hc; exact h1 hc.1
      · omega
    simp only [roomF]
    generalize (if 0 ≤ m - 1 ∧ k = 7 then roomF sub (m - 1) else m - 1) = y at *
    split
    · omega
    · exact h2 (by omega)
end Go.Proofs.Ytpdebnecfknohaa
namespace Go.Proofs.Ytpdebnecfknohaa
open Go.RowKit
set_option linter.unusedVariables false
set_option linter.unusedSimpArgs false
set_option maxRecDepth 20000

set_option maxHeartbeats 2000000 in
theorem room_any (N : Nat) : ∀ (t : Bd) (A : Option Addr) (c : Nat) (m : Int) (w : World), t.size ≤ N → t.size ≤ 100000000 → -1000000000 ≤ m → m ≤ 1000000000 → BodyV w A t → Calls Try.prog 62 #[.slice A t.len c, .int .i64 m] w (InB w (roomF t m)) := by
  induction N with
  | zero =>
    intro t A c m w hN _ hm1 hm2 hV
    have ht : t = .nil := by cases t <;> simp [Bd.size] at hN ⊢
    subst ht
    clear hV
    simp only [Bd.len, roomF]
    go_enter Try.func62, Try.ntmps62
    go_wp2_with fail
    go_loopw [1, 9] (fun s1 s wr => s1 = .int .i64 m ∧ s = .int .i64 0 ∧ wr = w) (fun _ _ _ => 0)
    case atStart => exact ⟨rfl, rfl, rfl⟩
    case round =>
      obtain ⟨rfl, rfl, rfl⟩ := hrel
      go_wp2
      go_ret
      exact ⟨rfl, Below.refl _ _⟩
  | succ N ih =>
    intro t A c m w hN hbig hm1 hm2 hV
    have IH := Lib.hid ih
    have HV := Lib.hid hV
    obtain ⟨v, hv⟩ : ∃ v, roomF (t.drop 0) m = v := ⟨_, rfl⟩
    have HV0 : Hid (roomF (t.drop 0) m = v) := hv
    rw [show roomF t m = roomF (t.drop 0) m from by simp [Bd.drop], hv]
    have hlen := Bd.len_le t
    obtain ⟨n, hn⟩ : ∃ n, n = t.len := ⟨_, rfl⟩
    have HN := Lib.hid hn
    rw [← hn] at hlen ⊢
    clear hV ih hv hn
    go_enter Try.func62, Try.ntmps62
    go_wp2_with fail
    go_loopw [1, 9] (fun s1 s9 wr => ∃ (i : Nat) (mi : Int), i ≤ n ∧ s9 = .int .i64 (i : Int) ∧ s1 = .int .i64 mi ∧ -1000000000 - (i : Int) ≤ mi ∧ mi ≤ 1000000000 ∧ Hid (roomF (t.drop i) mi = v) ∧ Hid (Below w.heap.size w wr)) (fun _ s9 _ => n - (intOf s9).toNat)
    case atStart => exact ⟨0, m, Nat.zero_le _, rfl, rfl, by omega, hm2, HV0, Below.refl _ _⟩
    case round =>
      clear HV0
      obtain ⟨i, mi, hi, rfl, rfl, hmi1, hmi2, hE, hB⟩ := hrel
      by_cases hlt : i < n
      · have hiL : i < t.len := by rw [← HN.out]; exact hlt
        have hli : (i : Int) < (n : Int) := by omega
        obtain ⟨k, a1, a2, b1, b2, xs, sub, rest, hdr⟩ := Bd.drop_cons t i hiL
        obtain ⟨b, o, rfl, hat⟩ := HV.out (by omega)
        have hat0 := hat.drop t b o i
        have hsz1 := Bd.size_drop t i
        have Hnx := Lib.hid (Bd.drop_succ t i hdr)
        have hE2 := hE.out
        rw [hdr] at hat0 hsz1 hE2
        simp only [Bd.size] at hsz1
        simp only [roomF] at hE2
        obtain ⟨⟨d0, d1, d2, d3, d4⟩, ⟨va, d5, ⟨Aa, ca, rfl, _⟩⟩, ⟨As, cs, d6, hsub⟩, _⟩ := hat0
        have hbl : b < w.heap.size := World.block_lt_of_cell? w ⟨b, o + i * 7, none⟩ d0
        have e0 := cell_old hB.out hbl d0
        have e1 := cell_old hB.out hbl d1
        have e2 := cell_old hB.out hbl d2
        have e3 := cell_old hB.out hbl d3
        have e4 := cell_old hB.out hbl d4
        have e5 := cell_old hB.out hbl d5
        have e6 := cell_old hB.out hbl d6
        have HSub : Hid (BodyV w As sub) := hsub
        have HE2 := Lib.hid hE2
        have HBA : Hid (Below w.heap.size w (wr.alloc (.cells #[.int .u8 k, .int .u8 a1, .int .i64 a2, .int .u8 b1, .int .i64 b2, .slice Aa xs.length ca, .slice As sub.len cs] 50))) := hB.out.alloc hB.out.size _
        clear hat hdr hsub d0 d1 d2 d3 d4 d5 d6 hE2 hE
        have hrl := roomF_le sub (mi - 1)
        by_cases hc : 0 ≤ mi - 1 ∧ k = 7
        · obtain ⟨hm0, rfl⟩ := hc
          have hE3 := HE2.out
          have hc7 : 0 ≤ mi - 1 ∧ (7 : Int) = 7 := ⟨hm0, rfl⟩
          rw [if_pos hc7] at hE3
          clear hc7
          have HE3 := Lib.hid hE3
          have hnn := roomF_nn sub (mi - 1) hm0
          have HI := Lib.hid (IH.out sub As cs (mi - 1) _ (by omega) (by omega) (by omega) (by omega) (HSub.out.old HBA.out))
          clear hE3 HE2
          go_wp2_with fail
          refine HI.out.mono ?_
          rintro e w2 ⟨rfl, hb2⟩
          have HB2 := Lib.hid (HBA.out.trans (hb2.mono HBA.out.size))
          clear hb2 e0 e1 e2 e3 e4 e5 e6 HI
          generalize roomF sub (mi - 1) = y at *
          by_cases hy : y < 0
          · obtain rfl : y = v := by have := HE3.out; rwa [if_pos hy] at this
            clear HE3
            go_wp2
            go_ret
            exact ⟨rfl, HB2.out⟩
          · have HE4 : Hid (roomF (t.drop (i + 1)) y = v) := by show _ = _; rw [Hnx.out]; have := HE3.out; rwa [if_neg hy] at this
            clear HE3
            go_wp2
            go_roundw
            case rel => exact ⟨i + 1, y, by omega, by go_num, rfl, by omega, by omega, HE4, HB2⟩
            case measure => simp [intOf]; omega
        · have hE3 := HE2.out
          rw [if_neg hc] at hE3
          have HE3 := Lib.hid hE3
          clear hE3 HE2
          by_cases hy : mi - 1 < 0
          · obtain rfl : mi - 1 = v := by have := HE3.out; rwa [if_pos hy] at this
            clear HE3 hc
            have hy1 : ¬ 0 ≤ mi - 1 := by omega
            go_wp2
            go_ret
            exact ⟨rfl, HBA.out⟩
          · have HE4 : Hid (roomF (t.drop (i + 1)) (mi - 1) = v) := by show _ = _; rw [Hnx.out]; have := HE3.out; rwa [if_neg hy] at this
            have hk7 : (k == 7) = false := by
              have : k ≠ 7 := fun h => hc ⟨by omega, h⟩
              simpa using this
            have hy1 : 0 ≤ mi - 1 := by omega
            clear HE3 hc
            go_wp2
            go_roundw
            case rel => exact ⟨i + 1, mi - 1, by omega, by go_num, rfl, by omega, by omega, HE4, HBA⟩
            case measure => simp [intOf]; omega
      · obtain rfl : i = n := by omega
        obtain rfl : mi = v := by
          have := hE.out
          rw [Bd.drop_end t i (by have := HN.out; omega)] at this
          exact this
        go_wp2
        go_ret
        exact ⟨rfl, hB.out⟩
end Go.Proofs.Ytpdebnecfknohaa
namespace Go.Proofs.Ytpdebnecfknohaa
open Go.RowKit
set_option linter.unusedVariables false
set_option linter.unusedSimpArgs false
set_option maxRecDepth 20000

/-- The rule that a function breaks, but for its statements; 0: none. -/
def funcF (S : List (List UInt8)) (f : Fn) : Int :=
  if 40 < f.locals.length ∨ 40 < f.sites.length ∨ roomF f.body 400 < 0 then 2
  else if f.params < 0 ∨ (f.locals.length : Int) < f.params ∨ 6 < f.params then 4
  else if nmF S [] f.locals ≠ 0 then nmF S [] f.locals else nmF S [] f.sites
/-- Numbers that are ints. -/
def WfI (l : List Int) : Prop := ∀ n ∈ l, -9223372036854775808 ≤ n ∧ n ≤ 9223372036854775807
set_option maxHeartbeats 4000000 in
theorem func_any (S : List (List UInt8)) (As Ag Af Ae Al At Ab : Option Addr) (cs ng cg nf cf ne ce cl ct cb : Nat) (f : Fn) (w : World) (hs : RdS (fun _ => True) w As S.length 1 (strV S)) (hsl : S.length ≤ 1000000) (h1 : RdS (fun _ => True) w Al f.locals.length 1 (intV f.locals)) (h2 : RdS (fun _ => True) w At f.sites.length 1 (intV f.sites)) (h3 : BodyV w Ab f.body) (hb : f.body.size ≤ 100000000) (hw1 : WfI f.locals) (hw2 : WfI f.sites) (hl1 : f.locals.length ≤ 1000000) (hl2 : f.sites.length ≤ 1000000) :
    Calls Try.prog 38 #[.agg #[.slice As S.length cs, .slice Ag ng cg, .slice Af nf cf, .slice Ae ne ce], .agg #[.int .i64 f.name, .int .i64 f.params, .slice Al f.locals.length cl, .slice At f.sites.length ct, .slice Ab f.body.len cb]] w (InB w (funcF S f)) := by
  obtain ⟨v, hv⟩ : ∃ v, v = funcF S f := ⟨_, rfl⟩
  rw [← hv]
  unfold funcF at hv
  obtain ⟨fn, fp, fl, ft, fb⟩ := f
  dsimp only at *
  have hN1 := fun wx (hx : Below w.heap.size w wx) => names_any S As Ag Af Ae Al cs ng cg nf cf ne ce cl fl wx (hs.old hx (by omega)) hsl (h1.old hx (by omega)) hl1 hw1
  have hN2 := fun wx (hx : Below w.heap.size w wx) => names_any S As Ag Af Ae At cs ng cg nf cf ne ce ct ft wx (hs.old hx (by omega)) hsl (h2.old hx (by omega)) hl2 hw2
  have hRm := fun wx (hx : Below w.heap.size w wx) => room_any fb.size fb Ab cb 400 wx (Nat.le_refl _) hb (by omega) (by omega) (h3.old hx)
  obtain ⟨nl, hnl⟩ : ∃ n, n = fl.length := ⟨_, rfl⟩
  obtain ⟨nt, hnt⟩ : ∃ n, n = ft.length := ⟨_, rfl⟩
  obtain ⟨nb, hnb⟩ : ∃ n, n = fb.len := ⟨_, rfl⟩
  obtain ⟨ls, hls⟩ : ∃ n, n = S.length := ⟨_, rfl⟩
  obtain ⟨r1, hr1⟩ : ∃ r, r = nmF S [] fl := ⟨_, rfl⟩
  obtain ⟨r2, hr2⟩ : ∃ r, r = nmF S [] ft := ⟨_, rfl⟩
  obtain ⟨rm, hrm⟩ : ∃ r, r = roomF fb 400 := ⟨_, rfl⟩
  rw [← hnl, ← hls, ← hr1] at hN1
  rw [← hnt, ← hls, ← hr2] at hN2
  rw [← hnb, ← hrm] at hRm
  rw [← hnl, ← hnt, ← hr1, ← hr2, ← hrm] at hv
  rw [← hnl, ← hnt, ← hnb, ← hls]
  have HN1 := Lib.hid hN1
  have HN2 := Lib.hid hN2
  have HRm := Lib.hid hRm
  have HV := Lib.hid hv
  clear hN1 hN2 hRm hv hs hsl h1 h2 h3 hb hw1 hw2 hl1 hl2 hnl hnt hnb hls hr1 hr2 hrm
  obtain ⟨w1, hw1⟩ : ∃ w1, w1 = (w.alloc (.cells #[.slice As ls cs, .slice Ag ng cg, .slice Af nf cf, .slice Ae ne ce] 30)).alloc (.cells #[.int .i64 fn, .int .i64 fp, .slice Al nl cl, .slice At nt ct, .slice Ab nb cb] 40) := ⟨_, rfl⟩
  have HB1 : Hid (Below w.heap.size w w1) := by rw [hw1]; exact ((Below.refl _ _).alloc (Nat.le_refl _) _).alloc (by simp) _
  have K1 : Hid (Blk w1 w.heap.size 30 #[.slice As ls cs, .slice Ag ng cg, .slice Af nf cf, .slice Ae ne ce]) := by rw [hw1]; exact (Blk.new w 30 _).alloc _
  have K2 : Hid (Blk w1 (w.heap.size + 1) 40 #[.int .i64 fn, .int .i64 fp, .slice Al nl cl, .slice At nt ct, .slice Ab nb cb]) := by rw [hw1]; exact Blk.new' _ 40 _ _ (by simp)
  go_enter Try.func38, Try.ntmps38
  go_upto_region 1 with (fail)
  rw [← hw1]
  clear hw1
  obtain ⟨m0, m1, m2, m3⟩ := K1.out.c4
  obtain ⟨f0, f1, f2, f3, f4⟩ := K2.out.c5
  have z1 : w.heap.size < w1.heap.size := K1.out.lt
  have z2 : w.heap.size + 1 < w1.heap.size := K2.out.lt
  by_cases hl : 40 < nl
  · have hli : (40 : Int) < (nl : Int) := by omega
    obtain rfl : v = 2 := by rw [HV.out, if_pos (.inl hl)]
    clear HV
    go_wp2
    go_ret
    exact ⟨rfl, HB1.out⟩
  have hli : ¬ (40 : Int) < (nl : Int) := by omega
  by_cases ht : 40 < nt
  · have hti : (40 : Int) < (nt : Int) := by omega
    obtain rfl : v = 2 := by rw [HV.out, if_pos (.inr (.inl ht))]
    clear HV
    go_wp2
    go_ret
    exact ⟨rfl, HB1.out⟩
  have hti : ¬ (40 : Int) < (nt : Int) := by omega
  go_wp2_with fail
  refine (HRm.out _ HB1.out).mono ?_
  rintro e w2 ⟨rfl, hb2⟩
  have HB2 := Lib.hid (HB1.out.trans (hb2.mono HB1.out.size))
  have L1 := Lib.hid (K1.out.old hb2)
  have L2 := Lib.hid (K2.out.old hb2)
  clear hb2 m0 m1 m2 m3 f0 f1 f2 f3 f4 z1 z2 K1 K2
  obtain ⟨m0, m1, m2, m3⟩ := L1.out.c4
  obtain ⟨f0, f1, f2, f3, f4⟩ := L2.out.c5
  have z1 : w.heap.size < w2.heap.size := L1.out.lt
  have z2 : w.heap.size + 1 < w2.heap.size := L2.out.lt
  by_cases hr : rm < 0
  · obtain rfl : v = 2 := by rw [HV.out, if_pos (.inr (.inr hr))]
    clear HV
    go_wp2
    go_ret
    exact ⟨rfl, HB2.out⟩
  have HV2 : Hid (v = if fp < 0 ∨ (nl : Int) < fp ∨ 6 < fp then 4 else if r1 ≠ 0 then r1 else r2) := by
    show _ = _
    rw [HV.out, if_neg (by omega)]
  clear HV
  by_cases hp0 : fp < 0
  · obtain rfl : v = 4 := by rw [HV2.out, if_pos (.inl hp0)]
    clear HV2
    go_wp2
    go_ret
    exact ⟨rfl, HB2.out⟩
  by_cases hp1 : (nl : Int) < fp
  · obtain rfl : v = 4 := by rw [HV2.out, if_pos (.inr (.inl hp1))]
    clear HV2
    go_wp2
    go_ret
    exact ⟨rfl, HB2.out⟩
  by_cases hp2 : 6 < fp
  · obtain rfl : v = 4 := by rw [HV2.out, if_pos (.inr (.inr hp2))]
    clear HV2
    go_wp2
    go_ret
    exact ⟨rfl, HB2.out⟩
  have HV3 : Hid (v = if r1 ≠ 0 then r1 else r2) := by
    show _ = _
    rw [HV2.out, if_neg (by omega)]
  clear HV2
  go_wp2_with fail
  refine (HN1.out _ HB2.out).mono ?_
  rintro e w3 ⟨rfl, hb3⟩
  have HB3 := Lib.hid (HB2.out.trans (hb3.mono HB2.out.size))
  have M1 := Lib.hid (L1.out.old hb3)
  have M2 := Lib.hid (L2.out.old hb3)
  clear hb3 m0 m1 m2 m3 f0 f1 f2 f3 f4 z1 z2 L1 L2
  by_cases hr1 : r1 = 0
  · subst hr1
    obtain rfl : v = r2 := by rw [HV3.out]; simp
    clear HV3
    obtain ⟨m0, m1, m2, m3⟩ := M1.out.c4
    obtain ⟨f0, f1, f2, f3, f4⟩ := M2.out.c5
    have z1 : w.heap.size < w3.heap.size := M1.out.lt
    have z2 : w.heap.size + 1 < w3.heap.size := M2.out.lt
    go_wp2_with fail
    refine (HN2.out _ HB3.out).mono ?_
    rintro e w4 ⟨rfl, hb4⟩
    have HB4 := Lib.hid (HB3.out.trans (hb4.mono HB3.out.size))
    clear hb4 m0 m1 m2 m3 f0 f1 f2 f3 f4 z1 z2
    go_wp2
    go_ret
    exact ⟨rfl, HB4.out⟩
  · obtain rfl : v = r1 := by rw [HV3.out, if_pos hr1]
    have g0 : (v == 0) = false := by simpa using hr1
    have g1 : (v != 0) = true := by simpa using hr1
    clear HV3
    go_wp2
    go_ret
    exact ⟨rfl, HB3.out⟩
/-- The rule that entries break; 0: none. -/
def entF (nf : Nat) : List Int → List Int → Int
  | _, [] => 0
  | seen, n :: l => if withF n nf = false then 5 else if seen.contains n then 3 else entF nf (seen ++ [n]) l
end Go.Proofs.Ytpdebnecfknohaa
