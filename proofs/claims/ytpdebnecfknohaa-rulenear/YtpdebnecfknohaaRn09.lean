/-
  Parts: Tr Ts Tt Fw Tv.
-/
import Derived.Test.YtpdebnecfknohaaRn00
import Derived.Test.YtpdebnecfknohaaRn01
import Derived.Test.YtpdebnecfknohaaRn02
import Derived.Test.YtpdebnecfknohaaRn03
import Derived.Test.YtpdebnecfknohaaRn04
import Derived.Test.YtpdebnecfknohaaRn07
import Derived.Test.YtpdebnecfknohaaRn08
import Derived.Deep.RegionHeld
namespace Go.Proofs.Ytpdebnecfknohaa
open Go.RowKit
set_option linter.unusedVariables false
set_option linter.unusedSimpArgs false
set_option maxRecDepth 20000
theorem Blk.c9 {W : World} {g t : Nat} {c0 c1 c2 c3 c4 c5 c6 c7 c8 : Value} (h : Blk W g t #[c0, c1, c2, c3, c4, c5, c6, c7, c8]) : W.cell? ⟨g, 0, none⟩ = some c0 ∧ W.cell? ⟨g, 1, none⟩ = some c1 ∧ W.cell? ⟨g, 2, none⟩ = some c2 ∧ W.cell? ⟨g, 3, none⟩ = some c3 ∧ W.cell? ⟨g, 4, none⟩ = some c4 ∧ W.cell? ⟨g, 5, none⟩ = some c5 ∧ W.cell? ⟨g, 6, none⟩ = some c6 ∧ W.cell? ⟨g, 7, none⟩ = some c7 ∧ W.cell? ⟨g, 8, none⟩ = some c8 := ⟨h.cell 0, h.cell 1, h.cell 2, h.cell 3, h.cell 4, h.cell 5, h.cell 6, h.cell 7, h.cell 8⟩
/-- The rule that a statement breaks; 0: none. -/
def stmtF (L : List Fn) (nl ng ns : Nat) (x : It) : Int :=
  if 8 < x.deep then 6 else if kindF x.k x.a1 x.a2 x.b1 x.b2 x.xs x.sub.len = false then 7 else if refsF nl ng L.length ns x.a1 x.a2 x.b1 x.b2 x.xs = false then 8 else if arityF L x.k x.b1 x.b2 x.xs.length = false then 9 else 0
set_option maxHeartbeats 4000000 in
theorem stmt_any (As Ag Af Ae Al At Ab Aa Asub : Option Addr) (ls cs ng cg cf ne ce nl cl ns ct lb cb ca csub : Nat) (fn fp N : Int) (L : List Fn) (x : It) (w : World) (h : ArgsAt w (.slice Aa x.xs.length ca) x.xs) (hl : x.xs.length ≤ 1000000000) (hd : x.deep ≤ 1000000000) (hF : FnsS (fun _ => True) w Af L) :
    Calls Try.prog 40 #[.agg #[.slice As ls cs, .slice Ag ng cg, .slice Af L.length cf, .slice Ae ne ce], .agg #[.int .i64 fn, .int .i64 fp, .slice Al nl cl, .slice At ns ct, .slice Ab lb cb], .agg #[.int .i64 N, .int .i64 (x.deep : Int), .int .u8 x.k, .int .u8 x.a1, .int .i64 x.a2, .int .u8 x.b1, .int .i64 x.b2, .slice Aa x.xs.length ca, .slice Asub x.sub.len csub]] w (InB w (stmtF L nl ng ns x)) := by
  obtain ⟨v, hv⟩ : ∃ v, v = stmtF L nl ng ns x := ⟨_, rfl⟩
  rw [← hv]
  unfold stmtF at hv
  obtain ⟨deep, k, a1, a2, b1, b2, xs, sub⟩ := x
  dsimp only at *
  have hK := fun wx (hx : Below w.heap.size w wx) => kinds_any Aa Asub ca sub.len csub k a1 a2 b1 b2 xs wx (h.old hx) hl
  have hR := fun wx (hx : Below w.heap.size w wx) => refs_any As Ag Af Ae Al At Ab Aa Asub ls cs ng cg L.length cf ne ce nl cl ns ct lb cb ca sub.len csub fn fp k a1 a2 b1 b2 xs wx (h.old hx) hl
  have hA := fun wx (hx : Below w.heap.size w wx) (hb : k = 5 → b1 = 3 → 0 ≤ b2 ∧ b2 < L.length) => arity_any As Ag Af Ae Aa Asub ls cs ng cg cf ne ce ca sub.len csub L k a1 a2 b1 b2 xs.length wx (hF.old hx) hb
  have hth : refsF nl ng L.length ns a1 a2 b1 b2 xs = true → k = 5 → b1 = 3 → 0 ≤ b2 ∧ b2 < L.length := fun h1 _ h3 => by
    simp only [refsF, Bool.and_eq_true] at h1
    obtain ⟨_, _, h4⟩ := h1
    subst h3
    have : withF b2 L.length = true := h4
    simpa [withF] using this
  have HTh := Lib.hid hth
  obtain ⟨na, hn⟩ : ∃ n, n = xs.length := ⟨_, rfl⟩
  obtain ⟨nf, hnf⟩ : ∃ n, n = L.length := ⟨_, rfl⟩
  obtain ⟨lsub, hls⟩ : ∃ n, n = sub.len := ⟨_, rfl⟩
  rw [← hn] at hK hR hA hv ⊢
  rw [← hnf] at hR hA hv ⊢
  rw [← hls] at hK hR hA hv ⊢
  have HNF := Lib.hid hnf
  obtain ⟨bk, hbk⟩ : ∃ b, b = kindF k a1 a2 b1 b2 xs lsub := ⟨_, rfl⟩
  obtain ⟨br, hbr⟩ : ∃ b, b = refsF nl ng nf ns a1 a2 b1 b2 xs := ⟨_, rfl⟩
  obtain ⟨ba, hba⟩ : ∃ b, b = arityF L k b1 b2 na := ⟨_, rfl⟩
  rw [← hbk] at hK hv
  rw [← hbr] at hR hv
  rw [← hba] at hA hv
  have HBR := Lib.hid hbr
  have HK := Lib.hid hK
  have HR := Lib.hid hR
  have HA := Lib.hid hA
  have HV := Lib.hid hv
  clear hK hR hA hv hth h hF hbk hbr hba hn hnf hls
  obtain ⟨w1, hw1⟩ : ∃ w1, w1 = ((w.alloc (.cells #[.slice As ls cs, .slice Ag ng cg, .slice Af nf cf, .slice Ae ne ce] 30)).alloc (.cells #[.int .i64 fn, .int .i64 fp, .slice Al nl cl, .slice At ns ct, .slice Ab lb cb] 40)).alloc (.cells #[.int .i64 N, .int .i64 (deep : Int), .int .u8 k, .int .u8 a1, .int .i64 a2, .int .u8 b1, .int .i64 b2, .slice Aa na ca, .slice Asub lsub csub] 84) := ⟨_, rfl⟩
  have HB1 : Hid (Below w.heap.size w w1) := by rw [hw1]; exact (((Below.refl _ _).alloc (Nat.le_refl _) _).alloc (by simp) _).alloc (by simp; omega) _
  have K1 : Hid (Blk w1 w.heap.size 30 #[.slice As ls cs, .slice Ag ng cg, .slice Af nf cf, .slice Ae ne ce]) := by rw [hw1]; exact ((Blk.new w 30 _).alloc _).alloc _
  have K2 : Hid (Blk w1 (w.heap.size + 1) 40 #[.int .i64 fn, .int .i64 fp, .slice Al nl cl, .slice At ns ct, .slice Ab lb cb]) := by rw [hw1]; exact (Blk.new' _ 40 _ _ (by simp)).alloc _
  have K3 : Hid (Blk w1 (w.heap.size + 1 + 1) 84 #[.int .i64 N, .int .i64 (deep : Int), .int .u8 k, .int .u8 a1, .int .i64 a2, .int .u8 b1, .int .i64 b2, .slice Aa na ca, .slice Asub lsub csub]) := by rw [hw1]; exact Blk.new' _ 84 _ _ (by simp)
  go_enter Try.func40, Try.ntmps40
  go_upto_region 1 with (fail)
  rw [← hw1]
  clear hw1
  obtain ⟨s0, s1, s2, s3, s4, s5, s6, s7, s8⟩ := K3.out.c9
  have z3 : w.heap.size + 1 + 1 < w1.heap.size := K3.out.lt
  by_cases h8 : 8 < deep
  · have h8i : (8 : Int) < (deep : Int) := by omega
    obtain rfl : v = 6 := by rw [HV.out, if_pos h8]
    clear HV
    go_wp2
    go_ret
    exact ⟨rfl, HB1.out⟩
  have h8i : ¬ (8 : Int) < (deep : Int) := by omega
  have hv := HV.out
  rw [if_neg h8] at hv
  have HV2 := Lib.hid hv
  clear HV hv
  go_wp2_with fail
  refine (HK.out _ HB1.out).mono ?_
  rintro e w2 ⟨rfl, hb2⟩
  have HB2 := Lib.hid (HB1.out.trans (hb2.mono HB1.out.size))
  have L1 := Lib.hid (K1.out.old hb2)
  have L2 := Lib.hid (K2.out.old hb2)
  have L3 := Lib.hid (K3.out.old hb2)
  clear hb2 s0 s1 s2 s3 s4 s5 s6 s7 s8 z3 K1 K2 K3
  cases bk with
  | false =>
    obtain rfl : v = 7 := by simpa using HV2.out
    clear HV2
    go_wp2
    go_ret
    exact ⟨rfl, HB2.out⟩
  | true =>
    have hv := HV2.out
    rw [if_neg (by simp)] at hv
    have HV3 := Lib.hid hv
    clear HV2 hv
    obtain ⟨m0, m1, m2, m3⟩ := L1.out.c4
    obtain ⟨f0, f1, f2, f3, f4⟩ := L2.out.c5
    obtain ⟨s0, s1, s2, s3, s4, s5, s6, s7, s8⟩ := L3.out.c9
    have z1 : w.heap.size < w2.heap.size := L1.out.lt
    have z2 : w.heap.size + 1 < w2.heap.size := L2.out.lt
    have z3 : w.heap.size + 1 + 1 < w2.heap.size := L3.out.lt
    go_wp2_with fail
    refine (HR.out _ HB2.out).mono ?_
    rintro e w3 ⟨rfl, hb3⟩
    have HB3 := Lib.hid (HB2.out.trans (hb3.mono HB2.out.size))
    have M1 := Lib.hid (L1.out.old hb3)
    have M2 := Lib.hid (L2.out.old hb3)
    have M3 := Lib.hid (L3.out.old hb3)
    clear hb3 s0 s1 s2 s3 s4 s5 s6 s7 s8 z3 z1 z2 m0 m1 m2 m3 f0 f1 f2 f3 f4 L1 L2 L3
    cases br with
    | false =>
      obtain rfl : v = 8 := by simpa using HV3.out
      clear HV3
      go_wp2
      go_ret
      exact ⟨rfl, HB3.out⟩
    | true =>
      have hv := HV3.out
      rw [if_neg (by simp)] at hv
      have HV4 := Lib.hid hv
      clear HV3 hv
      have hb5 : k = 5 → b1 = 3 → 0 ≤ b2 ∧ b2 < (nf : Int) := by rw [HNF.out]; exact HTh.out (by rw [← HNF.out]; exact HBR.out.symm)
      have HA3 := Lib.hid (HA.out w3 HB3.out hb5)
      clear hb5
      obtain ⟨m0, m1, m2, m3⟩ := M1.out.c4
      obtain ⟨s0, s1, s2, s3, s4, s5, s6, s7, s8⟩ := M3.out.c9
      have z1 : w.heap.size < w3.heap.size := M1.out.lt
      have z3 : w.heap.size + 1 + 1 < w3.heap.size := M3.out.lt
      go_wp2_with fail
      refine HA3.out.mono ?_
      rintro e w4 ⟨rfl, hb4⟩
      have HB4 := Lib.hid (HB3.out.trans (hb4.mono HB3.out.size))
      clear hb4 s0 s1 s2 s3 s4 s5 s6 s7 s8 z3 z1 m0 m1 m2 m3 M1 M2 M3
      cases ba with
      | false =>
        obtain rfl : v = 9 := by simpa using HV4.out
        clear HV4
        go_wp2
        go_ret
        exact ⟨rfl, HB4.out⟩
      | true =>
        obtain rfl : v = 0 := by simpa using HV4.out
        clear HV4
        go_wp2
        go_ret
        exact ⟨rfl, HB4.out⟩
/-- How many more statements might stand beside a body's, where so many may. -/
def roomF : Bd → Int → Int
  | .nil, m => m
  | .cons k _ _ _ _ _ sub rest, m => if (if 0 ≤ m - 1 ∧ k = 7 then roomF sub (m - 1) else m - 1) < 0 then (if 0 ≤ m - 1 ∧ k = 7 then roomF sub (m - 1) else m - 1) else roomF rest (if 0 ≤ m - 1 ∧ k = 7 then roomF sub (m - 1) else m - 1)
theorem roomF_le : ∀ (t : Bd) (m : Int), roomF t m ≤ m
  | .nil, m => by simp [roomF]
  | .cons k _ _ _ _ _ sub rest, m => by
    have h1 := roomF_le sub (m - 1)
    have h2 := roomF_le rest (if 0 ≤ m - 1 ∧ k = 7 then roomF sub (m - 1) else m - 1)
    have h3 : (if 0 ≤ m - 1 ∧ k = 7 then roomF sub (m - 1) else m - 1) ≤ m := by split <;> omega
    simp only [roomF]
    generalize (if 0 ≤ m - 1 ∧ k = 7 then roomF sub (m - 1) else m - 1) = y at *
    split <;> omega
theorem roomF_nn : ∀ (t : Bd) (m : Int), 0 ≤ m → -1 ≤ roomF t m
  | .nil, m, h => by simp only [roomF]; omega
  | .cons k _ _ _ _ _ sub rest, m, h => by
    have h1 := roomF_nn sub (m - 1)
    have h2 := roomF_nn rest (if 0 ≤ m - 1 ∧ k = 7 then roomF sub (m - 1) else m - 1)
    have h3 : -1 ≤ (if 0 ≤ m - 1 ∧ k = 7 then roomF sub (m - 1) else m - 1) := by
      split
      · rename_i hc; exact h1 hc.1
      · omega
    simp only [roomF]
    generalize (if 0 ≤ m - 1 ∧ k = 7 then roomF sub (m - 1) else m - 1) = y at *
    split
    · omega
    · exact h2 (by omega)
end Go.Proofs.Ytpdebnecfknohaa
namespace Go.Proofs.Ytpdebnecfknohaa
open Go.RowKit
set_option linter.unusedVariables false
set_option linter.unusedSimpArgs false
set_option maxRecDepth 20000
set_option maxHeartbeats 2000000 in
theorem room_any (N : Nat) : ∀ (t : Bd) (A : Option Addr) (c : Nat) (m : Int) (w : World), t.size ≤ N → t.size ≤ 100000000 → -1000000000 ≤ m → m ≤ 1000000000 → BodyV w A t → Calls Try.prog 62 #[.slice A t.len c, .int .i64 m] w (InB w (roomF t m)) := by
  induction N with
  | zero =>
    intro t A c m w hN _ hm1 hm2 hV
    have ht : t = .nil := by cases t <;> simp [Bd.size] at hN ⊢
    subst ht
    clear hV
    simp only [Bd.len, roomF]
    go_enter Try.func62, Try.ntmps62
    go_wp2_with fail
    go_loopw [1, 9] (fun s1 s wr => s1 = .int .i64 m ∧ s = .int .i64 0 ∧ wr = w) (fun _ _ _ => 0)
    case atStart => exact ⟨rfl, rfl, rfl⟩
    case round =>
      obtain ⟨rfl, rfl, rfl⟩ := hrel
      go_wp2
      go_ret
      exact ⟨rfl, Below.refl _ _⟩
  | succ N ih =>
    intro t A c m w hN hbig hm1 hm2 hV
    have IH := Lib.hid ih
    have HV := Lib.hid hV
    obtain ⟨v, hv⟩ : ∃ v, roomF (t.drop 0) m = v := ⟨_, rfl⟩
    have HV0 : Hid (roomF (t.drop 0) m = v) := hv
    rw [show roomF t m = roomF (t.drop 0) m from by simp [Bd.drop], hv]
    have hlen := Bd.len_le t
    obtain ⟨n, hn⟩ : ∃ n, n = t.len := ⟨_, rfl⟩
    have HN := Lib.hid hn
    rw [← hn] at hlen ⊢
    clear hV ih hv hn
    go_enter Try.func62, Try.ntmps62
    go_wp2_with fail
    go_loopw [1, 9] (fun s1 s9 wr => ∃ (i : Nat) (mi : Int), i ≤ n ∧ s9 = .int .i64 (i : Int) ∧ s1 = .int .i64 mi ∧ -1000000000 - (i : Int) ≤ mi ∧ mi ≤ 1000000000 ∧ Hid (roomF (t.drop i) mi = v) ∧ Hid (Below w.heap.size w wr)) (fun _ s9 _ => n - (intOf s9).toNat)
    case atStart => exact ⟨0, m, Nat.zero_le _, rfl, rfl, by omega, hm2, HV0, Below.refl _ _⟩
    case round =>
      clear HV0
      obtain ⟨i, mi, hi, rfl, rfl, hmi1, hmi2, hE, hB⟩ := hrel
      by_cases hlt : i < n
      · have hiL : i < t.len := by rw [← HN.out]; exact hlt
        have hli : (i : Int) < (n : Int) := by omega
        obtain ⟨k, a1, a2, b1, b2, xs, sub, rest, hdr⟩ := Bd.drop_cons t i hiL
        obtain ⟨b, o, rfl, hat⟩ := HV.out (by omega)
        have hat0 := hat.drop t b o i
        have hsz1 := Bd.size_drop t i
        have Hnx := Lib.hid (Bd.drop_succ t i hdr)
        have hE2 := hE.out
        rw [hdr] at hat0 hsz1 hE2
        simp only [Bd.size] at hsz1
        simp only [roomF] at hE2
        obtain ⟨⟨d0, d1, d2, d3, d4⟩, ⟨va, d5, ⟨Aa, ca, rfl, _⟩⟩, ⟨As, cs, d6, hsub⟩, _⟩ := hat0
        have hbl : b < w.heap.size := World.block_lt_of_cell? w ⟨b, o + i * 7, none⟩ d0
        have e0 := cell_old hB.out hbl d0
        have e1 := cell_old hB.out hbl d1
        have e2 := cell_old hB.out hbl d2
        have e3 := cell_old hB.out hbl d3
        have e4 := cell_old hB.out hbl d4
        have e5 := cell_old hB.out hbl d5
        have e6 := cell_old hB.out hbl d6
        have HSub : Hid (BodyV w As sub) := hsub
        have HE2 := Lib.hid hE2
        have HBA : Hid (Below w.heap.size w (wr.alloc (.cells #[.int .u8 k, .int .u8 a1, .int .i64 a2, .int .u8 b1, .int .i64 b2, .slice Aa xs.length ca, .slice As sub.len cs] 50))) := hB.out.alloc hB.out.size _
        clear hat hdr hsub d0 d1 d2 d3 d4 d5 d6 hE2 hE
        have hrl := roomF_le sub (mi - 1)
        by_cases hc : 0 ≤ mi - 1 ∧ k = 7
        · obtain ⟨hm0, rfl⟩ := hc
          have hE3 := HE2.out
          have hc7 : 0 ≤ mi - 1 ∧ (7 : Int) = 7 := ⟨hm0, rfl⟩
          rw [if_pos hc7] at hE3
          clear hc7
          have HE3 := Lib.hid hE3
          have hnn := roomF_nn sub (mi - 1) hm0
          have HI := Lib.hid (IH.out sub As cs (mi - 1) _ (by omega) (by omega) (by omega) (by omega) (HSub.out.old HBA.out))
          clear hE3 HE2
          go_wp2_with fail
          refine HI.out.mono ?_
          rintro e w2 ⟨rfl, hb2⟩
          have HB2 := Lib.hid (HBA.out.trans (hb2.mono HBA.out.size))
          clear hb2 e0 e1 e2 e3 e4 e5 e6 HI
          generalize roomF sub (mi - 1) = y at *
          by_cases hy : y < 0
          · obtain rfl : y = v := by have := HE3.out; rwa [if_pos hy] at this
            clear HE3
            go_wp2
            go_ret
            exact ⟨rfl, HB2.out⟩
          · have HE4 : Hid (roomF (t.drop (i + 1)) y = v) := by show _ = _; rw [Hnx.out]; have := HE3.out; rwa [if_neg hy] at this
            clear HE3
            go_wp2
            go_roundw
            case rel => exact ⟨i + 1, y, by omega, by go_num, rfl, by omega, by omega, HE4, HB2⟩
            case measure => simp [intOf]; omega
        · have hE3 := HE2.out
          rw [if_neg hc] at hE3
          have HE3 := Lib.hid hE3
          clear hE3 HE2
          by_cases hy : mi - 1 < 0
          · obtain rfl : mi - 1 = v := by have := HE3.out; rwa [if_pos hy] at this
            clear HE3 hc
            have hy1 : ¬ 0 ≤ mi - 1 := by omega
            go_wp2
            go_ret
            exact ⟨rfl, HBA.out⟩
          · have HE4 : Hid (roomF (t.drop (i + 1)) (mi - 1) = v) := by show _ = _; rw [Hnx.out]; have := HE3.out; rwa [if_neg hy] at this
            have hk7 : (k == 7) = false := by
              have : k ≠ 7 := fun h => hc ⟨by omega, h⟩
              simpa using this
            have hy1 : 0 ≤ mi - 1 := by omega
            clear HE3 hc
            go_wp2
            go_roundw
            case rel => exact ⟨i + 1, mi - 1, by omega, by go_num, rfl, by omega, by omega, HE4, HBA⟩
            case measure => simp [intOf]; omega
      · obtain rfl : i = n := by omega
        obtain rfl : mi = v := by
          have := hE.out
          rw [Bd.drop_end t i (by have := HN.out; omega)] at this
          exact this
        go_wp2
        go_ret
        exact ⟨rfl, hB.out⟩
end Go.Proofs.Ytpdebnecfknohaa
namespace Go.Proofs.Ytpdebnecfknohaa
open Go.RowKit
set_option linter.unusedVariables false
set_option linter.unusedSimpArgs false
set_option maxRecDepth 20000
/-- The rule that a function breaks, but for its statements; 0: none. -/
def funcF (S : List (List UInt8)) (f : Fn) : Int :=
  if 40 < f.locals.length ∨ 40 < f.sites.length ∨ roomF f.body 400 < 0 then 2
  else if f.params < 0 ∨ (f.locals.length : Int) < f.params ∨ 6 < f.params then 4
  else if nmF S [] f.locals ≠ 0 then nmF S [] f.locals else nmF S [] f.sites
/-- Numbers that are ints. -/
def WfI (l : List Int) : Prop := ∀ n ∈ l, -9223372036854775808 ≤ n ∧ n ≤ 9223372036854775807
set_option maxHeartbeats 4000000 in
theorem func_any (S : List (List UInt8)) (As Ag Af Ae Al At Ab : Option Addr) (cs ng cg nf cf ne ce cl ct cb : Nat) (f : Fn) (w : World) (hs : RdS (fun _ => True) w As S.length 1 (strV S)) (hsl : S.length ≤ 1000000) (h1 : RdS (fun _ => True) w Al f.locals.length 1 (intV f.locals)) (h2 : RdS (fun _ => True) w At f.sites.length 1 (intV f.sites)) (h3 : BodyV w Ab f.body) (hb : f.body.size ≤ 100000000) (hw1 : WfI f.locals) (hw2 : WfI f.sites) (hl1 : f.locals.length ≤ 1000000) (hl2 : f.sites.length ≤ 1000000) :
    Calls Try.prog 38 #[.agg #[.slice As S.length cs, .slice Ag ng cg, .slice Af nf cf, .slice Ae ne ce], .agg #[.int .i64 f.name, .int .i64 f.params, .slice Al f.locals.length cl, .slice At f.sites.length ct, .slice Ab f.body.len cb]] w (InB w (funcF S f)) := by
  obtain ⟨v, hv⟩ : ∃ v, v = funcF S f := ⟨_, rfl⟩
  rw [← hv]
  unfold funcF at hv
  obtain ⟨fn, fp, fl, ft, fb⟩ := f
  dsimp only at *
  have hN1 := fun wx (hx : Below w.heap.size w wx) => names_any S As Ag Af Ae Al cs ng cg nf cf ne ce cl fl wx (hs.old hx (by omega)) hsl (h1.old hx (by omega)) hl1 hw1
  have hN2 := fun wx (hx : Below w.heap.size w wx) => names_any S As Ag Af Ae At cs ng cg nf cf ne ce ct ft wx (hs.old hx (by omega)) hsl (h2.old hx (by omega)) hl2 hw2
  have hRm := fun wx (hx : Below w.heap.size w wx) => room_any fb.size fb Ab cb 400 wx (Nat.le_refl _) hb (by omega) (by omega) (h3.old hx)
  obtain ⟨nl, hnl⟩ : ∃ n, n = fl.length := ⟨_, rfl⟩
  obtain ⟨nt, hnt⟩ : ∃ n, n = ft.length := ⟨_, rfl⟩
  obtain ⟨nb, hnb⟩ : ∃ n, n = fb.len := ⟨_, rfl⟩
  obtain ⟨ls, hls⟩ : ∃ n, n = S.length := ⟨_, rfl⟩
  obtain ⟨r1, hr1⟩ : ∃ r, r = nmF S [] fl := ⟨_, rfl⟩
  obtain ⟨r2, hr2⟩ : ∃ r, r = nmF S [] ft := ⟨_, rfl⟩
  obtain ⟨rm, hrm⟩ : ∃ r, r = roomF fb 400 := ⟨_, rfl⟩
  rw [← hnl, ← hls, ← hr1] at hN1
  rw [← hnt, ← hls, ← hr2] at hN2
  rw [← hnb, ← hrm] at hRm
  rw [← hnl, ← hnt, ← hr1, ← hr2, ← hrm] at hv
  rw [← hnl, ← hnt, ← hnb, ← hls]
  have HN1 := Lib.hid hN1
  have HN2 := Lib.hid hN2
  have HRm := Lib.hid hRm
  have HV := Lib.hid hv
  clear hN1 hN2 hRm hv hs hsl h1 h2 h3 hb hw1 hw2 hl1 hl2 hnl hnt hnb hls hr1 hr2 hrm
  obtain ⟨w1, hw1⟩ : ∃ w1, w1 = (w.alloc (.cells #[.slice As ls cs, .slice Ag ng cg, .slice Af nf cf, .slice Ae ne ce] 30)).alloc (.cells #[.int .i64 fn, .int .i64 fp, .slice Al nl cl, .slice At nt ct, .slice Ab nb cb] 40) := ⟨_, rfl⟩
  have HB1 : Hid (Below w.heap.size w w1) := by rw [hw1]; exact ((Below.refl _ _).alloc (Nat.le_refl _) _).alloc (by simp) _
  have K1 : Hid (Blk w1 w.heap.size 30 #[.slice As ls cs, .slice Ag ng cg, .slice Af nf cf, .slice Ae ne ce]) := by rw [hw1]; exact (Blk.new w 30 _).alloc _
  have K2 : Hid (Blk w1 (w.heap.size + 1) 40 #[.int .i64 fn, .int .i64 fp, .slice Al nl cl, .slice At nt ct, .slice Ab nb cb]) := by rw [hw1]; exact Blk.new' _ 40 _ _ (by simp)
  go_enter Try.func38, Try.ntmps38
  go_upto_region 1 with (fail)
  rw [← hw1]
  clear hw1
  obtain ⟨m0, m1, m2, m3⟩ := K1.out.c4
  obtain ⟨f0, f1, f2, f3, f4⟩ := K2.out.c5
  have z1 : w.heap.size < w1.heap.size := K1.out.lt
  have z2 : w.heap.size + 1 < w1.heap.size := K2.out.lt
  by_cases hl : 40 < nl
  · have hli : (40 : Int) < (nl : Int) := by omega
    obtain rfl : v = 2 := by rw [HV.out, if_pos (.inl hl)]
    clear HV
    go_wp2
    go_ret
    exact ⟨rfl, HB1.out⟩
  have hli : ¬ (40 : Int) < (nl : Int) := by omega
  by_cases ht : 40 < nt
  · have hti : (40 : Int) < (nt : Int) := by omega
    obtain rfl : v = 2 := by rw [HV.out, if_pos (.inr (.inl ht))]
    clear HV
    go_wp2
    go_ret
    exact ⟨rfl, HB1.out⟩
  have hti : ¬ (40 : Int) < (nt : Int) := by omega
  go_wp2_with fail
  refine (HRm.out _ HB1.out).mono ?_
  rintro e w2 ⟨rfl, hb2⟩
  have HB2 := Lib.hid (HB1.out.trans (hb2.mono HB1.out.size))
  have L1 := Lib.hid (K1.out.old hb2)
  have L2 := Lib.hid (K2.out.old hb2)
  clear hb2 m0 m1 m2 m3 f0 f1 f2 f3 f4 z1 z2 K1 K2
  obtain ⟨m0, m1, m2, m3⟩ := L1.out.c4
  obtain ⟨f0, f1, f2, f3, f4⟩ := L2.out.c5
  have z1 : w.heap.size < w2.heap.size := L1.out.lt
  have z2 : w.heap.size + 1 < w2.heap.size := L2.out.lt
  by_cases hr : rm < 0
  · obtain rfl : v = 2 := by rw [HV.out, if_pos (.inr (.inr hr))]
    clear HV
    go_wp2
    go_ret
    exact ⟨rfl, HB2.out⟩
  have HV2 : Hid (v = if fp < 0 ∨ (nl : Int) < fp ∨ 6 < fp then 4 else if r1 ≠ 0 then r1 else r2) := by
    show _ = _
    rw [HV.out, if_neg (by omega)]
  clear HV
  by_cases hp0 : fp < 0
  · obtain rfl : v = 4 := by rw [HV2.out, if_pos (.inl hp0)]
    clear HV2
    go_wp2
    go_ret
    exact ⟨rfl, HB2.out⟩
  by_cases hp1 : (nl : Int) < fp
  · obtain rfl : v = 4 := by rw [HV2.out, if_pos (.inr (.inl hp1))]
    clear HV2
    go_wp2
    go_ret
    exact ⟨rfl, HB2.out⟩
  by_cases hp2 : 6 < fp
  · obtain rfl : v = 4 := by rw [HV2.out, if_pos (.inr (.inr hp2))]
    clear HV2
    go_wp2
    go_ret
    exact ⟨rfl, HB2.out⟩
  have HV3 : Hid (v = if r1 ≠ 0 then r1 else r2) := by
    show _ = _
    rw [HV2.out, if_neg (by omega)]
  clear HV2
  go_wp2_with fail
  refine (HN1.out _ HB2.out).mono ?_
  rintro e w3 ⟨rfl, hb3⟩
  have HB3 := Lib.hid (HB2.out.trans (hb3.mono HB2.out.size))
  have M1 := Lib.hid (L1.out.old hb3)
  have M2 := Lib.hid (L2.out.old hb3)
  clear hb3 m0 m1 m2 m3 f0 f1 f2 f3 f4 z1 z2 L1 L2
  by_cases hr1 : r1 = 0
  · subst hr1
    obtain rfl : v = r2 := by rw [HV3.out]; simp
    clear HV3
    obtain ⟨m0, m1, m2, m3⟩ := M1.out.c4
    obtain ⟨f0, f1, f2, f3, f4⟩ := M2.out.c5
    have z1 : w.heap.size < w3.heap.size := M1.out.lt
    have z2 : w.heap.size + 1 < w3.heap.size := M2.out.lt
    go_wp2_with fail
    refine (HN2.out _ HB3.out).mono ?_
    rintro e w4 ⟨rfl, hb4⟩
    have HB4 := Lib.hid (HB3.out.trans (hb4.mono HB3.out.size))
    clear hb4 m0 m1 m2 m3 f0 f1 f2 f3 f4 z1 z2
    go_wp2
    go_ret
    exact ⟨rfl, HB4.out⟩
  · obtain rfl : v = r1 := by rw [HV3.out, if_pos hr1]
    have g0 : (v == 0) = false := by simpa using hr1
    have g1 : (v != 0) = true := by simpa using hr1
    clear HV3
    go_wp2
    go_ret
    exact ⟨rfl, HB3.out⟩
/-- The rule that entries break; 0: none. -/
def entF (nf : Nat) : List Int → List Int → Int
  | _, [] => 0
  | seen, n :: l => if withF n nf = false then 5 else if seen.contains n then 3 else entF nf (seen ++ [n]) l
end Go.Proofs.Ytpdebnecfknohaa
namespace Go.Proofs.Ytpdebnecfknohaa
open Go.RowKit Go.Maps
set_option linter.unusedVariables false
set_option linter.unusedSimpArgs false
set_option maxRecDepth 20000
theorem law3 : Keyed Try.prog 3 := int_keyed Try.underlying3
/-- The set of these. -/
def setN (l : List Int) : DataW Unit := setOf (.agg []) (l.map (Lit.int .i64))
theorem has_setN (l : List Int) (x : Int) : Maps.has (setN l) (.int .i64 x) = l.contains x := by
  unfold setN
  rw [has_setOf _ _ _ (fun y hy => by obtain ⟨_, _, rfl⟩ := List.mem_map.1 hy; trivial), List.any_map]
  induction l with
  | nil => rfl
  | cons a r ih =>
    rw [List.any_cons, List.contains_cons, ih]
    congr 1
    show decide (IntKind.i64 = IntKind.i64 ∧ a = x) = (x == a)
    by_cases e : a = x
    · subst e; simp
    · have e' : ¬ x = a := fun h => e h.symm
      simp [e, e']
theorem setN_snoc (l : List Int) (x : Int) : setN (l ++ [x]) = (setN l).put (.int .i64 x) (.agg []) := by
  unfold setN
  rw [List.map_append, List.map_singleton, setOf_snoc]
set_option maxHeartbeats 2000000 in
theorem ents_any (As Ag Af Ae : Option Addr) (ls cs ng cg nf cf ce : Nat) (l : List Int) (w : World) (h2 : RdS (fun _ => True) w Ae l.length 1 (intV l)) (hll : l.length ≤ 1000000) (hw : WfI l) :
    Calls Try.prog 61 #[.agg #[.slice As ls cs, .slice Ag ng cg, .slice Af nf cf, .slice Ae l.length ce]] w (InB w (entF nf [] l)) := by
  have hmm := @run_makeMap Try.prog
  obtain ⟨v, hv⟩ : ∃ v, entF nf [] l = v := ⟨_, rfl⟩
  have HV0 : Hid (entF nf (l.take 0) (l.drop 0) = v) := hv
  rw [hv]
  have HR2 := Lib.hid h2
  have HW := Lib.hid hw
  have hwi := fun (n : Int) (wx : World) => within_any n nf wx
  have HWi := Lib.hid hwi
  obtain ⟨ll, hl2⟩ : ∃ ll, ll = l.length := ⟨_, rfl⟩
  have HLL := Lib.hid hl2
  rw [← hl2] at hll ⊢
  clear h2 hw hv hl2 hwi
  have HB0 : Hid (Below w.heap.size w ((w.alloc (.cells #[.slice As ls cs, .slice Ag ng cg, .slice Af nf cf, .slice Ae ll ce] 30)).alloc (.map #[] 0))) := ((Below.refl _ _).alloc (Nat.le_refl _) _).alloc (by simp) _
  have K0 : Hid (Blk ((w.alloc (.cells #[.slice As ls cs, .slice Ag ng cg, .slice Af nf cf, .slice Ae ll ce] 30)).alloc (.map #[] 0)) w.heap.size 30 #[.slice As ls cs, .slice Ag ng cg, .slice Af nf cf, .slice Ae ll ce]) := (Blk.new w 30 _).alloc _
  have M0 : Hid (((w.alloc (.cells #[.slice As ls cs, .slice Ag ng cg, .slice Af nf cf, .slice Ae ll ce] 30)).alloc (.map #[] 0)).ownsMap Try.prog 3 (unitElem (H := Unit)) (w.heap.size + 1) 0 (setN (l.take 0))) := by
    have := World.ownsMap_made (w.alloc (.cells #[.slice As ls cs, .slice Ag ng cg, .slice Af nf cf, .slice Ae ll ce] 30)) Try.prog 3 (unitElem (H := Unit))
    show World.ownsMap _ _ _ _ _ _ _
    rw [show setN (l.take 0) = .map [] from rfl]
    simpa using this
  go_enter Try.func61, Try.ntmps61
  go_wp2_with fail
  go_loopw [12] (fun s wr => ∃ (k : Nat), k ≤ ll ∧ s = .int .i64 (k : Int) ∧ Hid (entF nf (l.take k) (l.drop k) = v) ∧ Hid (wr.ownsMap Try.prog 3 (unitElem (H := Unit)) (w.heap.size + 1) k (setN (l.take k))) ∧ Hid (Below w.heap.size w wr) ∧ Hid (Blk wr w.heap.size 30 #[.slice As ls cs, .slice Ag ng cg, .slice Af nf cf, .slice Ae ll ce])) (fun s _ => ll - (intOf s).toNat)
  case atStart => exact ⟨0, Nat.zero_le _, rfl, HV0, M0, HB0, K0⟩
  case round =>
    clear HV0 M0 HB0 K0
    obtain ⟨k, hk, rfl, hV, hM, hB, hK⟩ := hrel
    by_cases hlt : k < ll
    · have hkl : k < l.length := by rw [← HLL.out]; exact hlt
      have hli : (k : Int) < (ll : Int) := by omega
      obtain ⟨b, o, rfl, _, hc⟩ := HR2.out.2 (by omega)
      have hcell : wr.cell? ⟨b, o + k, none⟩ = some (.int .i64 l[k]) := cell_old hB.out (World.block_lt_of_cell? w ⟨b, o + k, none⟩ (hc k _ (intV_get l k hkl))) (hc k _ (intV_get l k hkl))
      have hbl : b < wr.heap.size := World.block_lt_of_cell? wr ⟨b, o + k, none⟩ hcell
      obtain ⟨n, hn⟩ : ∃ n, n = l[k] := ⟨_, rfl⟩
      have hdr : l.drop k = n :: l.drop (k + 1) := by rw [hn]; exact List.drop_eq_getElem_cons hkl
      have htk : l.take (k + 1) = l.take k ++ [n] := by rw [hn]; exact List.take_succ_eq_append_getElem hkl
      obtain ⟨n1, n2⟩ := HW.out n (by rw [hn]; exact List.getElem_mem hkl)
      rw [← hn] at hcell
      have hV2 := hV.out
      rw [hdr] at hV2
      simp only [entF] at hV2
      have HTK := Lib.hid htk
      have HV2 := Lib.hid hV2
      have hkey : keyOf Try.prog 3 (.int .i64 n) = some (.int .i64 n) := keyOf_int_mk Try.underlying3 (by simp [Lit.wf, show IntKind.i64.min = -9223372036854775808 from by decide, show IntKind.i64.max = 9223372036854775807 from by decide]; omega)
      have HKey := Lib.hid hkey
      clear hc hn hdr htk hV2 hV n1 n2 hkey
      obtain ⟨c0, c1, c2, c3⟩ := hK.out.c4
      have zw : w.heap.size < wr.heap.size := hK.out.lt
      go_wp2_with fail
      refine (HWi.out n _).mono ?_
      rintro e w2 ⟨rfl, hb2⟩
      have HB2 := Lib.hid (hB.out.trans (hb2.mono hB.out.size))
      have HK2 := Lib.hid (hK.out.old hb2)
      have HM2 := Lib.hid (ownsMap_old hM.out hb2)
      clear hb2 c0 c1 c2 c3 zw hcell hbl hM hB hK
      obtain ⟨bw, hbw⟩ : ∃ b, b = withF n nf := ⟨_, rfl⟩
      have hV3 := HV2.out
      rw [← hbw] at hV3 ⊢
      have HV3 := Lib.hid hV3
      clear HV2 hV3 hbw
      cases bw with
      | false =>
        obtain rfl : 5 = v := by simpa using HV3.out
        clear HV3
        go_wp2
        go_ret
        exact ⟨rfl, HB2.out⟩
      | true =>
        have hk9 := HKey.out
        have hhas := has_setN (l.take k) n
        obtain ⟨D, hD⟩ : ∃ D, D = setN (l.take k) := ⟨_, rfl⟩
        have HD := Lib.hid hD
        have HM3 : Hid (w2.ownsMap Try.prog 3 (unitElem (H := Unit)) (w.heap.size + 1) k D) := by rw [hD]; exact HM2.out
        rw [← hD] at hhas
        clear hD HM2
        cases hcon : (l.take k).contains n with
        | true =>
          rw [hcon] at hhas
          obtain rfl : 3 = v := by have := HV3.out; rw [hcon] at this; simpa using this
          clear hcon
          go_wp2_with (first
            | (at_lookup; refine wpList_lookup_own_unit _ rfl _ _ 127 rfl 3 125 law3 Try.underlying127 (zero125 _) (w.heap.size + 1) k _ rfl HM3.out _ _ rfl hk9 ?_)
            | go_in)
          go_ret
          exact ⟨rfl, HB2.out.alloc HB2.out.size _⟩
        | false =>
          rw [hcon] at hhas
          have hV4 : entF nf (l.take (k + 1)) (l.drop (k + 1)) = v := by
            have := HV3.out
            rw [hcon] at this
            rw [HTK.out]
            simpa using this
          have HV4 := Lib.hid hV4
          clear hcon hV4
          go_wp2_with (first
            | (at_lookup; refine wpList_lookup_own_unit _ rfl _ _ 127 rfl 3 125 law3 Try.underlying127 (zero125 _) (w.heap.size + 1) k _ rfl HM3.out _ _ rfl hk9 ?_)
            | (at_mapUpdate; refine wpList_mapUpdate_own _ rfl _ _ _ 127 rfl 3 125 law3 Try.underlying127 (unitElem (H := Unit)) (w.heap.size + 1) k _ rfl (HM3.out.alloc _) (by unfold maxLen; omega) _ _ _ rfl rfl hk9 _ [] unitElem_mk ?_; intro w3 hown3 hgrow3)
            | go_in)
          have HM4 : Hid (w3.ownsMap Try.prog 3 (unitElem (H := Unit)) (w.heap.size + 1) (k + 1) (setN (l.take (k + 1)))) := by
            rw [HTK.out, setN_snoc, ← HD.out]
            exact hown3
          have HB3 : Hid (Below w.heap.size w w3) := (HB2.out.alloc HB2.out.size (.cells #[] 125)).grown hgrow3 (by have := HB2.out.size; simp; omega) (fun j hj => by cases hj; omega)
          have HK3 : Hid (Blk w3 w.heap.size 30 #[.slice As ls cs, .slice Ag ng cg, .slice Af nf cf, .slice (some ⟨b, o, none⟩) ll ce]) := (HK2.out.alloc (.cells #[] 125)).grown hgrow3 (by simp)
          clear hown3 hgrow3
          go_roundw
          case rel => exact ⟨k + 1, by omega, by go_num, HV4, HM4, HB3, HK3⟩
          case measure => simp [intOf]; omega
    · obtain rfl : k = ll := by omega
      have hV2 := hV.out
      rw [List.drop_of_length_le (by rw [← HLL.out]; omega)] at hV2
      obtain rfl : 0 = v := hV2
      obtain ⟨c0, c1, c2, c3⟩ := hK.out.c4
      go_wp2
      go_ret
      exact ⟨rfl, hB.out⟩
/-- The functions' names, in a row of the call's own. -/
def namesL (L : List Fn) : List Int := L.map Fn.name
set_option maxHeartbeats 2000000 in
theorem fnames_any (As Ag Af Ae : Option Addr) (ls cs ng cg cf ne ce : Nat) (L : List Fn) (w : World) (hF : FnsS (fun _ => True) w Af L) (hl : L.length ≤ 1000000) :
    Calls Try.prog 60 #[.agg #[.slice As ls cs, .slice Ag ng cg, .slice Af L.length cf, .slice Ae ne ce]] w (IntsPost w (namesL L)) := by
  have HF := Lib.hid hF
  obtain ⟨nf, hnf⟩ : ∃ n, n = L.length := ⟨_, rfl⟩
  have HNF := Lib.hid hnf
  rw [← hnf] at hl ⊢
  clear hF hnf
  have K0 : Hid (Blk (w.alloc (.cells #[.slice As ls cs, .slice Ag ng cg, .slice Af nf cf, .slice Ae ne ce] 30)) w.heap.size 30 #[.slice As ls cs, .slice Ag ng cg, .slice Af nf cf, .slice Ae ne ce]) := Blk.new w 30 _
  have HB0 : Hid (Below w.heap.size w (w.alloc (.cells #[.slice As ls cs, .slice Ag ng cg, .slice Af nf cf, .slice Ae ne ce] 30))) := (Below.refl _ _).alloc (Nat.le_refl _) _
  go_enter Try.func60, Try.ntmps60
  go_wp2_with fail
  go_loopw [3, 9] (fun s3 s9 wr => ∃ (i : Nat) (A : Option Addr) (c : Nat), i ≤ nf ∧ s9 = .int .i64 (i : Int) ∧ s3 = .slice A i c ∧ Hid (wr.ownsRow w.heap.size 3 1 (.slice A i c) i (intV ((namesL L).take i))) ∧ Hid (Below w.heap.size w wr)) (fun _ s9 _ => nf - (intOf s9).toNat)
  case atStart => exact ⟨0, none, 0, Nat.zero_le _, rfl, rfl, World.ownsRow_nil _ _ _ _, HB0⟩
  case round =>
    clear K0 HB0
    obtain ⟨i, A, c, hi, rfl, rfl, hO, hB⟩ := hrel
    by_cases hlt : i < nf
    · have hiL : i < L.length := by rw [← HNF.out]; exact hlt
      have hli : (i : Int) < (nf : Int) := by omega
      obtain ⟨b, o, rfl, _, hc⟩ := HF.out (by omega)
      obtain ⟨fs, ⟨Al, cl, At, ct, Ab, cb, rfl, _⟩, hcc⟩ := hc i hiL
      have d0 := hcc 0 _ rfl
      have hbl : b < w.heap.size := World.block_lt_of_cell? w _ d0
      have e0 := cell_old hB.out hbl d0
      have e1 := cell_old hB.out hbl (hcc 1 _ rfl)
      have e2 := cell_old hB.out hbl (hcc 2 _ rfl)
      have e3 := cell_old hB.out hbl (hcc 3 _ rfl)
      have e4 := cell_old hB.out hbl (hcc 4 _ rfl)
      simp only [Nat.add_zero] at e0
      have htk : (namesL L).take (i + 1) = (namesL L).take i ++ [L[i].name] := by
        have : i < (namesL L).length := by simp [namesL, hiL]
        rw [List.take_succ_eq_append_getElem this]
        simp [namesL]
      have hlt2 : ((namesL L).take i).length = i := by simp [namesL]; omega
      generalize L[i] = f at *
      obtain ⟨fn, fp, fl, ft, fb⟩ := f
      dsimp only at *
      obtain ⟨ll, hll⟩ : ∃ n, n = fl.length := ⟨_, rfl⟩
      obtain ⟨lt, hlt3⟩ : ∃ n, n = ft.length := ⟨_, rfl⟩
      obtain ⟨lb, hlb⟩ : ∃ n, n = fb.len := ⟨_, rfl⟩
      rw [← hll] at e2
      rw [← hlt3] at e3
      rw [← hlb] at e4
      have HTK := Lib.hid htk
      have HBA : Hid (Below w.heap.size w (wr.alloc (.cells #[.int .i64 fn, .int .i64 fp, .slice Al ll cl, .slice At lt ct, .slice Ab lb cb] 40))) := hB.out.alloc hB.out.size _
      have hO2 := hO.out.alloc (.cells #[.int .i64 fn, .int .i64 fp, .slice Al ll cl, .slice At lt ct, .slice Ab lb cb] 40)
      have hp := push1 w.heap.size (.slice A i c) ((namesL L).take i) fn (wr.alloc (.cells #[.int .i64 fn, .int .i64 fp, .slice Al ll cl, .slice At lt ct, .slice Ab lb cb] 40)) (by rw [hlt2]; exact hO2) (by rw [hlt2]; omega) HBA.out.size
      rw [hlt2] at hp
      obtain ⟨q5, c5, w5, hr5, hO5, hg5, _⟩ := hp
      have HO5 : Hid (w5.ownsRow w.heap.size 3 1 (.slice (some ⟨q5, 0, none⟩) (i + 1) c5) (i + 1) (intV ((namesL L).take (i + 1)))) := by
        show World.ownsRow _ _ _ _ _ _ _
        rw [htk]
        rw [show ((namesL L).take i ++ [fn]).length = i + 1 from by rw [List.length_append, hlt2]; rfl] at hO5
        exact hO5
      have HB5 : Hid (Below w.heap.size w w5) := (HBA.out.alloc HBA.out.size _).grown hg5 (by have := HBA.out.size; simp at this ⊢; omega) (fun k hk => (hO2.lt k hk).1)
      simp only [alloc_sizeM] at hr5
      clear hc hcc d0 htk hlt2 hll hlt3 hlb hO2 hO5 hg5
      go_upto_region 5 with (fail)
      go_wp2_with (at_builtin; refine Lib.wpList_append_run _ rfl _ _ 27 27 rfl _ _ rfl rfl _ _ hr5 ?_)
      go_roundw
      case rel => exact ⟨i + 1, _, _, by omega, by go_num, rfl, HO5, HB5⟩
      case measure => simp [intOf]; omega
    · obtain rfl : i = nf := by omega
      have hO2 := hO.out
      rw [List.take_of_length_le (by simp [namesL]; have := HNF.out; omega)] at hO2
      have HO2 := Lib.hid hO2
      have hlen : (namesL L).length = i := by simp [namesL]; exact HNF.out.symm
      have HLen := Lib.hid hlen
      clear hO2 hlen hO
      go_wp2
      go_ret
      exact ⟨A, c, by rw [HLen.out]; rfl, by rw [HLen.out]; exact HO2.out, hB.out⟩
end Go.Proofs.Ytpdebnecfknohaa
namespace Go.Proofs.Ytpdebnecfknohaa
open Go.RowKit
set_option linter.unusedVariables false
set_option linter.unusedSimpArgs false
set_option maxRecDepth 20000
/-- The rule that a module's own lists break; 0: none. -/
def modF (M : Md) : Int :=
  if 40 < M.globs.length ∨ 40 < M.funcs.length ∨ 40 < M.ents.length then 2
  else if nmF M.strs [] M.globs ≠ 0 then nmF M.strs [] M.globs
  else if nmF M.strs [] (namesL M.funcs) ≠ 0 then nmF M.strs [] (namesL M.funcs)
  else entF M.funcs.length [] M.ents
/-- What is asked of a module that is read: its numbers are ints, its lists no longer than memory. -/
structure Md.Wf (M : Md) : Prop where
  strs : M.strs.length ≤ 1000000
  globs : M.globs.length ≤ 1000000 ∧ WfI M.globs
  ents : M.ents.length ≤ 1000000 ∧ WfI M.ents
  funcs : M.funcs.length ≤ 1000000
  fns : ∀ f ∈ M.funcs, WfI f.locals ∧ WfI f.sites ∧ f.locals.length ≤ 1000000 ∧ f.sites.length ≤ 1000000 ∧ f.body.size ≤ 1000000 ∧ f.body.wide ≤ 1000000
  names : WfI (namesL M.funcs)
set_option maxHeartbeats 4000000 in
theorem mod_any (M : Md) (As Ag Af Ae : Option Addr) (cs cg cf ce : Nat) (w : World) (hM : M.Wf) (h : MdR w As Ag Af Ae M) :
    Calls Try.prog 37 #[.agg #[.slice As M.strs.length cs, .slice Ag M.globs.length cg, .slice Af M.funcs.length cf, .slice Ae M.ents.length ce]] w (InB w (modF M)) := by
  obtain ⟨v, hv⟩ : ∃ v, v = modF M := ⟨_, rfl⟩
  rw [← hv]
  unfold modF at hv
  obtain ⟨S, Gl, L, E⟩ := M
  obtain ⟨w1', ⟨w2', w2i⟩, ⟨w3', w3i⟩, w4', _, w5'⟩ := hM
  dsimp only at *
  have hN1 := fun wx (hx : Below w.heap.size w wx) => names_any S As Ag Af Ae Ag cs Gl.length cg L.length cf E.length ce cg Gl wx ((h.strs).old hx (by omega)) w1' ((h.globs).old hx (by omega)) w2' w2i
  have hFn := fun wx (hx : Below w.heap.size w wx) => fnames_any As Ag Af Ae S.length cs Gl.length cg cf E.length ce L wx (h.funcs.old hx) w4'
  have hN2 := fun wx (hx : Below w.heap.size w wx) (A : Option Addr) (c : Nat) (hr : RdS (fun _ => True) wx A (namesL L).length 1 (intV (namesL L))) => names_any S As Ag Af Ae A cs Gl.length cg L.length cf E.length ce c (namesL L) wx ((h.strs).old hx (by omega)) w1' hr (by simp [namesL]; exact w4') w5'
  have hEn := fun wx (hx : Below w.heap.size w wx) => ents_any As Ag Af Ae S.length cs Gl.length cg L.length cf ce E wx ((h.ents).old hx (by omega)) w3' w3i
  obtain ⟨ls, hls⟩ : ∃ n, n = S.length := ⟨_, rfl⟩
  obtain ⟨ng, hng⟩ : ∃ n, n = Gl.length := ⟨_, rfl⟩
  obtain ⟨nf, hnf⟩ : ∃ n, n = L.length := ⟨_, rfl⟩
  obtain ⟨ne, hne⟩ : ∃ n, n = E.length := ⟨_, rfl⟩
  have hln : nf = (namesL L).length := by rw [hnf]; simp [namesL]
  have HLn := Lib.hid hln
  obtain ⟨r1, hr1⟩ : ∃ r, r = nmF S [] Gl := ⟨_, rfl⟩
  obtain ⟨r2, hr2⟩ : ∃ r, r = nmF S [] (namesL L) := ⟨_, rfl⟩
  obtain ⟨r3, hr3⟩ : ∃ r, r = entF nf [] E := ⟨_, rfl⟩
  rw [← hls, ← hng, ← hnf, ← hne] at hN1 hFn hN2 hEn
  rw [← hr1] at hN1
  rw [← hr2, ← hln] at hN2
  rw [← hr3] at hEn
  rw [← hng, ← hnf, ← hne, ← hr1, ← hr2, ← hr3] at hv
  rw [← hls, ← hng, ← hnf, ← hne]
  have HN1 := Lib.hid hN1
  have HFn := Lib.hid hFn
  have HN2 := Lib.hid hN2
  have HEn := Lib.hid hEn
  have HV := Lib.hid hv
  clear hN1 hFn hN2 hEn hv h w1' w2' w2i w3' w3i w4' w5' hls hng hnf hne hln hr1 hr2 hr3
  obtain ⟨w1, hw1⟩ : ∃ w1, w1 = w.alloc (.cells #[.slice As ls cs, .slice Ag ng cg, .slice Af nf cf, .slice Ae ne ce] 30) := ⟨_, rfl⟩
  have HB1 : Hid (Below w.heap.size w w1) := by rw [hw1]; exact (Below.refl _ _).alloc (Nat.le_refl _) _
  have K1 : Hid (Blk w1 w.heap.size 30 #[.slice As ls cs, .slice Ag ng cg, .slice Af nf cf, .slice Ae ne ce]) := by rw [hw1]; exact Blk.new w 30 _
  go_enter Try.func37, Try.ntmps37
  go_upto_region 1 with (fail)
  rw [← hw1]
  clear hw1
  obtain ⟨m0, m1, m2, m3⟩ := K1.out.c4
  have z1 : w.heap.size < w1.heap.size := K1.out.lt
  by_cases hg : 40 < ng
  · have hgi : (40 : Int) < (ng : Int) := by omega
    obtain rfl : v = 2 := by rw [HV.out, if_pos (.inl hg)]
    clear HV
    go_wp2
    go_ret
    exact ⟨rfl, HB1.out⟩
  have hgi : ¬ (40 : Int) < (ng : Int) := by omega
  by_cases hf : 40 < nf
  · have hfi : (40 : Int) < (nf : Int) := by omega
    obtain rfl : v = 2 := by rw [HV.out, if_pos (.inr (.inl hf))]
    clear HV
    go_wp2
    go_ret
    exact ⟨rfl, HB1.out⟩
  have hfi : ¬ (40 : Int) < (nf : Int) := by omega
  by_cases he : 40 < ne
  · have hei : (40 : Int) < (ne : Int) := by omega
    obtain rfl : v = 2 := by rw [HV.out, if_pos (.inr (.inr he))]
    clear HV
    go_wp2
    go_ret
    exact ⟨rfl, HB1.out⟩
  have hei : ¬ (40 : Int) < (ne : Int) := by omega
  have HV2 : Hid (v = if r1 ≠ 0 then r1 else if r2 ≠ 0 then r2 else r3) := by
    show _ = _
    rw [HV.out, if_neg (by omega)]
  clear HV
  go_wp2_with fail
  refine (HN1.out _ HB1.out).mono ?_
  rintro e w2 ⟨rfl, hb2⟩
  have HB2 := Lib.hid (HB1.out.trans (hb2.mono HB1.out.size))
  have L1 := Lib.hid (K1.out.old hb2)
  clear hb2 m0 m1 m2 m3 z1 K1
  by_cases h1 : r1 = 0
  · subst h1
    have HV3 : Hid (v = if r2 ≠ 0 then r2 else r3) := by
      show _ = _
      rw [HV2.out]; simp
    clear HV2
    obtain ⟨m0, m1, m2, m3⟩ := L1.out.c4
    have z1 : w.heap.size < w2.heap.size := L1.out.lt
    go_upto_region 6 with (fail)
    refine wp_region_held_drew (S := (fun W => Below w2.heap.size w2 W)) (by kernel_rfl) (Below.refl _ _).drew (fun hHeld => ?_)
    refine wpAnyH_take (i := 0) (oi := { dst := some 28, op := Op.load 30 (Operand.tmp 1), type := 30, pos := "rule.go:92", after := #[], guard := none }) (v := ?_) rfl (by kernel_rfl) (by kernel_rfl) (by kernel_rfl) (fun _ _ _ h => h) (Or.inl ⟨by rfl, ?_⟩) (by assumption) ?_
    rotate_left
    · (intro W hSW; (try dsimp only at hSW); have q0 := cell_old hSW z1 m0; have q1 := cell_old hSW z1 m1; have q2 := cell_old hSW z1 m2; have q3 := cell_old hSW z1 m3; go_simp; first | done | with_reducible rfl)
    try simp only [Act.put, List.setIfInBounds_toArray, List.set_cons_zero, List.set_cons_succ]
    refine wpAnyH_take (i := 1) (oi := { dst := some 29, op := Op.load 30 (Operand.tmp 1), type := 30, pos := "rule.go:92", after := #[], guard := none }) (v := ?_) rfl (by kernel_rfl) (by kernel_rfl) (by kernel_rfl) (fun _ _ _ h => h) (Or.inl ⟨by rfl, ?_⟩) (by assumption) ?_
    rotate_left
    · (intro W hSW; (try dsimp only at hSW); have q0 := cell_old hSW z1 m0; have q1 := cell_old hSW z1 m1; have q2 := cell_old hSW z1 m2; have q3 := cell_old hSW z1 m3; go_simp; first | done | with_reducible rfl)
    try simp only [Act.put, List.setIfInBounds_toArray, List.set_cons_zero, List.set_cons_succ]
    refine wpAnyH_ready (rs := [2]) (by kernel_rfl) (by simp) ?_
    refine AllReadyH.cons (o := { dst := some 30, op := Op.call { callee := Callee.value (Operand.func 60), args := #[Operand.tmp 29], argTypes := #[30] }, type := 27, pos := "rule.go:92", after := #[{ on := 1, ground := Ground.data }], guard := none }) rfl (fun KQ hKQ => ?_) AllReadyH.nil
    go_simp
    refine (HFn.out _ (HB2.out.trans (hHeld.mono HB2.out.size))).mono ?_
    rintro e w3 ⟨A3, c3, rfl, hO3, hb3⟩
    rw [← HLn.out] at hO3 ⊢
    have hS3 : Below w2.heap.size w2 w3 := hHeld.trans (hb3.mono hHeld.size)
    refine hKQ.out _ _ hS3 (fun _ => ?_)
    clear hKQ KQ
    try simp only [Act.put, List.setIfInBounds_toArray, List.set_cons_zero, List.set_cons_succ]
    have hN := HN2.out w3 (HB2.out.trans (hS3.mono HB2.out.size)) A3 c3 ((RdS.own hO3).below (fun _ _ => trivial))
    refine wpAnyH_ready (rs := [3]) (by kernel_rfl) (by simp) ?_
    refine AllReadyH.cons (o := { dst := some 31, op := Op.call { callee := Callee.value (Operand.func 59), args := #[Operand.tmp 28, Operand.tmp 30], argTypes := #[30, 27] }, type := 3, pos := "rule.go:92", after := #[{ on := 0, ground := Ground.data }, { on := 2, ground := Ground.data }, { on := 2, ground := Ground.chain }], guard := none }) rfl (fun KQ hKQ => ?_) AllReadyH.nil
    go_simp
    refine hN.mono ?_
    rintro e w4 ⟨rfl, hb4⟩
    have hS4 : Below w2.heap.size w2 w4 := hS3.trans (hb4.mono hS3.size)
    refine hKQ.out _ _ hS4 (fun _ => ?_)
    clear hKQ KQ hN
    try simp only [Act.put, List.setIfInBounds_toArray, List.set_cons_zero, List.set_cons_succ]
    refine wpAnyH_take (i := 4) (oi := { dst := some 4, op := Op.assign (Operand.tmp 31), type := 3, pos := "rule.go:92", after := #[{ on := 3, ground := Ground.data }, { on := 3, ground := Ground.chain }, { on := 0, ground := Ground.phase }, { on := 1, ground := Ground.phase }, { on := 2, ground := Ground.phase }, { on := 3, ground := Ground.phase }], guard := none }) (v := ?_) rfl (by kernel_rfl) (by kernel_rfl) (by kernel_rfl) (fun _ _ _ h => h) (Or.inl ⟨by rfl, ?_⟩) (by assumption) ?_
    rotate_left
    · (intro W hSW; (try dsimp only at hSW); go_simp; first | done | with_reducible rfl)
    try simp only [Act.put, List.setIfInBounds_toArray, List.set_cons_zero, List.set_cons_succ]
    refine wpAnyH_done (by kernel_rfl) ?_ _
    have HS4 := Lib.hid hS4
    clear hHeld hS3 hS4 hO3 hb3 hb4 m0 m1 m2 m3 z1
    have HB4 := Lib.hid (HB2.out.trans (HS4.out.mono HB2.out.size))
    have M1 := Lib.hid (L1.out.old HS4.out)
    by_cases h2 : r2 = 0
    · subst h2
      obtain rfl : v = r3 := by rw [HV3.out]; simp
      clear HV3
      obtain ⟨m0, m1, m2, m3⟩ := M1.out.c4
      have z1 : w.heap.size < w4.heap.size := M1.out.lt
      go_wp2_with fail
      refine (HEn.out _ HB4.out).mono ?_
      rintro e w5 ⟨rfl, hb5⟩
      have HB5 := Lib.hid (HB4.out.trans (hb5.mono HB4.out.size))
      clear hb5 m0 m1 m2 m3 z1
      go_wp2
      go_ret
      exact ⟨rfl, HB5.out⟩
    · obtain rfl : v = r2 := by rw [HV3.out, if_pos h2]
      have g0 : (v == 0) = false := by simpa using h2
      have g1 : (v != 0) = true := by simpa using h2
      clear HV3
      go_wp2
      go_ret
      exact ⟨rfl, HB4.out⟩
  · obtain rfl : v = r1 := by rw [HV2.out, if_pos h1]
    have g0 : (v == 0) = false := by simpa using h1
    have g1 : (v != 0) = true := by simpa using h1
    clear HV2
    go_wp2
    go_ret
    exact ⟨rfl, HB2.out⟩
end Go.Proofs.Ytpdebnecfknohaa
namespace Go.Proofs.Ytpdebnecfknohaa
open Go.RowKit
set_option linter.unusedVariables false
set_option maxRecDepth 20000
theorem info84 : (Try.prog.info? 84).map (fun i => (i.zero, i.size, i.bytes)) = some (some (.agg #[.int .i64 0, .int .i64 0, .int .u8 0, .int .u8 0, .int .i64 0, .int .u8 0, .int .i64 0, .slice none 0 0, .slice none 0 0]), 9, 104) := by kernel_rfl
theorem info90 : (Try.prog.info? 90).map (fun i => (i.zero, i.size, i.bytes)) = some (some (.agg #[.int .i64 0, .int .i64 0, .int .u8 0, .int .u8 0, .int .i64 0, .int .u8 0, .int .i64 0, .slice none 0 0, .slice none 0 0]), 9, 104) := by kernel_rfl
/-- A truth, and nothing else. -/
def AnyB (w : World) (e : Ending) (w' : World) : Prop := ∃ v, e = .returned (.bool v) ∧ w' = w
end Go.Proofs.Ytpdebnecfknohaa
namespace Go.Proofs.Ytpdebnecfknohaa
open Go.RowKit
set_option linter.unusedVariables false
set_option maxRecDepth 20000
/-- A list of items that a box holds, of the call's own; and what is left as it was. -/
structure FlI (w0 w : World) (g : Nat) (v : Value) (L : List It) : Prop where
  box : Blk w g 81 #[v]
  row : ItRow 84 w w0.heap.size (fun k => k ≠ g) v L
  bel : Below w0.heap.size w0 w
  gin : w0.heap.size ≤ g
/-- Blocks other than the box and the row are as they were. -/
structure FlK (w w' : World) (g : Nat) (v v' : Value) : Prop where
  size : w.heap.size ≤ w'.heap.size
  block : ∀ k, k < w.heap.size → k ≠ g → some k ≠ v.ownBlock → w'.heap[k]? = w.heap[k]?
  own : ∀ k, some k = v'.ownBlock → some k = v.ownBlock ∨ w.heap.size ≤ k
theorem FlK.refl (w : World) (g : Nat) (v : Value) : FlK w w g v v := ⟨Nat.le_refl _, fun _ _ _ _ => rfl, fun _ h => .inl h⟩
theorem FlK.trans {a b c : World} {g : Nat} {v v' v'' : Value} (h : FlK a b g v v') (h' : FlK b c g v' v'') : FlK a c g v v'' :=
  ⟨Nat.le_trans h.size h'.size, fun k hk hg hv => (h'.block k (Nat.lt_of_lt_of_le hk h.size) hg (fun e => by
      rcases h.own k e with e | e
      · exact hv e
      · omega)).trans (h.block k hk hg hv), fun k hk => by
    rcases h'.own k hk with e | e
    · exact h.own k e
    · exact .inr (Nat.le_trans h.size e)⟩
theorem FlI.more {w0 w w' : World} {g : Nat} {v : Value} {L : List It} (h : FlI w0 w g v L) (hb : Below w.heap.size w w') : FlI w0 w' g v L :=
  ⟨h.box.old hb, h.row.old hb, h.bel.trans (hb.mono h.bel.size), h.gin⟩
theorem FlK.more {w w1 w' : World} {g : Nat} {v v' : Value} (hb : Below w.heap.size w w1) (h : FlK w1 w' g v v') : FlK w w' g v v' :=
  ⟨Nat.le_trans hb.size h.size, fun k hk hg hv => (h.block k (Nat.lt_of_lt_of_le hk hb.size) hg hv).trans (hb.block k hk), fun k hk => by
    rcases h.own k hk with e | e
    · exact .inl e
    · exact .inr (Nat.le_trans hb.size e)⟩
set_option maxRecDepth 20000 in
set_option maxHeartbeats 2000000 in
theorem cloF_any (w0 : World) (x : It) (Aa As : Option Addr) (ca cs g : Nat) (v : Value) (L : List It) (w : World) (h : FlI w0 w g v L) (hl : L.length ≤ 100000000) (hx : x.xs.length ≤ 1000000000) (hs : x.sub.len ≤ 1000000000) (ha : ArgsAt w0 (.slice Aa x.xs.length ca) x.xs) (hb : BodyV w0 As x.sub) :
    Calls Try.prog 64 #[.int .i64 (x.deep : Int), .agg #[.int .u8 x.k, .int .u8 x.a1, .int .i64 x.a2, .int .u8 x.b1, .int .i64 x.b2, .slice Aa x.xs.length ca, .slice As x.sub.len cs], .pointer (some ⟨g, 0, none⟩)] w fun e w' => e = .returned (.tuple #[]) ∧ ∃ v', FlI w0 w' g v' (L ++ [x]) ∧ FlK w w' g v v' := by
  obtain ⟨deep, k, a1, a2, b1, b2, xs, sub⟩ := x
  dsimp only at *
  obtain ⟨A, c, rfl⟩ := h.row.slice
  have HI := Lib.hid h
  have HAr := Lib.hid ha
  have HBd := Lib.hid hb
  have hgl : g < w.heap.size := h.box.lt
  obtain ⟨n, hn⟩ : ∃ n, n = L.length := ⟨_, rfl⟩
  obtain ⟨nx, hnx⟩ : ∃ nx, nx = xs.length := ⟨_, rfl⟩
  obtain ⟨nb, hnb⟩ : ∃ nb, nb = sub.len := ⟨_, rfl⟩
  have HN := Lib.hid hn
  have HNX := Lib.hid hnx
  have HNB := Lib.hid hnb
  have hCl := cloneR_any Aa ca xs (w.alloc (.cells #[.int .u8 k, .int .u8 a1, .int .i64 a2, .int .u8 b1, .int .i64 b2, .slice Aa nx ca, .slice As nb cs] 50)) (ha.old (h.bel.alloc h.bel.size _)) hx
  rw [← hnx] at hCl
  have HCl := Lib.hid hCl
  have HB0 : Hid (Below w.heap.size w (w.alloc (.cells #[.int .u8 k, .int .u8 a1, .int .i64 a2, .int .u8 b1, .int .i64 b2, .slice Aa nx ca, .slice As nb cs] 50))) := (Below.refl _ _).alloc (Nat.le_refl _) _
  have HK0 : Hid (Blk (w.alloc (.cells #[.int .u8 k, .int .u8 a1, .int .i64 a2, .int .u8 b1, .int .i64 b2, .slice Aa nx ca, .slice As nb cs] 50)) w.heap.size 50 #[.int .u8 k, .int .u8 a1, .int .i64 a2, .int .u8 b1, .int .i64 b2, .slice Aa nx ca, .slice As nb cs]) := Blk.new w 50 _
  rw [← hn] at hl ⊢
  rw [← hnx] at hx ⊢
  rw [← hnb] at hs ⊢
  clear h ha hb hCl hn hnx hnb
  have hsz0 : w.heap.size < (w.alloc (.cells #[.int .u8 k, .int .u8 a1, .int .i64 a2, .int .u8 b1, .int .i64 b2, .slice Aa nx ca, .slice As nb cs] 50)).heap.size := by simp
  go_enter Try.func64, Try.ntmps64
  go_upto_region 1 with (fail)
  generalize w.alloc (.cells #[.int .u8 k, .int .u8 a1, .int .i64 a2, .int .u8 b1, .int .i64 b2, .slice Aa nx ca, .slice As nb cs] 50) = w1 at *
  obtain ⟨p0, p1, p2, p3, p4, p5, p6⟩ := HK0.out.c7
  go_wp2_with fail
  refine HCl.out.mono ?_
  rintro e w2 ⟨A2, c2, rfl, hA2, hB2⟩
  have hK2 := HK0.out.old hB2
  have hS2 : w.heap.size < w2.heap.size := hK2.lt
  have HK2 : Hid (Blk (w2.setCell ⟨w.heap.size, 5, none⟩ (.slice A2 nx c2)) w.heap.size 50 #[.int .u8 k, .int .u8 a1, .int .i64 a2, .int .u8 b1, .int .i64 b2, .slice A2 nx c2, .slice As nb cs]) := hK2.set_ 5 _
  have hf5 := hK2.frozen 5
  have c55 : w2.cell? ⟨w.heap.size, 5, none⟩ = some (.slice Aa nx ca) := hK2.cell 5
  have HB2 : Hid (Below w.heap.size w (w2.setCell ⟨w.heap.size, 5, none⟩ (.slice A2 nx c2))) := Below.set1 (HB0.out.trans (hB2.mono HB0.out.size)) (Nat.le_refl _) _
  have HA2 : Hid (ArgsS (fun k => w.heap.size < k) (w2.setCell ⟨w.heap.size, 5, none⟩ (.slice A2 nx c2)) (.slice A2 nx c2) xs) := hA2.kept (fun k hk hlt => Below.heap_setCell w2 _ _ k (by show k ≠ w.heap.size; omega)) (fun k hk _ => by omega)
  clear hK2 hB2 hA2 HCl HK0 HB0 p0 p1 p2 p3 p4 p5 p6 hsz0
  go_upto_region 2 with (fail)
  generalize w2.setCell ⟨w.heap.size, 5, none⟩ (.slice A2 nx c2) = w3 at *
  clear c55 hf5 hS2
  obtain ⟨p0, p1, p2, p3, p4, p5, p6⟩ := HK2.out.c7
  have hCl := cloneS_any (fun k => k < w0.heap.size) As cs sub w3 ((HBd.out.toS).kept (fun k hk hlt => (HI.out.bel.trans (HB2.out.mono HI.out.bel.size)).block k hlt) (fun k hk _ => hk)) (by rw [← HNB.out]; exact hs)
  rw [← HNB.out] at hCl
  have HCl := Lib.hid hCl
  clear hCl
  have hlt3 : w.heap.size < w3.heap.size := HK2.out.lt
  go_wp2_with fail
  refine HCl.out.mono ?_
  rintro e w4 ⟨A4, c4, rfl, ⟨cs4, hO4, hC4⟩, hB4⟩
  have hK4 := HK2.out.old hB4
  have hlt4 : w.heap.size < w4.heap.size := hK4.lt
  have hf6 := hK4.frozen 6
  have c66 : w4.cell? ⟨w.heap.size, 6, none⟩ = some (.slice As nb cs) := hK4.cell 6
  have HK5 : Hid (Blk (w4.setCell ⟨w.heap.size, 6, none⟩ (.slice A4 nb c4)) w.heap.size 50 #[.int .u8 k, .int .u8 a1, .int .i64 a2, .int .u8 b1, .int .i64 b2, .slice A2 nx c2, .slice A4 nb c4]) := hK4.set_ 6 _
  have hB45 := HB2.out.trans (hB4.mono HB2.out.size)
  have HB5 : Hid (Below w.heap.size w (w4.setCell ⟨w.heap.size, 6, none⟩ (.slice A4 nb c4))) := Below.set1 hB45 (Nat.le_refl _) _
  have hkp : ∀ k, k ≠ w.heap.size → (w4.setCell ⟨w.heap.size, 6, none⟩ (.slice A4 nb c4)).heap[k]? = w4.heap[k]? := fun k hk => Below.heap_setCell w4 _ _ k hk
  have HA5 : Hid (ArgsS (fun k => w.heap.size < k) (w4.setCell ⟨w.heap.size, 6, none⟩ (.slice A4 nb c4)) (.slice A2 nx c2) xs) := HA2.out.kept (fun k hk hlt => (hkp k (by omega)).trans (hB4.block k hlt)) (fun k hk _ => hk)
  have hw0 := HI.out.bel.size
  have HO5 : Hid (BodyS (fun k => k < w0.heap.size ∨ w.heap.size < k) (w4.setCell ⟨w.heap.size, 6, none⟩ (.slice A4 nb c4)) A4 sub) := by
    refine own_body HNB.out (own_blocks hO4 (fun k hk => hkp k (by have := (hO4.lt k hk.symm).1; omega))) (CellsB.kept (fun k hk hlt => ?_) (fun k hk _ => .inl hk) sub cs4 hC4) (fun k hk => .inr (by omega))
    rw [hkp k (by omega)]
    exact hB4.block k hlt
  clear hK4 hB4 hO4 hC4 hB45 hkp HCl HK2 HB2 HA2 p0 p1 p2 p3 p4 p5 p6 hlt3
  go_upto_region 3 with (fail)
  generalize w4.setCell ⟨w.heap.size, 6, none⟩ (.slice A4 nb c4) = w5 at *
  clear c66 hf6 hlt4
  have hI5 := HI.out.more HB5.out
  have hne : ∀ k, some k = (Value.slice A n c).ownBlock → k < w.heap.size ∧ w0.heap.size ≤ k := fun k hk => by
    have := HI.out.row.blk k (by rw [← HN.out]; exact hk); omega
  have hg0 := HI.out.gin
  obtain ⟨q6, c6, w6, hr6, hR6, hs6, hk6, hq6, hb6⟩ := push9 84 81 _ Try.underlying81 info84 rfl w0.heap.size (fun k => k ≠ g) (.slice A n c) L ⟨deep, k, a1, a2, b1, b2, xs, sub⟩ A2 A4 c2 c4 n HN.out w5 (by rw [HN.out]; exact hI5.row) (by rw [← HN.out]; omega) hI5.bel.size
    (by rw [← HNX.out]; exact HA5.out.kept (fun _ _ _ => rfl) (fun k hk hlt => ⟨fun e => by have := hne k e; omega, by omega⟩))
    (HO5.out.kept (fun _ _ _ => rfl) (fun k hk hlt => ⟨fun e => by have := hne k e; omega, by omega⟩))
  dsimp only at hr6 hR6
  rw [← HNX.out, ← HNB.out] at hr6
  have hbox := hI5.box
  have hgl5 : g < w5.heap.size := hbox.lt
  have hbg6 : Blk w6 g 81 #[.slice A n c] := by
    refine (hk6 g hgl5 (fun e => ?_)).trans (by rw [HN.out]; exact hbox)
    obtain ⟨_, _, cur, hb⟩ := hI5.row.blk g (by rw [← HN.out]; exact e)
    exact absurd (hb.uniq hbox) (by decide)
  have HK := HK5
  have hc5 : w5.cell? ⟨g, 0, none⟩ = some (.slice A n c) := by rw [HN.out]; exact hbox.cell 0
  have hc6 : w6.cell? ⟨g, 0, none⟩ = some (.slice A n c) := hbg6.cell 0
  have hf6 := hbg6.frozen 0
  have hbx : Blk (w6.setCell ⟨g, 0, none⟩ (.slice (some ⟨q6, 0, none⟩) (n + 1) c6)) g 81 #[.slice (some ⟨q6, 0, none⟩) (n + 1) c6] := hbg6.set_ 0 _
  have hfin : FlI w0 (w6.setCell ⟨g, 0, none⟩ (.slice (some ⟨q6, 0, none⟩) (n + 1) c6)) g (.slice (some ⟨q6, 0, none⟩) (n + 1) c6) (L ++ [⟨deep, k, a1, a2, b1, b2, xs, sub⟩]) := by
    refine ⟨hbx, hR6.kept (fun k hk => Below.heap_setCell w6 _ _ k (fun e => ?_)) (fun k hk _ => Below.heap_setCell w6 _ _ k hk) (fun k hk _ => hk), Below.set1 (hb6 _ _ hI5.bel (Nat.le_refl _) hI5.bel.size) hg0 _, hg0⟩
    obtain ⟨_, _, cur, hb⟩ := hR6.blk k hk
    have e2 : k = g := e
    subst e2
    exact absurd (hb.uniq hbg6) (by decide)
  have hfk : FlK w (w6.setCell ⟨g, 0, none⟩ (.slice (some ⟨q6, 0, none⟩) (n + 1) c6)) g (.slice A n c) (.slice (some ⟨q6, 0, none⟩) (n + 1) c6) := by
    have h5 := HB5.out.size
    refine ⟨by simp [World.setCell]; omega, fun k hk hkg hkv => ?_, fun k hk => ?_⟩
    · rw [Below.heap_setCell w6 _ _ k hkg, hk6 k (by omega) hkv, HB5.out.block k hk]
    · have : k = q6 := by simpa [Value.ownBlock] using hk
      subst this
      rcases hq6 with h | h
      · exact .inl h
      · exact .inr (by omega)
  have HFin := Lib.hid hfin
  have HFk := Lib.hid hfk
  obtain ⟨p0, p1, p2, p3, p4, p5, p6⟩ := HK5.out.c7
  have hlt5 : w.heap.size < w5.heap.size := HK5.out.lt
  clear hfin hfk hbx hbg6 hbox hI5 hR6 hb6 hk6 hq6 hs6 hne
  go_wp2_with (at_builtin; refine Lib.wpList_append_run _ rfl _ _ 81 81 rfl _ _ rfl rfl _ _ hr6 ?_)
  refine bodyPost_end (results_none rfl _ _ _) rfl ?_
  exact ⟨rfl, _, HFin.out, HFk.out⟩
end Go.Proofs.Ytpdebnecfknohaa
namespace Go.Proofs.Ytpdebnecfknohaa
open Go.RowKit
set_option linter.unusedVariables false
set_option maxRecDepth 20000
set_option maxRecDepth 20000 in
set_option maxHeartbeats 4000000 in
theorem walkF_any (w0 : World) (g : Nat) (N : Nat) : ∀ (t : Bd) (deep : Nat) (A : Option Addr) (c : Nat) (v : Value) (L : List It) (w : World), t.size ≤ N → deep ≤ 1000 → BodyV w0 A t → FlI w0 w g v L → L.length + t.size ≤ 100000000 → t.wide ≤ 100000000 →
    Calls Try.prog 63 #[.slice A t.len c, .int .i64 deep, .func (.func 64) #[] #[.pointer (some ⟨g, 0, none⟩)]] w fun e w' => e = .returned (.tuple #[]) ∧ ∃ v', FlI w0 w' g v' (L ++ t.flat deep) ∧ FlK w w' g v v' := by
  induction N with
  | zero =>
    intro t deep A c v L w hN hd hV hI hm hwd
    have ht : t = .nil := by cases t <;> simp [Bd.size] at hN ⊢
    subst ht
    have HI := Lib.hid hI
    clear hI hV
    simp only [Bd.len]
    go_enter Try.func63, Try.ntmps63
    go_wp2_with fail
    go_loopw [10] (fun s10 wr => s10 = .int .i64 0 ∧ wr = w) (fun _ _ => 0)
    case atStart => exact ⟨rfl, rfl⟩
    case round =>
      obtain ⟨rfl, rfl⟩ := hrel
      go_wp2
      refine bodyPost_end (results_none rfl _ _ _) rfl ?_
      exact ⟨rfl, v, by simpa [Bd.flat] using HI.out, FlK.refl _ _ _⟩
  | succ N ih =>
    intro t deep A c v L w hN hd hV hI hm hwd
    have IH := Lib.hid ih
    have HV := Lib.hid hV
    have HI0 := Lib.hid hI
    have hlen : t.len ≤ 100000000 := by have := Bd.len_le t; omega
    clear hI hV ih
    go_enter Try.func63, Try.ntmps63
    go_wp2_with fail
    go_loopw [10] (fun s10 wr => ∃ (i : Nat) (v' : Value) (L' : List It), s10 = .int .i64 i ∧ i ≤ t.len ∧ Hid (L' ++ (t.drop i).flat deep = L ++ t.flat deep) ∧ Hid (L'.length + (t.drop i).size ≤ 100000000) ∧ Hid (FlI w0 wr g v' L') ∧ Hid (FlK w wr g v v')) (fun s10 _ => t.len - (intOf s10).toNat)
    case atStart => exact ⟨0, v, L, rfl, Nat.zero_le _, rfl, (by show _ ≤ _; simpa [Bd.drop] using hm), HI0, FlK.refl _ _ _⟩
    case round =>
      obtain ⟨i, v', L', rfl, hi, hE, hM, hI, hT⟩ := hrel
      by_cases hlt : i < t.len
      · obtain ⟨k, a1, a2, b1, b2, args, sub, rest, hdr⟩ := Bd.drop_cons t i hlt
        obtain ⟨b, o, rfl, hat⟩ := HV.out (by omega)
        have hat0 := hat.drop t b o i
        rw [hdr] at hat0
        obtain ⟨⟨d0, d1, d2, d3, d4⟩, ⟨va, d5, ⟨Aa, ca, rfl, hargs⟩⟩, ⟨As, cs, d6, hsub⟩, _⟩ := hat0
        have hbl := World.block_lt_of_cell? w0 ⟨b, o + i * 7, none⟩ d0
        have hB := hI.out.bel
        have e0 := cell_old hB hbl d0
        have e1 := cell_old hB hbl d1
        have e2 := cell_old hB hbl d2
        have e3 := cell_old hB hbl d3
        have e4 := cell_old hB hbl d4
        have e5 := cell_old hB hbl d5
        have e6 := cell_old hB hbl d6
        have HSub : Hid (BodyV w0 As sub) := hsub
        have HArg : Hid (ArgsAt w0 (.slice Aa args.length ca) args) := ⟨Aa, ca, rfl, hargs⟩
        have hsz1 := Bd.size_drop t i
        have hss := Bd.sub_size t i hdr
        have hE2 := hE.out
        have hM2 := hM.out
        rw [hdr] at hE2 hM2 hsz1
        simp only [Bd.flat, Bd.size] at hE2 hM2 hsz1
        have Hnx := Lib.hid (Bd.drop_succ t i hdr)
        have HE2 := Lib.hid hE2
        have hcs := Bd.cnt_le sub (deep + 1)
        have hcr := Bd.cnt_le rest deep
        have hfl := Bd.flat_len sub (deep + 1)
        have hsl := Bd.len_le sub
        clear d0 d1 d2 d3 d4 d5 d6 hsub hat hdr hE hM hE2 hargs hB
        obtain ⟨la, hla⟩ : ∃ la, la = args.length := ⟨_, rfl⟩
        have HLA := Lib.hid hla
        have hgl : g < wr.heap.size := hI.out.box.lt
        have hc1 : Hid (FlI w0 (wr.alloc (.cells #[.int .u8 k, .int .u8 a1, .int .i64 a2, .int .u8 b1, .int .i64 b2, .slice Aa la ca, .slice As sub.len cs] 50)) g v' L') := hI.out.more ((Below.refl _ _).alloc (Nat.le_refl _) _)
        have HN : Hid ((wr.alloc (.cells #[.int .u8 k, .int .u8 a1, .int .i64 a2, .int .u8 b1, .int .i64 b2, .slice Aa la ca, .slice As sub.len cs] 50)).heap[wr.heap.size]? = some (.cells #[.int .u8 k, .int .u8 a1, .int .i64 a2, .int .u8 b1, .int .i64 b2, .slice Aa la ca, .slice As sub.len cs] 50 (0, 0))) := heap_alloc_new wr _
        have hC := cloF_any w0 ⟨deep, k, a1, a2, b1, b2, args, sub⟩ Aa As ca cs g v' L' (wr.alloc (.cells #[.int .u8 k, .int .u8 a1, .int .i64 a2, .int .u8 b1, .int .i64 b2, .slice Aa la ca, .slice As sub.len cs] 50)) hc1.out (by omega) (by dsimp only; omega) (by dsimp only; omega) HArg.out HSub.out
        dsimp only at hC
        rw [← hla] at hC e5
        have HC := Lib.hid hC
        clear hC hla
        go_wp2_with fail
        refine HC.out.mono ?_
        rintro e w2 ⟨rfl, v2, hI2, hK2⟩
        have hblk : w2.heap[wr.heap.size]? = _ := (hK2.block wr.heap.size (by simp) (by omega) (fun e => by have := (hI.out.row.blk _ e).2.1; omega)).trans HN.out
        have f0 := cell_of_row w2 wr.heap.size 0 _ 50 (0, 0) hblk
        have f6 := cell_of_row w2 wr.heap.size 6 _ 50 (0, 0) hblk
        simp at f0 f6
        have HT3 : Hid (FlK w w2 g v v2) := hT.out.trans (FlK.more ((Below.refl _ _).alloc (Nat.le_refl _) _) hK2)
        have HI3 := Lib.hid hI2
        clear hblk hI2 hK2 HN hc1 hI hT e0 e1 e2 e3 e4 e5 e6 HC HArg
        by_cases hk : k = 7 ∧ deep < 1000
        · obtain ⟨rfl, hdeep⟩ := hk
          have hdi : (deep : Int) < 1000 := by omega
          have hI := IH.out sub (deep + 1) As cs v2 _ w2 (by omega) (by omega) HSub.out HI3.out (by simp; omega) (by omega)
          rw [show ((deep + 1 : Nat) : Int) = (deep : Int) + 1 from by omega] at hI
          have HI := Lib.hid hI
          clear hI
          go_wp2_with fail
          refine HI.out.mono ?_
          rintro e w3 ⟨rfl, v3, hI4, hK4⟩
          have HI4 := Lib.hid hI4
          have HT4 := Lib.hid (HT3.out.trans hK4)
          clear hI4 hK4
          go_wp2
          go_roundw
          case rel =>
            refine ⟨i + 1, v3, _, by go_num, by omega, ?_, ?_, HI4, HT4⟩
            · show _ = _
              have h := HE2.out
              rw [if_pos (by simp; exact hdeep)] at h
              rw [Hnx.out, ← h]; simp
            · show _ ≤ _
              rw [Hnx.out]; simp; omega
          case measure => simp [intOf]; omega
        · by_cases hk7 : k = 7
          · subst hk7
            have hdeep : ¬ (deep < 1000) := fun h => hk ⟨rfl, h⟩
            have hdi : ¬ ((deep : Int) < 1000) := by omega
            clear hk
            go_wp2
            go_roundw
            case rel =>
              refine ⟨i + 1, v2, _, by go_num, by omega, ?_, ?_, HI3, HT3⟩
              · show _ = _
                have h := HE2.out
                rw [if_neg (by simp; omega)] at h
                rw [Hnx.out, ← h]; simp
              · show _ ≤ _
                rw [Hnx.out]; simp; omega
            case measure => simp [intOf]; omega
          · have hkb : (k == 7) = false := by simpa using hk7
            have HK := Lib.hid hk
            clear hk hk7
            go_wp2
            go_roundw
            case rel =>
              refine ⟨i + 1, v2, _, by go_num, by omega, ?_, ?_, HI3, HT3⟩
              · show _ = _
                have h := HE2.out
                rw [if_neg HK.out] at h
                rw [Hnx.out, ← h]; simp
              · show _ ≤ _
                rw [Hnx.out]; simp; omega
            case measure => simp [intOf]; omega
      · obtain rfl : i = t.len := by omega
        have hE2 := hE.out
        rw [Bd.drop_end t t.len (Nat.le_refl _)] at hE2
        simp only [Bd.flat, List.append_nil] at hE2
        have HE2 := Lib.hid hE2
        clear hE2
        go_wp2
        refine bodyPost_end (results_none rfl _ _ _) rfl ?_
        exact ⟨rfl, v', by rw [← HE2.out]; exact hI.out, hT.out⟩
/-- What a list of items leaves. -/
def ItPost (e : Nat) (X : Nat → Prop) (w : World) (L : List It) (en : Ending) (w' : World) : Prop := ∃ A c, en = .returned (.slice A L.length c) ∧ ItRow e w' w.heap.size X (.slice A L.length c) L ∧ Below w.heap.size w w'
set_option maxHeartbeats 400000 in
theorem flatM_any (A : Option Addr) (c : Nat) (t : Bd) (w : World) (h : BodyV w A t) (ht : t.size ≤ 100000000) (hwd : t.wide ≤ 100000000) :
    Calls Try.prog 39 #[.slice A t.len c] w (ItPost 84 (fun k => k ≠ w.heap.size) w (t.flat 0)) := by
  have HB : Hid (Below w.heap.size w (w.alloc (.cells #[.slice none 0 0] 81))) := (Below.refl _ _).alloc (Nat.le_refl _) _
  have HC : Hid (FlI w (w.alloc (.cells #[.slice none 0 0] 81)) w.heap.size (.slice none 0 0) []) := ⟨Blk.new w 81 _, ItRow.nil _ _ _ _, HB.out, Nat.le_refl _⟩
  have hW := walkF_any w w.heap.size t.size t 0 A c _ [] (w.alloc (.cells #[.slice none 0 0] 81)) (Nat.le_refl _) (by omega) h HC.out (by simpa using ht) hwd
  have HW := Lib.hid hW
  clear hW h
  go_enter Try.func39, Try.ntmps39
  go_wp2_with fail
  refine HW.out.mono ?_
  rintro e w2 ⟨rfl, v2, hI2, _⟩
  rw [List.nil_append] at hI2
  obtain ⟨A2, c2, rfl⟩ := hI2.row.slice
  have hc := hI2.box.cell 0
  have hl : w.heap.size < w2.heap.size := hI2.box.lt
  simp at hc
  have HI2 := Lib.hid hI2
  clear hI2
  go_wp2
  go_ret
  exact ⟨A2, c2, rfl, HI2.out.row, HI2.out.bel⟩
end Go.Proofs.Ytpdebnecfknohaa
namespace Go.Proofs.Ytpdebnecfknohaa
open Go.RowKit
set_option linter.unusedVariables false
set_option linter.unusedSimpArgs false
set_option maxRecDepth 20000
theorem Bd.flat_size : ∀ (t : Bd) (d : Nat), ∀ x ∈ t.flat d, x.sub.size ≤ t.size ∧ x.sub.wide + x.xs.length ≤ t.wide
  | .nil, _, x, h => by simp [Bd.flat] at h
  | .cons k a1 a2 b1 b2 xs sub rest, d, x, h => by
    simp only [Bd.flat, List.mem_cons, List.mem_append] at h
    simp only [Bd.size, Bd.wide]
    rcases h with rfl | h | h
    · dsimp only; omega
    · split at h
      · have := Bd.flat_size sub (d + 1) x h; omega
      · simp at h
    · have := Bd.flat_size rest d x h; omega
theorem Bd.flat_deep : ∀ (t : Bd) (d : Nat), d ≤ 1000 → ∀ x ∈ t.flat d, x.deep ≤ 1000
  | .nil, _, _, x, h => by simp [Bd.flat] at h
  | .cons k a1 a2 b1 b2 xs sub rest, d, hd, x, h => by
    simp only [Bd.flat, List.mem_cons, List.mem_append] at h
    rcases h with rfl | h | h
    · exact hd
    · split at h
      · rename_i hc; exact Bd.flat_deep sub (d + 1) (by omega) x h
      · simp at h
    · exact Bd.flat_deep rest d hd x h
/-- The first statement that breaks a rule: which rule, its number. -/
def stmtsF (L : List Fn) (nl ng ns : Nat) : Nat → List It → Int × Int
  | _, [] => (0, 0)
  | i, x :: xs => if stmtF L nl ng ns x ≠ 0 then (stmtF L nl ng ns x, (i : Int)) else stmtsF L nl ng ns (i + 1) xs
/-- The first function that breaks a rule. -/
def funcsF (M : Md) : Nat → List Fn → Int × Int × Int
  | _, [] => (0, -1, -1)
  | i, f :: fs => if funcF M.strs f ≠ 0 then (funcF M.strs f, (i : Int), -1)
    else if (stmtsF M.funcs f.locals.length M.globs.length f.sites.length 0 (f.body.flat 0)).1 ≠ 0 then ((stmtsF M.funcs f.locals.length M.globs.length f.sites.length 0 (f.body.flat 0)).1, (i : Int), (stmtsF M.funcs f.locals.length M.globs.length f.sites.length 0 (f.body.flat 0)).2)
    else funcsF M (i + 1) fs
/-- The first rule that a module breaks, and where. -/
def treeF (M : Md) : Int × Int × Int := if modF M ≠ 0 then (modF M, -1, -1) else funcsF M 0 M.funcs
/-- What a call that answers a fault leaves. -/
def FaB (w : World) (v : Int × Int × Int) (e : Ending) (w' : World) : Prop := e = .returned (faultV v.1 v.2.1 v.2.2) ∧ Below w.heap.size w w'
theorem fault_letters (r f s : Int) (w : World) : Calls Try.prog 36 #[.int .i64 r, .int .i64 f, .int .i64 s] w fun e w' => ∃ fe : Int, faultV r f s = .agg #[.int .i64 fe, .int .i64 0, .int .i64 0, .int .i64 0, .int .i64 r, .int .i64 f, .int .i64 s] ∧ e = .returned (.agg #[.int .i64 fe, .int .i64 0, .int .i64 0, .int .i64 0, .int .i64 r, .int .i64 f, .int .i64 s]) ∧ Below w.heap.size w w' :=
  (fault_any r f s w).mono fun e w' h => ⟨_, rfl, h.1, h.2⟩
set_option maxHeartbeats 8000000 in
theorem tree_any (M : Md) (As Ag Af Ae : Option Addr) (cs cg cf ce : Nat) (w : World) (hM : M.Wf) (h : MdR w As Ag Af Ae M) :
    Calls Try.prog 19 #[.agg #[.slice As M.strs.length cs, .slice Ag M.globs.length cg, .slice Af M.funcs.length cf, .slice Ae M.ents.length ce]] w (FaB w (treeF M)) := by
  obtain ⟨v, hv⟩ : ∃ v, v = treeF M := ⟨_, rfl⟩
  rw [← hv]
  unfold treeF at hv
  have hMo := fun wx (hx : Below w.heap.size w wx) => mod_any M As Ag Af Ae cs cg cf ce wx hM (h.old hx)
  have hFu := fun wx (hx : Below w.heap.size w wx) (f : Fn) (hf : f ∈ M.funcs) (Al At Ab : Option Addr) (cl ct cb : Nat) (r1 : RdS (fun _ => True) wx Al f.locals.length 1 (intV f.locals)) (r2 : RdS (fun _ => True) wx At f.sites.length 1 (intV f.sites)) (r3 : BodyV wx Ab f.body) => func_any M.strs As Ag Af Ae Al At Ab cs M.globs.length cg M.funcs.length cf M.ents.length ce cl ct cb f wx ((h.old hx).strs) hM.strs r1 r2 r3 (by have := (hM.fns f hf).2.2.2.2; omega) (hM.fns f hf).1 (hM.fns f hf).2.1 (hM.fns f hf).2.2.1 (hM.fns f hf).2.2.2.1
  have hSt := fun wx (hx : Below w.heap.size w wx) (Al At Ab Aa Asub : Option Addr) (nl cl ns ct lb cb ca csub : Nat) (fn fp N : Int) (x : It) (ha : ArgsAt wx (.slice Aa x.xs.length ca) x.xs) (hl : x.xs.length ≤ 1000000000) (hd : x.deep ≤ 1000000000) => stmt_any As Ag Af Ae Al At Ab Aa Asub M.strs.length cs M.globs.length cg cf M.ents.length ce nl cl ns ct lb cb ca csub fn fp N M.funcs x wx ha hl hd (h.old hx).funcs
  have HFd := Lib.hid (fun f (hf : f ∈ M.funcs) => hM.fns f hf)
  have HFs := Lib.hid h.funcs
  obtain ⟨ls, hls⟩ : ∃ n, n = M.strs.length := ⟨_, rfl⟩
  obtain ⟨ng, hng⟩ : ∃ n, n = M.globs.length := ⟨_, rfl⟩
  obtain ⟨nf, hnf⟩ : ∃ n, n = M.funcs.length := ⟨_, rfl⟩
  obtain ⟨ne, hne⟩ : ∃ n, n = M.ents.length := ⟨_, rfl⟩
  have hnfl : nf ≤ 1000000 := by rw [hnf]; exact hM.funcs
  have HNg := Lib.hid hng
  have HNf := Lib.hid hnf
  obtain ⟨rm, hrm⟩ : ∃ r, r = modF M := ⟨_, rfl⟩
  rw [← hls, ← hng, ← hnf, ← hne] at hMo hFu hSt
  rw [← hrm] at hMo hv
  rw [← hls, ← hng, ← hnf, ← hne]
  have HMo := Lib.hid hMo
  have HFu := Lib.hid hFu
  have HSt := Lib.hid hSt
  have HV := Lib.hid hv
  have HFa := Lib.hid (fun r f s wx => fault_letters r f s wx)
  clear hMo hFu hSt hv h hM hls hng hnf hne hrm
  obtain ⟨w1, hw1⟩ : ∃ w1, w1 = (w.alloc (.cells #[.slice As ls cs, .slice Ag ng cg, .slice Af nf cf, .slice Ae ne ce] 30)).alloc (.cells #[.int .i64 0, .int .i64 0, .int .i64 0, .int .i64 0, .int .i64 0, .int .i64 0, .int .i64 0] 35) := ⟨_, rfl⟩
  have HB1 : Hid (Below w.heap.size w w1) := by rw [hw1]; exact ((Below.refl _ _).alloc (Nat.le_refl _) _).alloc (by simp) _
  have K1 : Hid (Blk w1 w.heap.size 30 #[.slice As ls cs, .slice Ag ng cg, .slice Af nf cf, .slice Ae ne ce]) := by rw [hw1]; exact (Blk.new w 30 _).alloc _
  have K2 : Hid (Blk w1 (w.heap.size + 1) 35 #[.int .i64 0, .int .i64 0, .int .i64 0, .int .i64 0, .int .i64 0, .int .i64 0, .int .i64 0]) := by rw [hw1]; exact Blk.new' _ 35 _ _ (by simp)
  have HFin : Hid (∀ (wx : World) (fe r f s : Int), Below w1.heap.size w1 wx → ∀ wy, wy = (((((((wx.setCell ⟨w.heap.size + 1, 0, none⟩ (.int .i64 fe)).setCell ⟨w.heap.size + 1, 1, none⟩ (.int .i64 0)).setCell ⟨w.heap.size + 1, 2, none⟩ (.int .i64 0)).setCell ⟨w.heap.size + 1, 3, none⟩ (.int .i64 0)).setCell ⟨w.heap.size + 1, 4, none⟩ (.int .i64 r)).setCell ⟨w.heap.size + 1, 5, none⟩ (.int .i64 f)).setCell ⟨w.heap.size + 1, 6, none⟩ (.int .i64 s)) → Below w.heap.size w wy ∧ Blk wy (w.heap.size + 1) 35 #[.int .i64 fe, .int .i64 0, .int .i64 0, .int .i64 0, .int .i64 r, .int .i64 f, .int .i64 s]) := fun wx fe r f s hx wy hy => by
    subst hy
    have hk := K2.out.old hx
    exact ⟨set7 (HB1.out.trans (hx.mono HB1.out.size)) (Nat.le_succ _) _ _ _ _ _ _ _, ((((((hk.set_ 0 _).set_ 1 _).set_ 2 _).set_ 3 _).set_ 4 _).set_ 5 _).set_ 6 _⟩
  go_enter Try.func19, Try.ntmps19
  go_upto_region 1 with (fail)
  rw [← hw1]
  clear hw1
  obtain ⟨m0, m1, m2, m3⟩ := K1.out.c4
  have z1 : w.heap.size < w1.heap.size := K1.out.lt
  go_wp2_with fail
  refine (HMo.out _ HB1.out).mono ?_
  rintro e w2 ⟨rfl, hb2⟩
  have HB2 := Lib.hid hb2
  have L1 := Lib.hid (K1.out.old hb2)
  clear hb2 m0 m1 m2 m3 z1
  by_cases hr : rm = 0
  · subst hr
    have HV2 : Hid (v = funcsF M 0 M.funcs) := by show _ = _; rw [HV.out]; simp
    clear HV
    obtain ⟨m0, m1, m2, m3⟩ := L1.out.c4
    have z1 : w.heap.size < w2.heap.size := L1.out.lt
    go_upto_block 0 with (fail)
    clear m0 m1 m2 m3 z1 L1
    go_wp2_with fail
    go_loopw [19] (fun s wr => ∃ (i : Nat), i ≤ nf ∧ s = .int .i64 (i : Int) ∧ Hid (v = funcsF M i (M.funcs.drop i)) ∧ Hid (Below w1.heap.size w1 wr)) (fun s _ => nf - (intOf s).toNat)
    case atStart => exact ⟨0, Nat.zero_le _, rfl, HV2, HB2⟩
    case round =>
      clear HV2 HB2
      obtain ⟨i, hi, rfl, hE, hB⟩ := hrel
      have L1 := Lib.hid (K1.out.old hB.out)
      have HBw := Lib.hid (HB1.out.trans (hB.out.mono HB1.out.size))
      obtain ⟨m0, m1, m2, m3⟩ := L1.out.c4
      have z1 : w.heap.size < wr.heap.size := L1.out.lt
      by_cases hlt : i < nf
      · have hiL : i < M.funcs.length := by rw [← HNf.out]; exact hlt
        have hli : (i : Int) < (nf : Int) := by omega
        obtain ⟨b, o, rfl, _, hc⟩ := HFs.out (by omega)
        obtain ⟨fs, ⟨Al, cl, At, ct, Ab, cb, rfl, r1, r2, r3⟩, hcc⟩ := hc i hiL
        have hbl : b < w.heap.size := World.block_lt_of_cell? w _ (hcc 0 _ rfl)
        have e0 := cell_old HBw.out hbl (hcc 0 _ rfl)
        have e1 := cell_old HBw.out hbl (hcc 1 _ rfl)
        have e2 := cell_old HBw.out hbl (hcc 2 _ rfl)
        have e3 := cell_old HBw.out hbl (hcc 3 _ rfl)
        have e4 := cell_old HBw.out hbl (hcc 4 _ rfl)
        simp only [Nat.add_zero] at e0
        obtain ⟨_, _, w3, w4, w5, w6⟩ := HFd.out _ (List.getElem_mem hiL)
        have hE2 := hE.out
        rw [List.drop_eq_getElem_cons hiL] at hE2
        simp only [funcsF] at hE2
        have hfu := fun wx (hx : Below w.heap.size w wx) => HFu.out wx hx _ (List.getElem_mem hiL) Al At Ab cl ct cb (r1.old hx (by omega)) (r2.old hx (by omega)) (r3.at_.old hx)
        have hfl := fun wx (hx : Below w.heap.size w wx) => flatM_any Ab cb M.funcs[i].body wx (r3.at_.old hx) (by omega) (by omega)
        have hfs : ∀ x ∈ M.funcs[i].body.flat 0, x.xs.length ≤ 1000000000 := fun x hx => by
          have := (Bd.flat_size M.funcs[i].body 0 x hx).2
          omega
        have hfd : ∀ x ∈ M.funcs[i].body.flat 0, x.deep ≤ 1000000000 := fun x hx => by
          have := Bd.flat_deep M.funcs[i].body 0 (by omega) x hx
          omega
        have hfn : (M.funcs[i].body.flat 0).length ≤ 1000000 := by
          rw [Bd.flat_len]
          have := Bd.cnt_le M.funcs[i].body 0
          omega
        generalize M.funcs[i] = f at *
        obtain ⟨fn, fp, fl, ft, fb⟩ := f
        dsimp only at *
        obtain ⟨nl, hnl⟩ : ∃ n, n = fl.length := ⟨_, rfl⟩
        obtain ⟨nt, hnt⟩ : ∃ n, n = ft.length := ⟨_, rfl⟩
        obtain ⟨nb, hnb⟩ : ∃ n, n = fb.len := ⟨_, rfl⟩
        obtain ⟨rf, hrf⟩ : ∃ r, r = funcF M.strs ⟨fn, fp, fl, ft, fb⟩ := ⟨_, rfl⟩
        rw [← hnl] at e2 hfu hE2
        rw [← hnt] at e3 hfu hE2
        rw [← hnb] at e4 hfu hfl
        rw [← hrf] at hfu hE2
        rw [← HNg.out] at hE2
        have HFu2 := Lib.hid hfu
        have HFl := Lib.hid hfl
        have HFs2 := Lib.hid hfs
        have HFd2 := Lib.hid hfd
        have HE2 := Lib.hid hE2
        obtain ⟨w1x, hw1x⟩ : ∃ wx, wx = wr.alloc (.cells #[.int .i64 fn, .int .i64 fp, .slice Al nl cl, .slice At nt ct, .slice Ab nb cb] 40) := ⟨_, rfl⟩
        have HBx : Hid (Below w1.heap.size w1 w1x) := by rw [hw1x]; exact hB.out.alloc hB.out.size _
        have KF : Hid (Blk w1x wr.heap.size 40 #[.int .i64 fn, .int .i64 fp, .slice Al nl cl, .slice At nt ct, .slice Ab nb cb]) := by rw [hw1x]; exact Blk.new wr 40 _
        clear hc hcc r1 r2 r3 w3 w4 w5 w6 hE hE2 hfu hfl hfs hfd hnl hnt hnb hrf
        go_upto_region 7 with (fail)
        rw [← hw1x]
        clear hw1x m0 m1 m2 m3 z1 e0 e1 e2 e3 e4 L1
        obtain ⟨gx, hgx⟩ : ∃ g, g = wr.heap.size := ⟨_, rfl⟩
        rw [← hgx] at KF ⊢
        clear hgx
        have L1 := Lib.hid (K1.out.old HBx.out)
        have HBxw := Lib.hid (HB1.out.trans (HBx.out.mono HB1.out.size))
        obtain ⟨m0, m1, m2, m3⟩ := L1.out.c4
        obtain ⟨c0, c1, c2, c3, c4⟩ := KF.out.c5
        have z1 : w.heap.size < w1x.heap.size := L1.out.lt
        have z2 : gx < w1x.heap.size := KF.out.lt
        go_wp2_with fail
        refine (HFu2.out _ HBxw.out).mono ?_
        rintro e w3 ⟨rfl, hb3⟩
        have HB3 := Lib.hid (HBx.out.trans (hb3.mono HBx.out.size))
        have KF3 := Lib.hid (KF.out.old hb3)
        clear hb3 m0 m1 m2 m3 c0 c1 c2 c3 c4 z1 z2 L1 KF HFu2
        by_cases hrf : rf = 0
        · subst hrf
          have HE3 := HE2.out
          rw [if_neg (by simp)] at HE3
          have HE3 := Lib.hid HE3
          clear HE2
          have HB3w := Lib.hid (HB1.out.trans (HB3.out.mono HB1.out.size))
          obtain ⟨c0, c1, c2, c3, c4⟩ := KF3.out.c5
          have z2 : gx < w3.heap.size := KF3.out.lt
          go_wp2_with fail
          refine (HFl.out _ HB3w.out).mono ?_
          rintro e w4 ⟨Ai, ci, rfl, hIt, hb4⟩
          have HB4 := Lib.hid (HB3.out.trans (hb4.mono HB3.out.size))
          have KF4 := Lib.hid (KF3.out.old hb4)
          have HIt := Lib.hid hIt
          clear hb4 hIt c0 c1 c2 c3 c4 z2 KF3 HFl
          generalize fb.flat 0 = IL at *
          obtain ⟨ni, hni⟩ : ∃ n, n = IL.length := ⟨_, rfl⟩
          have HNi := Lib.hid hni
          rw [← hni] at hfn ⊢
          clear hni
          go_wp2_with fail
          go_loopw [36] (fun s ws => ∃ (j : Nat), j ≤ ni ∧ s = .int .i64 (j : Int) ∧ Hid (stmtsF M.funcs nl ng nt 0 IL = stmtsF M.funcs nl ng nt j (IL.drop j)) ∧ Hid (Below w4.heap.size w4 ws)) (fun s _ => ni - (intOf s).toNat)
          case atStart => exact ⟨0, Nat.zero_le _, rfl, rfl, Below.refl _ _⟩
          case round =>
            obtain ⟨j, hj, rfl, hS, hBs⟩ := hrel
            rename World => wz
            have HBz := Lib.hid (HB4.out.trans (hBs.out.mono HB4.out.size))
            have HBzw := Lib.hid (HB1.out.trans (HBz.out.mono HB1.out.size))
            by_cases hjlt : j < ni
            · have hjL : j < IL.length := by rw [← HNi.out]; exact hjlt
              have hlj : (j : Int) < (ni : Int) := by omega
              obtain ⟨qi, rfl, hqi, hnc, Aa, ca, Asub, csub, ha, _, hcc⟩ := HIt.out.at_ j hjL
              have d0 := cell_old hBs.out hqi (hcc 0 _ rfl)
              have d1 := cell_old hBs.out hqi (hcc 1 _ rfl)
              have d2 := cell_old hBs.out hqi (hcc 2 _ rfl)
              have d3 := cell_old hBs.out hqi (hcc 3 _ rfl)
              have d4 := cell_old hBs.out hqi (hcc 4 _ rfl)
              have d5 := cell_old hBs.out hqi (hcc 5 _ rfl)
              have d6 := cell_old hBs.out hqi (hcc 6 _ rfl)
              have d7 := cell_old hBs.out hqi (hcc 7 _ rfl)
              have d8 := cell_old hBs.out hqi (hcc 8 _ rfl)
              simp only [Nat.add_zero] at d0
              have hs1 := HFs2.out _ (List.getElem_mem hjL)
              have hs2 := HFd2.out _ (List.getElem_mem hjL)
              have hS2 := hS.out
              rw [List.drop_eq_getElem_cons hjL] at hS2
              have hstm := fun wx (hx : Below w.heap.size w wx) (ha : ArgsAt wx (.slice Aa IL[j].xs.length ca) IL[j].xs) => HSt.out wx hx Al At Ab Aa Asub nl cl nt ct nb cb ca csub fn fp (j : Int) IL[j] ha hs1 hs2
              simp only [stmtsF] at hS2
              generalize IL[j] = x at *
              obtain ⟨deep, xk, xa1, xa2, xb1, xb2, xs, sub⟩ := x
              dsimp only at *
              obtain ⟨rs, hrs⟩ : ∃ r, r = stmtF M.funcs nl ng nt ⟨deep, xk, xa1, xa2, xb1, xb2, xs, sub⟩ := ⟨_, rfl⟩
              rw [← hrs] at hS2 hstm
              obtain ⟨nx, hnx⟩ : ∃ n, n = xs.length := ⟨_, rfl⟩
              obtain ⟨nsb, hnsb⟩ : ∃ n, n = sub.len := ⟨_, rfl⟩
              have HAr := Lib.hid ha
              rw [← hnx] at d7 hstm
              rw [← hnsb] at d8 hstm
              have HNx := Lib.hid hnx
              have HStm := Lib.hid hstm
              have HS2 := Lib.hid hS2
              have zq : qi < wz.heap.size := Nat.lt_of_lt_of_le hqi hBs.out.size
              obtain ⟨wy, hwy⟩ : ∃ wy, wy = wz.alloc (.cells #[.int .i64 (j : Int), .int .i64 (deep : Int), .int .u8 xk, .int .u8 xa1, .int .i64 xa2, .int .u8 xb1, .int .i64 xb2, .slice Aa nx ca, .slice Asub nsb csub] 84) := ⟨_, rfl⟩
              have HBy4 : Hid (Below w4.heap.size w4 wy) := by rw [hwy]; exact hBs.out.alloc hBs.out.size _
              have HBy : Hid (Below w1.heap.size w1 wy) := HB4.out.trans (HBy4.out.mono HB4.out.size)
              have KI : Hid (Blk wy wz.heap.size 84 #[.int .i64 (j : Int), .int .i64 (deep : Int), .int .u8 xk, .int .u8 xa1, .int .i64 xa2, .int .u8 xb1, .int .i64 xb2, .slice Aa nx ca, .slice Asub nsb csub]) := by rw [hwy]; exact Blk.new wz 84 _
              clear hcc ha hs1 hs2 hS2 hS hrs hstm hnx hnsb
              go_upto_region 13 with (fail)
              rw [← hwy]
              clear hwy d0 d1 d2 d3 d4 d5 d6 d7 d8 zq
              obtain ⟨gi, hgi⟩ : ∃ g, g = wz.heap.size := ⟨_, rfl⟩
              rw [← hgi] at KI ⊢
              clear hgi
              have L1 := Lib.hid (K1.out.old HBy.out)
              have LF := Lib.hid (KF4.out.old HBy4.out)
              have HByw := Lib.hid (HB1.out.trans (HBy.out.mono HB1.out.size))
              have hs3 := HStm.out wy HByw.out (by rw [HNx.out]; exact HAr.out.old HBy4.out)
              have HS3 := Lib.hid hs3
              clear hs3 HStm
              obtain ⟨m0, m1, m2, m3⟩ := L1.out.c4
              obtain ⟨c0, c1, c2, c3, c4⟩ := LF.out.c5
              obtain ⟨s0, s1, s2, s3, s4, s5, s6, s7, s8⟩ := KI.out.c9
              have z1 : w.heap.size < wy.heap.size := L1.out.lt
              have z2 : gx < wy.heap.size := LF.out.lt
              have z3 : gi < wy.heap.size := KI.out.lt
              go_wp2_with fail
              refine HS3.out.mono ?_
              rintro e w8 ⟨rfl, hb8⟩
              have HB8 := Lib.hid (HBy.out.trans (hb8.mono HBy.out.size))
              have HB84 := Lib.hid (HBy4.out.trans (hb8.mono HBy4.out.size))
              have KI8 := Lib.hid (KI.out.old hb8)
              clear hb8 m0 m1 m2 m3 c0 c1 c2 c3 c4 s0 s1 s2 s3 s4 s5 s6 s7 s8 z1 z2 z3 L1 LF HS3 KI
              by_cases hrs : rs = 0
              · subst hrs
                have hS4 := HS2.out
                rw [if_neg (by simp)] at hS4
                have HS4 := Lib.hid hS4
                clear hS4 HS2
                go_wp2
                go_roundw
                case rel => exact ⟨j + 1, by omega, by go_num, HS4, HB84⟩
                case measure => simp [intOf]; omega
              · obtain rfl : v = (rs, (i : Int), (j : Int)) := by
                  have h1 := HS2.out
                  rw [if_pos hrs] at h1
                  have h2 := HE3.out
                  rw [h1] at h2
                  rw [h2, if_pos hrs]
                have g0 : (rs == 0) = false := by simpa using hrs
                have g1 : (rs != 0) = true := by simpa using hrs
                obtain ⟨s0, s1, s2, s3, s4, s5, s6, s7, s8⟩ := KI8.out.c9
                have z3 : gi < w8.heap.size := KI8.out.lt
                clear HS2 HE3
                go_wp2_with fail
                refine (HFa.out rs (i : Int) (j : Int) _).mono ?_
                rintro e w9 ⟨fe, hfe, rfl, hb9⟩
                have HB9 := Lib.hid (HB8.out.trans (hb9.mono HB8.out.size))
                have M9 := Lib.hid (K2.out.old HB9.out)
                obtain ⟨r0, r1, r2, r3, r4, r5, r6⟩ := M9.out.c7
                have f0 := M9.out.frozen 0
                have f1 := M9.out.frozen 1
                have f2 := M9.out.frozen 2
                have f3 := M9.out.frozen 3
                have f4 := M9.out.frozen 4
                have f5 := M9.out.frozen 5
                have f6 := M9.out.frozen 6
                have z9 : w.heap.size + 1 < w9.heap.size := M9.out.lt
                have HFE := Lib.hid hfe
                clear hb9 hfe
                go_wp2
                obtain ⟨hbf, hKf⟩ := HFin.out w9 fe rs (i : Int) (j : Int) HB9.out _ rfl
                obtain ⟨q0, q1, q2, q3, q4, q5, q6⟩ := hKf.c7
                refine bodyPost_ret (v := .agg #[.int .i64 fe, .int .i64 0, .int .i64 0, .int .i64 0, .int .i64 rs, .int .i64 (i : Int), .int .i64 (j : Int)]) (by simp [results, Try.results19, go_sem, q0, q1, q2, q3, q4, q5, q6]) rfl ?_
                exact ⟨congrArg Ending.returned HFE.out.symm, hbf⟩
            · obtain rfl : j = ni := by omega
              have hS2 := hS.out
              rw [List.drop_of_length_le (by rw [← HNi.out]; omega)] at hS2
              have HE4 : Hid (v = funcsF M (i + 1) (M.funcs.drop (i + 1))) := by
                show _ = _
                have := HE3.out
                rw [hS2] at this
                simpa [stmtsF] using this
              clear hS2 hS HE3
              go_wp2
              go_roundw
              case rel => exact ⟨i + 1, by omega, by go_num, HE4, HBz⟩
              case measure => simp [intOf]; omega
        · obtain rfl : v = (rf, (i : Int), -1) := by rw [HE2.out, if_pos hrf]
          have g0 : (rf == 0) = false := by simpa using hrf
          have g1 : (rf != 0) = true := by simpa using hrf
          clear HE2
          go_wp2_with fail
          refine (HFa.out rf (i : Int) (-1) _).mono ?_
          rintro e w9 ⟨fe, hfe, rfl, hb9⟩
          have HB9 := Lib.hid (HB3.out.trans (hb9.mono HB3.out.size))
          have M9 := Lib.hid (K2.out.old HB9.out)
          obtain ⟨r0, r1, r2, r3, r4, r5, r6⟩ := M9.out.c7
          have f0 := M9.out.frozen 0
          have f1 := M9.out.frozen 1
          have f2 := M9.out.frozen 2
          have f3 := M9.out.frozen 3
          have f4 := M9.out.frozen 4
          have f5 := M9.out.frozen 5
          have f6 := M9.out.frozen 6
          have z9 : w.heap.size + 1 < w9.heap.size := M9.out.lt
          have HFE := Lib.hid hfe
          clear hb9 hfe
          go_wp2
          obtain ⟨hbf, hKf⟩ := HFin.out w9 fe rf (i : Int) (-1) HB9.out _ rfl
          obtain ⟨q0, q1, q2, q3, q4, q5, q6⟩ := hKf.c7
          refine bodyPost_ret (v := .agg #[.int .i64 fe, .int .i64 0, .int .i64 0, .int .i64 0, .int .i64 rf, .int .i64 (i : Int), .int .i64 (-1)]) (by simp [results, Try.results19, go_sem, q0, q1, q2, q3, q4, q5, q6]) rfl ?_
          exact ⟨congrArg Ending.returned HFE.out.symm, hbf⟩
      · obtain rfl : i = nf := by omega
        have hE2 := hE.out
        rw [List.drop_of_length_le (by rw [← HNf.out]; omega)] at hE2
        obtain rfl : v = (0, -1, -1) := hE2
        clear hE m0 m1 m2 m3 z1
        go_wp2_with fail
        refine (HFa.out 0 (-1) (-1) _).mono ?_
        rintro e w9 ⟨fe, hfe, rfl, hb9⟩
        have HB9 := Lib.hid (hB.out.trans (hb9.mono hB.out.size))
        have M9 := Lib.hid (K2.out.old HB9.out)
        obtain ⟨r0, r1, r2, r3, r4, r5, r6⟩ := M9.out.c7
        have f0 := M9.out.frozen 0
        have f1 := M9.out.frozen 1
        have f2 := M9.out.frozen 2
        have f3 := M9.out.frozen 3
        have f4 := M9.out.frozen 4
        have f5 := M9.out.frozen 5
        have f6 := M9.out.frozen 6
        have z9 : w.heap.size + 1 < w9.heap.size := M9.out.lt
        have HFE := Lib.hid hfe
        clear hb9 hfe
        go_wp2
        obtain ⟨hbf, hKf⟩ := HFin.out w9 fe 0 (-1) (-1) HB9.out _ rfl
        obtain ⟨q0, q1, q2, q3, q4, q5, q6⟩ := hKf.c7
        refine bodyPost_ret (v := .agg #[.int .i64 fe, .int .i64 0, .int .i64 0, .int .i64 0, .int .i64 0, .int .i64 (-1), .int .i64 (-1)]) (by simp [results, Try.results19, go_sem, q0, q1, q2, q3, q4, q5, q6]) rfl ?_
        exact ⟨congrArg Ending.returned HFE.out.symm, hbf⟩
  · obtain rfl : v = (rm, -1, -1) := by rw [HV.out, if_pos hr]
    have g0 : (rm == 0) = false := by simpa using hr
    have g1 : (rm != 0) = true := by simpa using hr
    clear HV
    go_wp2_with fail
    refine (HFa.out rm (-1) (-1) _).mono ?_
    rintro e w9 ⟨fe, hfe, rfl, hb9⟩
    have HB9 := Lib.hid (HB2.out.trans (hb9.mono HB2.out.size))
    have M9 := Lib.hid (K2.out.old HB9.out)
    obtain ⟨r0, r1, r2, r3, r4, r5, r6⟩ := M9.out.c7
    have f0 := M9.out.frozen 0
    have f1 := M9.out.frozen 1
    have f2 := M9.out.frozen 2
    have f3 := M9.out.frozen 3
    have f4 := M9.out.frozen 4
    have f5 := M9.out.frozen 5
    have f6 := M9.out.frozen 6
    have z9 : w.heap.size + 1 < w9.heap.size := M9.out.lt
    have HFE := Lib.hid hfe
    clear hb9 hfe
    go_wp2
    obtain ⟨hbf, hKf⟩ := HFin.out w9 fe rm (-1) (-1) HB9.out _ rfl
    obtain ⟨q0, q1, q2, q3, q4, q5, q6⟩ := hKf.c7
    refine bodyPost_ret (v := .agg #[.int .i64 fe, .int .i64 0, .int .i64 0, .int .i64 0, .int .i64 rm, .int .i64 (-1), .int .i64 (-1)]) (by simp [results, Try.results19, go_sem, q0, q1, q2, q3, q4, q5, q6]) rfl ?_
    exact ⟨congrArg Ending.returned HFE.out.symm, hbf⟩
end Go.Proofs.Ytpdebnecfknohaa
