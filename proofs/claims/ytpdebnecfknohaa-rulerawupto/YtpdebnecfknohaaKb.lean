/-
  What the reference's 'broken' leaves.
-/
import Derived.Test.YtpdebnecfknohaaKfa
import Derived.Test.YtpdebnecfknohaaKh
import Derived.Deep.RegionLaw
import Derived.Deep.DeepCutAuto
import Derived.Deep.CutBlock
namespace Go.Proofs.Ytpdebnecfknohaa
open Go.RowKit
set_option linter.unusedVariables false
set_option linter.unusedSimpArgs false
set_option maxRecDepth 20000

/-- Of no kind greater than 4. -/
def It.Low (x : It) : Prop := 0 ≤ x.a1 ∧ x.a1 ≤ 4 ∧ 0 ≤ x.b1 ∧ x.b1 ≤ 4 ∧ ∀ p ∈ x.xs, 0 ≤ p.1 ∧ p.1 ≤ 4
def brkF (L : List Fn) (nl ng ns : Nat) (x : It) : Int :=
  if 8 < x.deep then 6 else if kindF x.k x.a1 x.a2 x.b1 x.b2 x.xs x.sub.len = false then 7
  else if hereF nl ng L.length ns x.a1 x.a2 = false then 8
  else if hereF nl ng L.length ns x.b1 x.b2 = false then 8
  else if (x.xs.all fun p => hereF nl ng L.length ns p.1 p.2) = false then 8
  else if x.k = 5 then (if 6 < x.xs.length then 9 else if x.b1 = 3 ∧ (x.xs.length : Int) ≠ ((L[x.b2.toNat]?).map Fn.params).getD 0 then 9 else 0) else 0
theorem there_here (nl ng nf ns : Nat) (k i : Int) (h : k = 0 → i = 0) : hereF nl ng nf ns k i = thereF nl ng nf ns k i := by
  unfold hereF
  split
  · rename_i h0
    rw [h h0, h0]; rfl
  · rfl
theorem all_congr' {α : Type} {l : List α} {f g : α → Bool} (h : ∀ x ∈ l, f x = g x) : l.all f = l.all g := by
  induction l with
  | nil => rfl
  | cons a l ih => rw [List.all_cons, List.all_cons, h a List.mem_cons_self, ih fun x hx => h x (List.mem_cons_of_mem _ hx)]
theorem brk_stmt (L : List Fn) (nl ng ns : Nat) (x : It) : brkF L nl ng ns x = stmtF L nl ng ns x := by
  obtain ⟨deep, k, a1, a2, b1, b2, xs, sub⟩ := x
  unfold brkF stmtF
  dsimp only
  by_cases h8 : 8 < deep
  · rw [if_pos h8, if_pos h8]
  rw [if_neg h8, if_neg h8]
  by_cases hk : kindF k a1 a2 b1 b2 xs sub.len = false
  · rw [if_pos hk, if_pos hk]
  rw [if_neg hk, if_neg hk]
  have hk' : kindF k a1 a2 b1 b2 xs sub.len = true := by simpa using hk
  have hx : (k = 5 ∧ allVar xs = true) ∨ xs = [] := by
    unfold kindF at hk'
    split at hk'
    · cases hk'
    · rename_i hc
      by_cases h5 : k = 5
      · subst h5
        left
        simp at hk'
        exact ⟨rfl, hk'.2⟩
      · right
        have : xs.length = 0 := by omega
        exact List.eq_nil_of_length_eq_zero this
  have hab : (a1 = 0 → a2 = 0) ∧ (b1 = 0 → b2 = 0) := by
    unfold kindF at hk'
    split at hk'
    · cases hk'
    · generalize allVar xs = av at hk'
      clear hx hk
      by_cases q1 : k = 1
      · subst q1; simp [varB, objB] at hk'; omega
      by_cases q2 : k = 2 ∨ k = 3 ∨ k = 4
      · rw [if_neg q1, if_pos q2] at hk'; simp [varB] at hk'; omega
      by_cases q5 : k = 5
      · rw [if_neg q1, if_neg q2, if_pos q5] at hk'; simp [varB, zeroB] at hk'; omega
      by_cases q6 : k = 6
      · rw [if_neg q1, if_neg q2, if_neg q5, if_pos q6] at hk'; simp [varB, zeroB] at hk'; omega
      by_cases q7 : k = 7
      · rw [if_neg q1, if_neg q2, if_neg q5, if_neg q6, if_pos q7] at hk'; simp [zeroB] at hk'; omega
      rw [if_neg q1, if_neg q2, if_neg q5, if_neg q6, if_neg q7] at hk'; cases hk'
  obtain ⟨ha, hb⟩ := hab
  have hxs : (xs.all fun p => hereF nl ng L.length ns p.1 p.2) = (xs.all fun p => thereF nl ng L.length ns p.1 p.2) := by
    rcases hx with ⟨_, hx⟩ | rfl
    · refine all_congr' fun p hp => there_here _ _ _ _ _ _ fun h0 => ?_
      have := (List.all_eq_true.1 hx) p hp
      rw [h0] at this
      simp [varB] at this
    · rfl
  rw [hxs, there_here _ _ _ _ _ _ ha, there_here _ _ _ _ _ _ hb]
  unfold refsF arityF
  generalize thereF nl ng L.length ns a1 a2 = A
  generalize thereF nl ng L.length ns b1 b2 = B
  generalize (xs.all fun p => thereF nl ng L.length ns p.1 p.2) = C
  cases A <;> cases B <;> cases C <;> simp
  rcases hx with ⟨h5, _⟩ | h0
  · subst h5
    by_cases h6 : 6 < xs.length
    · have h6' : ¬ xs.length ≤ 6 := by omega
      simp [h6, h6']
    · have h6' : xs.length ≤ 6 := by omega
      simp only [h6, h6', if_false]
      by_cases h3 : b1 = 3
      · by_cases hq : (xs.length : Int) = ((L[b2.toNat]?).map Fn.params).getD 0 <;> simp [h3, hq]
      · simp [h3]
  · subst h0
    by_cases h5 : k = 5
    · subst h5
      by_cases h3 : b1 = 3
      · simp [h3]
      · simp [h3]
    · simp [h5]
set_option maxHeartbeats 8000000 in
theorem broken_any (As Ag Af Ae Al At Ab Aa Asub : Option Addr) (ls cs ng cg cf ne ce nl cl ns ct lb cb ca csub : Nat) (fn fp N : Int) (L : List Fn) (x : It) (w : World) (h : ArgsAt w (.slice Aa x.xs.length ca) x.xs) (hl : x.xs.length ≤ 1000000000) (hd : x.deep ≤ 1000000000) (hF : FnsS (fun _ => True) w Af L) (hlow : x.Low) :
    Calls Try.prog 43 #[.agg #[.slice As ls cs, .slice Ag ng cg, .slice Af L.length cf, .slice Ae ne ce], .agg #[.int .i64 fn, .int .i64 fp, .slice Al nl cl, .slice At ns ct, .slice Ab lb cb], .agg #[.int .i64 N, .int .i64 (x.deep : Int), .int .u8 x.k, .int .u8 x.a1, .int .i64 x.a2, .int .u8 x.b1, .int .i64 x.b2, .slice Aa x.xs.length ca, .slice Asub x.sub.len csub]] w (InB w (stmtF L nl ng ns x)) := by
  rw [← brk_stmt]
  obtain ⟨v, hv⟩ : ∃ v, v = brkF L nl ng ns x := ⟨_, rfl⟩
  rw [← hv]
  unfold brkF at hv
  obtain ⟨deep, k, a1, a2, b1, b2, xs, sub⟩ := x
  obtain ⟨ha0, ha4, hb0, hb4, hxl⟩ := hlow
  dsimp only at *
  have hK := fun wx (hx : Below w.heap.size w wx) => fits_any Aa Asub ca sub.len csub k a1 a2 b1 b2 xs wx (h.old hx) hl
  have hHe := fun k i wx (h0 : 0 ≤ k) (h4 : k ≤ 4) => here_any As Ag Af Ae Al At Ab ls cs ng cg L.length cf ne ce nl cl ns ct lb cb fn fp k i wx h0 h4
  have hth : hereF nl ng L.length ns b1 b2 = true → b1 = 3 → 0 ≤ b2 ∧ b2 < L.length := fun h1 h3 => by
    subst h3
    have : withF b2 L.length = true := h1
    simpa [withF] using this
  obtain ⟨A', c', hA1, hA2⟩ := h
  injection hA1 with hA11 hA12 hA13
  subst hA11 hA13
  clear hA12
  have HAr := Lib.hid hA2
  have HF := Lib.hid hF
  obtain ⟨na, hn⟩ : ∃ n, n = xs.length := ⟨_, rfl⟩
  obtain ⟨nf, hnf⟩ : ∃ n, n = L.length := ⟨_, rfl⟩
  obtain ⟨lsub, hls⟩ : ∃ n, n = sub.len := ⟨_, rfl⟩
  rw [← hn] at hK hv hl ⊢
  rw [← hnf] at hHe hv hth ⊢
  rw [← hls] at hK hv ⊢
  have HNF := Lib.hid hnf
  have HNA := Lib.hid hn
  obtain ⟨bk, hbk⟩ : ∃ b, b = kindF k a1 a2 b1 b2 xs lsub := ⟨_, rfl⟩
  obtain ⟨bA, hbA⟩ : ∃ b, b = hereF nl ng nf ns a1 a2 := ⟨_, rfl⟩
  obtain ⟨bB, hbB⟩ : ∃ b, b = hereF nl ng nf ns b1 b2 := ⟨_, rfl⟩
  rw [← hbk] at hK hv
  have hHA := fun wx => hHe a1 a2 wx ha0 ha4
  have hHB := fun wx => hHe b1 b2 wx hb0 hb4
  rw [← hbA] at hHA hv
  rw [← hbB] at hHB hv hth
  have HK := Lib.hid hK
  have HA := Lib.hid hHA
  have HB := Lib.hid hHB
  have HE := Lib.hid hHe
  have HV := Lib.hid hv
  have HTh := Lib.hid hth
  have HXL := Lib.hid hxl
  have HV0 : Hid ((xs.all fun p => hereF nl ng nf ns p.1 p.2) = (xs.drop 0).all fun p => hereF nl ng nf ns p.1 p.2) := rfl
  clear hK hHA hHB hHe hv hth hF hbk hbA hbB hn hnf hls hA2 hxl ha0 ha4 hb0 hb4
  obtain ⟨w1, hw1⟩ : ∃ w1, w1 = (((w.alloc (.cells #[.slice As ls cs, .slice Ag ng cg, .slice Af nf cf, .slice Ae ne ce] 30)).alloc (.cells #[.int .i64 fn, .int .i64 fp, .slice Al nl cl, .slice At ns ct, .slice Ab lb cb] 40)).alloc (.cells #[.int .i64 N, .int .i64 (deep : Int), .int .u8 k, .int .u8 a1, .int .i64 a2, .int .u8 b1, .int .i64 b2, .slice Aa na ca, .slice Asub lsub csub] 90)).alloc (.cells #[.int .u8 k, .int .u8 a1, .int .i64 a2, .int .u8 b1, .int .i64 b2, .slice Aa na ca, .slice Asub lsub csub] 50) := ⟨_, rfl⟩
  have HB1 : Hid (Below w.heap.size w w1) := by rw [hw1]; exact ((((Below.refl _ _).alloc (Nat.le_refl _) _).alloc (by simp) _).alloc (by simp; omega) _).alloc (by simp; omega) _
  have K1 : Hid (Blk w1 w.heap.size 30 #[.slice As ls cs, .slice Ag ng cg, .slice Af nf cf, .slice Ae ne ce]) := by rw [hw1]; exact (((Blk.new w 30 _).alloc _).alloc _).alloc _
  have K2 : Hid (Blk w1 (w.heap.size + 1) 40 #[.int .i64 fn, .int .i64 fp, .slice Al nl cl, .slice At ns ct, .slice Ab lb cb]) := by rw [hw1]; exact ((Blk.new' _ 40 _ _ (by simp)).alloc _).alloc _
  have K3 : Hid (Blk w1 (w.heap.size + 1 + 1) 90 #[.int .i64 N, .int .i64 (deep : Int), .int .u8 k, .int .u8 a1, .int .i64 a2, .int .u8 b1, .int .i64 b2, .slice Aa na ca, .slice Asub lsub csub]) := by rw [hw1]; exact (Blk.new' _ 90 _ _ (by simp)).alloc _
  have K4 : Hid (Blk w1 (w.heap.size + 1 + 1 + 1) 50 #[.int .u8 k, .int .u8 a1, .int .i64 a2, .int .u8 b1, .int .i64 b2, .slice Aa na ca, .slice Asub lsub csub]) := by rw [hw1]; exact Blk.new' _ 50 _ _ (by simp)
  go_enter Try.func43, Try.ntmps43
  go_upto_region 2 with (fail)
  rw [← hw1]
  clear hw1
  obtain ⟨s0, s1, s2, s3, s4, s5, s6, s7, s8⟩ := K3.out.c9
  have z3 : w.heap.size + 1 + 1 < w1.heap.size := K3.out.lt
  by_cases h8 : 8 < deep
  · have h8i : (8 : Int) < (deep : Int) := by omega
    obtain rfl : v = 6 := by rw [HV.out, if_pos h8]
    clear HV
    go_wp2
    go_ret
    exact ⟨rfl, HB1.out⟩
  have h8i : ¬ (8 : Int) < (deep : Int) := by omega
  have hv := HV.out
  rw [if_neg h8] at hv
  have HV2 := Lib.hid hv
  clear HV hv
  go_upto_region 4 with (fail)
  clear s0 s1 s2 s3 s4 s5 s6 s7 s8 z3 K3
  obtain ⟨t0, t1, t2, t3, t4, t5, t6⟩ := K4.out.c7
  have z4 : w.heap.size + 1 + 1 + 1 < w1.heap.size := K4.out.lt
  go_wp2_with fail
  refine (HK.out _ HB1.out).mono ?_
  rintro e w2 ⟨rfl, hb2⟩
  have HB2 := Lib.hid (HB1.out.trans (hb2.mono HB1.out.size))
  have L1 := Lib.hid (K1.out.old hb2)
  have L2 := Lib.hid (K2.out.old hb2)
  have L4 := Lib.hid (K4.out.old hb2)
  clear hb2 t0 t1 t2 t3 t4 t5 t6 z4 K1 K2 K4
  cases bk with
  | false =>
    obtain rfl : v = 7 := by simpa using HV2.out
    clear HV2
    go_wp2
    go_ret
    exact ⟨rfl, HB2.out⟩
  | true =>
    have hv := HV2.out
    rw [if_neg (by simp)] at hv
    have HV3 := Lib.hid hv
    clear HV2 hv
    obtain ⟨m0, m1, m2, m3⟩ := L1.out.c4
    obtain ⟨f0, f1, f2, f3, f4⟩ := L2.out.c5
    obtain ⟨t0, t1, t2, t3, t4, t5, t6⟩ := L4.out.c7
    have z1 : w.heap.size < w2.heap.size := L1.out.lt
    have z2 : w.heap.size + 1 < w2.heap.size := L2.out.lt
    have z4 : w.heap.size + 1 + 1 + 1 < w2.heap.size := L4.out.lt
    go_wp2_with fail
    refine (HA.out _).mono ?_
    rintro e w3 ⟨rfl, hb3⟩
    have HB3 := Lib.hid (HB2.out.trans (hb3.mono HB2.out.size))
    have M1 := Lib.hid (L1.out.old hb3)
    have M2 := Lib.hid (L2.out.old hb3)
    have M4 := Lib.hid (L4.out.old hb3)
    clear hb3 m0 m1 m2 m3 f0 f1 f2 f3 f4 t0 t1 t2 t3 t4 t5 t6 z1 z2 z4 L1 L2 L4
    cases bA with
    | false =>
      obtain rfl : v = 8 := by simpa using HV3.out
      clear HV3
      go_wp2
      go_ret
      exact ⟨rfl, HB3.out⟩
    | true =>
      have hv := HV3.out
      rw [if_neg (by simp)] at hv
      have HV4 := Lib.hid hv
      clear HV3 hv
      obtain ⟨m0, m1, m2, m3⟩ := M1.out.c4
      obtain ⟨f0, f1, f2, f3, f4⟩ := M2.out.c5
      obtain ⟨t0, t1, t2, t3, t4, t5, t6⟩ := M4.out.c7
      have z1 : w.heap.size < w3.heap.size := M1.out.lt
      have z2 : w.heap.size + 1 < w3.heap.size := M2.out.lt
      have z4 : w.heap.size + 1 + 1 + 1 < w3.heap.size := M4.out.lt
      go_wp2_with fail
      refine (HB.out _).mono ?_
      rintro e w4 ⟨rfl, hb4⟩
      have HB4 := Lib.hid (HB3.out.trans (hb4.mono HB3.out.size))
      have N1 := Lib.hid (M1.out.old hb4)
      have N2 := Lib.hid (M2.out.old hb4)
      have N4 := Lib.hid (M4.out.old hb4)
      clear hb4 m0 m1 m2 m3 f0 f1 f2 f3 f4 t0 t1 t2 t3 t4 t5 t6 z1 z2 z4 M1 M2 M4
      cases bB with
      | false =>
        obtain rfl : v = 8 := by simpa using HV4.out
        clear HV4
        go_wp2
        go_ret
        exact ⟨rfl, HB4.out⟩
      | true =>
        have hv := HV4.out
        rw [if_neg (by simp)] at hv
        rw [HV0.out] at hv
        obtain ⟨G, hG⟩ : ∃ G : Bool → Int, G = fun c => if c = false then 8 else if k = 5 then (if 6 < na then 9 else if b1 = 3 ∧ (na : Int) ≠ ((L[b2.toNat]?).map Fn.params).getD 0 then 9 else 0) else 0 := ⟨_, rfl⟩
        have HV5 : Hid (v = G ((xs.drop 0).all fun p => hereF nl ng nf ns p.1 p.2)) := by show _ = _; rw [hG]; exact hv
        have HG0 : Hid (G false = 8) := by show _ = _; rw [hG]; rfl
        have HG1 : Hid (G true = if k = 5 then (if 6 < na then 9 else if b1 = 3 ∧ (na : Int) ≠ ((L[b2.toNat]?).map Fn.params).getD 0 then 9 else 0) else 0) := by show _ = _; rw [hG]; rfl
        clear HV4 hv HV0 hG
        go_upto_region 8 with (fail)
        go_wp2_with fail
        go_loopw [8] (fun s wr => ∃ (i : Nat), i ≤ na ∧ s = .int .i64 (i : Int) ∧ Hid (v = G ((xs.drop i).all fun p => hereF nl ng nf ns p.1 p.2)) ∧ Hid (Below w.heap.size w wr) ∧ Hid (Blk wr w.heap.size 30 #[.slice As ls cs, .slice Ag ng cg, .slice Af nf cf, .slice Ae ne ce]) ∧ Hid (Blk wr (w.heap.size + 1) 40 #[.int .i64 fn, .int .i64 fp, .slice Al nl cl, .slice At ns ct, .slice Ab lb cb]) ∧ Hid (Blk wr (w.heap.size + 1 + 1 + 1) 50 #[.int .u8 k, .int .u8 a1, .int .i64 a2, .int .u8 b1, .int .i64 b2, .slice Aa na ca, .slice Asub lsub csub])) (fun s _ => na - (intOf s).toNat)
        case atStart => exact ⟨0, Nat.zero_le _, rfl, HV5, HB4, N1, N2, N4⟩
        case round =>
          clear HV5 HB4 N1 N2 N4 HB3 HB2 HB1 HK HA HB
          obtain ⟨i, hi, rfl, hE, hB, P1, P2, P4⟩ := hrel
          obtain ⟨m0, m1, m2, m3⟩ := P1.out.c4
          obtain ⟨f0, f1, f2, f3, f4⟩ := P2.out.c5
          obtain ⟨t0, t1, t2, t3, t4, t5, t6⟩ := P4.out.c7
          have z1 : w.heap.size < wr.heap.size := P1.out.lt
          have z2 : w.heap.size + 1 < wr.heap.size := P2.out.lt
          have z4 : w.heap.size + 1 + 1 + 1 < wr.heap.size := P4.out.lt
          by_cases hlt : i < na
          · have hkl : i < xs.length := by rw [← HNA.out]; exact hlt
            have hli : (i : Int) < (na : Int) := by omega
            obtain ⟨b, o, rfl, hc⟩ := HAr.out (by omega)
            obtain ⟨d0, d1⟩ := hc i hkl
            have hbl : b < w.heap.size := World.block_lt_of_cell? w ⟨b, o + i * 2, none⟩ d0
            have e0 := cell_old hB.out hbl d0
            have e1 := cell_old hB.out hbl d1
            rw [show xs.getD i (0, 0) = xs[i] from by simp [List.getD, hkl]] at e0 e1
            have hE2 := hE.out
            rw [List.drop_eq_getElem_cons hkl] at hE2
            simp only [List.all_cons] at hE2
            have hlo := HXL.out _ (List.getElem_mem hkl)
            generalize xs[i] = x at *
            obtain ⟨xk, xi⟩ := x
            dsimp only at e0 e1 hE2 hlo
            have hz : b < wr.heap.size := by have := hB.out.size; omega
            obtain ⟨bv, hbv⟩ : ∃ b, b = hereF nl ng nf ns xk xi := ⟨_, rfl⟩
            have hH := fun wx => HE.out xk xi wx hlo.1 hlo.2
            rw [← hbv] at hE2 hH
            have HH := Lib.hid hH
            have HE2 := Lib.hid hE2
            clear hE2 hc d0 d1 hbl hE hbv hH hlo
            go_upto_region 11 with (fail)
            go_cut [46] (fun s46 wx => s46 = .bool (!bv) ∧ Hid (Below wr.heap.size wr wx))
            case first =>
              go_region_law (first | (go_simp; go_at_call 72; refine (HH.out _).mono ?_; rintro e w5 ⟨rfl, hb5⟩))
              all_goals
                have HB5 : Hid (Below wr.heap.size wr w5) := ((Below.refl wr.heap.size wr).drew).trans hb5
                clear hb5
                go_wp2_with fail
                go_meet
                case rel => exact ⟨rfl, HB5⟩
            case rest =>
              obtain ⟨rfl, hB5⟩ := hcut
              have HB5 := Lib.hid (hB.out.trans (hB5.out.mono hB.out.size))
              have R1 := Lib.hid (P1.out.old hB5.out)
              have R2 := Lib.hid (P2.out.old hB5.out)
              have R4 := Lib.hid (P4.out.old hB5.out)
              clear e0 e1 hz hB5 P1 P2 P4 m0 m1 m2 m3 f0 f1 f2 f3 f4 t0 t1 t2 t3 t4 t5 t6 z1 z2 z4
              cases bv with
              | false =>
                obtain rfl : v = 8 := by rw [HE2.out, ← HG0.out]; rfl
                go_wp2
                go_ret
                exact ⟨rfl, HB5.out⟩
              | true =>
                have HE4 : Hid (v = G ((xs.drop (i + 1)).all fun p => hereF nl ng nf ns p.1 p.2)) := by show _ = _; rw [HE2.out]; rfl
                go_wp2
                go_roundw
                case rel => exact ⟨i + 1, by omega, by go_num, HE4, HB5, R1, R2, R4⟩
                case measure => simp [intOf]; omega
          · obtain rfl : i = na := by omega
            have hv := hE.out
            rw [List.drop_of_length_le (by rw [← HNA.out]; omega)] at hv
            have hv := hv.trans HG1.out
            clear hE hlt P1 P2 P4 f0 f1 f2 f3 f4 z2
            by_cases h5 : k = 5
            · subst h5
              rw [if_pos rfl] at hv
              by_cases h6 : 6 < i
              · have h6i : (6 : Int) < (i : Int) := by omega
                rw [if_pos h6] at hv
                subst hv
                go_upto_region 13 with (fail)
                go_quiet ((fail))
                go_wp2
                go_ret
                exact ⟨rfl, hB.out.trans ((below_dN _ _ _).mono hB.out.size)⟩
              · have h6i : ¬ (6 : Int) < (i : Int) := by omega
                rw [if_neg h6] at hv
                by_cases h3 : b1 = 3
                · subst h3
                  obtain ⟨hb0, hb1⟩ := HTh.out trivial rfl
                  obtain ⟨j, rfl⟩ : ∃ j : Nat, b2 = j := ⟨b2.toNat, by omega⟩
                  have hjL : j < L.length := by rw [← HNF.out]; omega
                  obtain ⟨b, o, rfl, _, hc⟩ := HF.out (by omega)
                  obtain ⟨fs, ⟨Al, cl, At, ct, Ab, cb, rfl, _⟩, hcc⟩ := hc j hjL
                  have d1 := hcc 1 _ rfl
                  have hbl : b < w.heap.size := World.block_lt_of_cell? w _ d1
                  have e1 := cell_old hB.out hbl d1
                  have hz : b < wr.heap.size := by have := hB.out.size; omega
                  have hv2 : v = if (i : Int) ≠ L[j].params then 9 else 0 := by rw [hv]; simp [hjL]
                  generalize L[j].params = ps at *
                  have HV2 := Lib.hid hv2
                  clear hv hc hcc d1 hv2
                  by_cases hp : (i : Int) = ps
                  · obtain rfl : v = 0 := by rw [HV2.out]; simp [hp]
                    have hp1 : ((i : Int) != ps) = false := by simpa using hp
                    have hp2 : ((i : Int) == ps) = true := by simpa using hp
                    clear hp HV2
                    go_upto_region 13 with (fail)
                    go_quiet ((fail))
                    go_wp2
                    go_ret
                    exact ⟨rfl, hB.out.trans ((below_dN _ _ _).mono hB.out.size)⟩
                  · obtain rfl : v = 9 := by rw [HV2.out]; simp [hp]
                    have hp1 : ((i : Int) != ps) = true := by simpa using hp
                    have hp2 : ((i : Int) == ps) = false := by simpa using hp
                    clear hp HV2
                    go_upto_region 13 with (fail)
                    go_quiet ((fail))
                    go_wp2
                    go_ret
                    exact ⟨rfl, hB.out.trans ((below_dN _ _ _).mono hB.out.size)⟩
                · have g3 : (b1 == 3) = false := by simpa using h3
                  rw [if_neg (by simp [h3])] at hv
                  subst hv
                  go_upto_region 13 with (fail)
                  go_quiet ((fail))
                  go_wp2
                  go_ret
                  exact ⟨rfl, hB.out.trans ((below_dN _ _ _).mono hB.out.size)⟩
            · have g5 : (k == 5) = false := by simpa using h5
              rw [if_neg h5] at hv
              subst hv
              go_upto_region 13 with (fail)
              go_quiet ((fail))
              go_wp2
              go_ret
              exact ⟨rfl, hB.out.trans ((below_dN _ _ _).mono hB.out.size)⟩
end Go.Proofs.Ytpdebnecfknohaa
