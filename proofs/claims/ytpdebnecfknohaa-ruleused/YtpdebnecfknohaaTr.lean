/-
  What the rules on a function leave.
-/
import Derived.Test.YtpdebnecfknohaaTq
namespace Go.Proofs.Ytpdebnecfknohaa
open Go.RowKit
set_option linter.unusedVariables false
set_option linter.unusedSimpArgs false
set_option maxRecDepth 20000

/-- The rule that a function breaks, but for its statements; 0: none. -/
def funcF (S : List (List UInt8)) (f : Fn) : Int :=
  if 40 < f.locals.length ∨ 40 < f.sites.length ∨ roomF f.body 400 < 0 then 2
  else if f.params < 0 ∨ (f.locals.length : Int) < f.params ∨ 6 < f.params then 4
  else if nmF S [] f.locals ≠ 0 then nmF S [] f.locals else nmF S [] f.sites
/-- Numbers that are ints. -/
def WfI (l : List Int) : Prop := ∀ n ∈ l, -9223372036854775808 ≤ n ∧ n ≤ 9223372036854775807
set_option maxHeartbeats 4000000 in
theorem func_any (S : List (List UInt8)) (As Ag Af Ae Al At Ab : Option Addr) (cs ng cg nf cf ne ce cl ct cb : Nat) (f : Fn) (w : World) (hs : RdS (fun _ => True) w As S.length 1 (strV S)) (hsl : S.length ≤ 1000000) (h1 : RdS (fun _ => True) w Al f.locals.length 1 (intV f.locals)) (h2 : RdS (fun _ => True) w At f.sites.length 1 (intV f.sites)) (h3 : BodyV w Ab f.body) (hb : f.body.size ≤ 100000000) (hw1 : WfI f.locals) (hw2 : WfI f.sites) (hl1 : f.locals.length ≤ 1000000) (hl2 : f.sites.length ≤ 1000000) :
    Calls Try.prog 38 #[.agg #[.slice As S.length cs, .slice Ag ng cg, .slice Af nf cf, .slice Ae ne ce], .agg #[.int .i64 f.name, .int .i64 f.params, .slice Al f.locals.length cl, .slice At f.sites.length ct, .slice Ab f.body.len cb]] w (InB w (funcF S f)) := by
  obtain ⟨v, hv⟩ : ∃ v, v = funcF S f := ⟨_, rfl⟩
  rw [← hv]
  unfold funcF at hv
  obtain ⟨fn, fp, fl, ft, fb⟩ := f
  dsimp only at *
  have hN1 := fun wx (hx : Below w.heap.size w wx) => names_any S As Ag Af Ae Al cs ng cg nf cf ne ce cl fl wx (hs.old hx (by omega)) hsl (h1.old hx (by omega)) hl1 hw1
  have hN2 := fun wx (hx : Below w.heap.size w wx) => names_any S As Ag Af Ae At cs ng cg nf cf ne ce ct ft wx (hs.old hx (by omega)) hsl (h2.old hx (by omega)) hl2 hw2
  have hRm := fun wx (hx : Below w.heap.size w wx) => room_any fb.size fb Ab cb 400 wx (Nat.le_refl _) hb (by omega) (by omega) (h3.old hx)
  obtain ⟨nl, hnl⟩ : ∃ n, n = fl.length := ⟨_, rfl⟩
  obtain ⟨nt, hnt⟩ : ∃ n, n = ft.length := ⟨_, rfl⟩
  obtain ⟨nb, hnb⟩ : ∃ n, n = fb.len := ⟨_, rfl⟩
  obtain ⟨ls, hls⟩ : ∃ n, n = S.length := ⟨_, rfl⟩
  obtain ⟨r1, hr1⟩ : ∃ r, r = nmF S [] fl := ⟨_, rfl⟩
  obtain ⟨r2, hr2⟩ : ∃ r, r = nmF S [] ft := ⟨_, rfl⟩
  obtain ⟨rm, hrm⟩ : ∃ r, r = roomF fb 400 := ⟨_, rfl⟩
  rw [← hnl, ← hls, ← hr1] at hN1
  rw [← hnt, ← hls, ← hr2] at hN2
  rw [← hnb, ← hrm] at hRm
  rw [← hnl, ← hnt, ← hr1, ← hr2, ← hrm] at hv
  rw [← hnl, ← hnt, ← hnb, ← hls]
  have HN1 := Lib.hid hN1
  have HN2 := Lib.hid hN2
  have HRm := Lib.hid hRm
  have HV := Lib.hid hv
  clear hN1 hN2 hRm hv hs hsl h1 h2 h3 hb hw1 hw2 hl1 hl2 hnl hnt hnb hls hr1 hr2 hrm
  obtain ⟨w1, hw1⟩ : ∃ w1, w1 = (w.alloc (.cells #[.slice As ls cs, .slice Ag ng cg, .slice Af nf cf, .slice Ae ne ce] 30)).alloc (.cells #[.int .i64 fn, .int .i64 fp, .slice Al nl cl, .slice At nt ct, .slice Ab nb cb] 40) := ⟨_, rfl⟩
  have HB1 : Hid (Below w.heap.size w w1) := by rw [hw1]; exact ((Below.refl _ _).alloc (Nat.le_refl _) _).alloc (by simp) _
  have K1 : Hid (Blk w1 w.heap.size 30 #[.slice As ls cs, .slice Ag ng cg, .slice Af nf cf, .slice Ae ne ce]) := by rw [hw1]; exact (Blk.new w 30 _).alloc _
  have K2 : Hid (Blk w1 (w.heap.size + 1) 40 #[.int .i64 fn, .int .i64 fp, .slice Al nl cl, .slice At nt ct, .slice Ab nb cb]) := by rw [hw1]; exact Blk.new' _ 40 _ _ (by simp)
  go_enter Try.func38, Try.ntmps38
  go_upto_region 1 with (fail)
  rw [← hw1]
  clear hw1
  obtain ⟨m0, m1, m2, m3⟩ := K1.out.c4
  obtain ⟨f0, f1, f2, f3, f4⟩ := K2.out.c5
  have z1 : w.heap.size < w1.heap.size := K1.out.lt
  have z2 : w.heap.size + 1 < w1.heap.size := K2.out.lt
  by_cases hl : 40 < nl
  · have hli : (40 : Int) < (nl : Int) := by omega
    obtain rfl : v = 2 := by rw [HV.out, if_pos (.inl hl)]
    clear HV
    go_wp2
    go_ret
    exact ⟨rfl, HB1.out⟩
  have hli : ¬ (40 : Int) < (nl : Int) := by omega
  by_cases ht : 40 < nt
  · have hti : (40 : Int) < (nt : Int) := by omega
    obtain rfl : v = 2 := by rw [HV.out, if_pos (.inr (.inl ht))]
    clear HV
    go_wp2
    go_ret
    exact ⟨rfl, HB1.out⟩
  have hti : ¬ (40 : Int) < (nt : Int) := by omega
  go_wp2_with fail
  refine (HRm.out _ HB1.out).mono ?_
  rintro e w2 ⟨rfl, hb2⟩
  have HB2 := Lib.hid (HB1.out.trans (hb2.mono HB1.out.size))
  have L1 := Lib.hid (K1.out.old hb2)
  have L2 := Lib.hid (K2.out.old hb2)
  clear hb2 m0 m1 m2 m3 f0 f1 f2 f3 f4 z1 z2 K1 K2
  obtain ⟨m0, m1, m2, m3⟩ := L1.out.c4
  obtain ⟨f0, f1, f2, f3, f4⟩ := L2.out.c5
  have z1 : w.heap.size < w2.heap.size := L1.out.lt
  have z2 : w.heap.size + 1 < w2.heap.size := L2.out.lt
  by_cases hr : rm < 0
  · obtain rfl : v = 2 := by rw [HV.out, if_pos (.inr (.inr hr))]
    clear HV
    go_wp2
    go_ret
    exact ⟨rfl, HB2.out⟩
  have HV2 : Hid (v = if fp < 0 ∨ (nl : Int) < fp ∨ 6 < fp then 4 else if r1 ≠ 0 then r1 else r2) := by
    show _ = _
    rw [HV.out, if_neg (by omega)]
  clear HV
  by_cases hp0 : fp < 0
  · obtain rfl : v = 4 := by rw [HV2.out, if_pos (.inl hp0)]
    clear HV2
    go_wp2
    go_ret
    exact ⟨rfl, HB2.out⟩
  by_cases hp1 : (nl : Int) < fp
  · obtain rfl : v = 4 := by rw [HV2.out, if_pos (.inr (.inl hp1))]
    clear HV2
    go_wp2
    go_ret
    exact ⟨rfl, HB2.out⟩
  by_cases hp2 : 6 < fp
  · obtain rfl : v = 4 := by rw [HV2.out, if_pos (.inr (.inr hp2))]
    clear HV2
    go_wp2
    go_ret
    exact ⟨rfl, HB2.out⟩
  have HV3 : Hid (v = if r1 ≠ 0 then r1 else r2) := by
    show _ = _
    rw [HV2.out, if_neg (by omega)]
  clear HV2
  go_wp2_with fail
  refine (HN1.out _ HB2.out).mono ?_
  rintro e w3 ⟨rfl, hb3⟩
  have HB3 := Lib.hid (HB2.out.trans (hb3.mono HB2.out.size))
  have M1 := Lib.hid (L1.out.old hb3)
  have M2 := Lib.hid (L2.out.old hb3)
  clear hb3 m0 m1 m2 m3 f0 f1 f2 f3 f4 z1 z2 L1 L2
  by_cases hr1 : r1 = 0
  · subst hr1
    obtain rfl : v = r2 := by rw [HV3.out]; simp
    clear HV3
    obtain ⟨m0, m1, m2, m3⟩ := M1.out.c4
    obtain ⟨f0, f1, f2, f3, f4⟩ := M2.out.c5
    have z1 : w.heap.size < w3.heap.size := M1.out.lt
    have z2 : w.heap.size + 1 < w3.heap.size := M2.out.lt
    go_wp2_with fail
    refine (HN2.out _ HB3.out).mono ?_
    rintro e w4 ⟨rfl, hb4⟩
    have HB4 := Lib.hid (HB3.out.trans (hb4.mono HB3.out.size))
    clear hb4 m0 m1 m2 m3 f0 f1 f2 f3 f4 z1 z2
    go_wp2
    go_ret
    exact ⟨rfl, HB4.out⟩
  · obtain rfl : v = r1 := by rw [HV3.out, if_pos hr1]
    have g0 : (v == 0) = false := by simpa using hr1
    have g1 : (v != 0) = true := by simpa using hr1
    clear HV3
    go_wp2
    go_ret
    exact ⟨rfl, HB3.out⟩
/-- The rule that entries break; 0: none. -/
def entF (nf : Nat) : List Int → List Int → Int
  | _, [] => 0
  | seen, n :: l => if withF n nf = false then 5 else if seen.contains n then 3 else entF nf (seen ++ [n]) l
end Go.Proofs.Ytpdebnecfknohaa
