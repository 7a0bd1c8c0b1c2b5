/-
  PileLess (tied card): for any two slices of ints the law returns true and leaves its arguments as they were: what one has and another hasn't, and what both have, make it up. Conditions: the library's table math/bits.deBruijn64tab holds what the program's text lays (the card ties it).
-/
import Derived.Test.YtkkkglmjipnfaaaDoorCards
import Derived.Test.YtkkkglmjipnfaaaDoorTie
import Derived.WalkKit
import Derived.Test.YtkkkglmjipnfaaaDoorFam
import Derived.ProofKit
import Derived.OpenShut
import Derived.ShutString
import Derived.ChangeOld
import Derived.Below
import Derived.Deep.DeepHandedRow
import Derived.Lib.LaidTab
import Derived.LaidSub
namespace Go.Proofs.YtkkkglmjipnfaaaDoor.pileLess
open Go.ChangeShapes Go.WideShapes Go.ChangeAt Go.RowKit
open Go.ChangeMaps (open_string shut_string)
set_option linter.unusedVariables false

theorem own : ownKnob Tryd.prog.godebug = none := by kernel_rfl
theorem laidOut : laidOutB Tryd.prog = true := by kernel_rfl
theorem gTab : Tryd.prog.globalNamed "math/bits.deBruijn64tab" = some 0 := by kernel_rfl
theorem gTabType : (Tryd.prog.globals[0]?).map (·.type) = some 74 := by kernel_rfl
theorem tab_of {W : World} (h : laidMetH Tryd.prog Rows.pileLessRow.laid W) : Tab W := fun i hi => by
  have ht : Lib.TabIs Tryd.prog W "math/bits.deBruijn64tab" .u8 (Lib.deBruijn64tab.map (fun x : Nat => (x : Int))) :=
    Lib.tabIs_of_head (rest := []) gTab gTabType Tryd.underlying74 Tryd.underlying5 (by kernel_rfl) (by kernel_rfl) (laidMetH.filter (fun x => x.1 == "math/bits.deBruijn64tab") h)
  have hl : Lib.deBruijn64tab.length = 64 := rfl
  rw [ht.cell gTab i (by rw [List.length_map, hl]; exact hi)]
  have hi2 : i < Lib.deBruijn64tab.length := hi
  simp [List.getD, hi2]
/-- WHAT THE WALK IS TOLD OF A SLICE OF INTEGERS THAT CAME IN: it is nil; or it leads to a row of 'cap' cells, the numbers 'zs' (the first 'len' are its elements, the rest its spare room), each fitting its kind. -/
def IsRow (k : IntKind) (w : World) (a : Option Addr) (len cap : Nat) (zs : List Int) : Prop :=
  (a = none ∧ len = 0 ∧ cap = 0 ∧ zs = []) ∨
  ∃ x, a = some x ∧ len ≤ cap ∧ cap ≤ maxLen ∧ zs.length = cap ∧ (∀ i, i < zs.length → w.cell? (x.add i) = some (.int k (zs.getD i 0))) ∧ ∀ n ∈ zs, (Lit.int k n).wf = true

theorem less_self {L : Bks} (hg : Good L) : lessF L L = [] := has_ext (lessF_good hg) good_nil fun n => by rw [has_lessF hg]; simp [has, look]
theorem inl_nil (m : Int) : inl [] m = false := by simp [inl]
theorem set_nil {L : Bks} (hg : Good L) (h : ∀ m, has L m = inl [] m) : L = [] := has_ext hg good_nil fun n => by rw [h, inl_nil]; simp [has, look]
theorem less_up {S T : Bks} (hS : Good S) (hT : Good T) : joinF (lessF T S) (lessF (lessF T S) S) = S := by
  refine has_ext (joinF_good (lessF_good hS) (lessF_good hS)) hS fun n => ?_
  rw [has_joinF (lessF_good hS) (lessF_good hS), has_lessF hS, has_lessF hS, has_lessF hS]
  cases has S n <;> cases has T n <;> rfl
theorem less_len {S T : Bks} (hS : Good S) (hT : Good T) : lenF S = lenF (lessF T S) + lenF (lessF (lessF T S) S) := by
  refine lenF_split hS (lessF_good hS) (lessF_good hS) (fun m => ?_) (fun m h => ?_)
  · rw [has_lessF hS, has_lessF hS, has_lessF hS]
    cases has S m <;> cases has T m <;> rfl
  · rw [has_lessF hS, h]; simp
theorem less_in {S T : Bks} (hS : Good S) (hT : Good T) (k : Nat) (hk : k < (allF (lessF (lessF T S) S)).length) : has T ((allF (lessF (lessF T S) S)).getD k 0) = true := by
  have hm : (allF (lessF (lessF T S) S)).getD k 0 ∈ allF (lessF (lessF T S) S) := by simp [hk]
  have := (mem_allF (lessF_good hS) _).1 hm
  rw [has_lessF hS, has_lessF hS] at this
  revert this
  generalize (allF (lessF (lessF T S) S)).getD k 0 = z
  cases has S z <;> cases has T z <;> simp
theorem all_small {L : Bks} (hg : Good L) (k : Nat) (hk : k < (allF L).length) : 0 ≤ (allF L).getD k 0 ∧ (allF L).getD k 0 ≤ 9223372036854775807 := by
  have hm : (allF L).getD k 0 ∈ allF L := by simp [hk]
  have := (mem_allF hg _).1 hm
  constructor
  · rcases Int.lt_or_le ((allF L).getD k 0) 0 with h | h
    · rw [has_neg hg h] at this; cases this
    · exact h
  · rcases Int.lt_or_le 9223372036854775807 ((allF L).getD k 0) with h | h
    · rw [has_top hg (by omega)] at this; cases this
    · exact h

set_option maxRecDepth 20000 in
set_option maxHeartbeats 4000000 in
theorem walkB (A1 A2 : Option Addr) (c1 c2 : Nat) (l k2 : List Int) (w : World) (hT : Tab w) (h1 : UR .i64 w A1 l) (h2 : UR .i64 w A2 k2) (x1 : ∀ x ∈ l, -9223372036854775808 ≤ x ∧ x ≤ 9223372036854775807) (x2 : ∀ x ∈ k2, -9223372036854775808 ≤ x ∧ x ≤ 9223372036854775807) (hl1 : l.length ≤ 20) (hl2 : k2.length ≤ 20) :
    Calls Tryd.prog 6 #[.slice A1 l.length c1, .slice A2 k2.length c2] w fun e w' => e = .returned (.bool true) ∧ Below w.heap.size w w' := by
  have HT := Lib.hid hT
  have HU1 := Lib.hid h1
  have HU2 := Lib.hid h2
  have HX1 := Lib.hid x1
  have HX2 := Lib.hid x2
  clear hT h1 h2 x1 x2
  go_enter Tryd.func6, Tryd.ntmps6
  go_wp2_with fail
  refine (awake_any _ HT.out).mono ?_
  rintro e w1 ⟨rfl, hb1⟩
  have s2 := ((St.zero hb1).fresh).fresh.swap
  rw [show (w1.alloc (.cells #[.slice none 0 0] 27)).heap.size = w1.heap.size + 1 from by simp] at s2
  have S2 := Lib.hid s2
  clear hb1 s2
  go_wp2_with fail
  obtain ⟨g1, hg1⟩ : ∃ g, g = w1.heap.size := ⟨_, rfl⟩
  obtain ⟨g2, hg2⟩ : ∃ g, g = w1.heap.size + 1 := ⟨_, rfl⟩
  rw [← hg2, ← hg1] at S2
  rw [← hg2, ← hg1]
  generalize (w1.alloc (.cells #[.slice none 0 0] 27)).alloc (.cells #[.slice none 0 0] 27) = w2 at S2 ⊢
  clear hg1 hg2
  go_loopw [7] (fun i wr => ∃ k : Nat, k ≤ l.length ∧ i = .int .i64 (k : Int) ∧ Hid (∃ v L, St w wr [(g1, v, L), (g2, .slice none 0 0, [])] ∧ L.length ≤ k)) (fun i _ => l.length - (intOf i).toNat)
  case atStart => exact ⟨0, Nat.zero_le _, rfl, _, [], S2.out, by simp⟩
  case round =>
    obtain ⟨k, hk, rfl, hR⟩ := hrel
    obtain ⟨v, L, st, hL⟩ := hR.out
    have ST := Lib.hid st
    clear st hR
    by_cases hlt : k < l.length
    · obtain ⟨b, o, rfl, hc⟩ := (HU1.out.old ST.out.below) (by omega)
      have hck := hc k hlt
      have hxk := HX1.out (l.getD k 0) (by simp [hlt])
      generalize l.getD k 0 = x at *
      clear hc
      have HXK := Lib.hid hxk
      clear hxk
      go_wp2_with fail
      refine (near_any x _ HXK.out.1 HXK.out.2).mono ?_
      rintro e w' ⟨rfl, rfl⟩
      have hnf := nearF_lt x
      generalize nearF x = nx at *
      go_wp2_with fail
      refine (st_add ST.out (by omega) nx (by omega) (by omega)).mono ?_
      rintro e w5 ⟨rfl, v', L', s5, hH, hL5⟩
      have S5 := Lib.hid s5
      clear s5 hH
      go_wp2
      go_roundw
      case rel => exact ⟨k + 1, by omega, by go_num, v', L', S5.out, by omega⟩
      case measure => simp [intOf]; omega
    · obtain rfl : k = l.length := by omega
      have ST2 := Lib.hid ST.out.swap
      clear ST
      go_wp2_with fail
      go_loopw [8] (fun i wr => ∃ k : Nat, k ≤ k2.length ∧ i = .int .i64 (k : Int) ∧ Hid (∃ v2 L2, St w wr [(g2, v2, L2), (g1, v, L)] ∧ L2.length ≤ k)) (fun i _ => k2.length - (intOf i).toNat)
      case atStart => exact ⟨0, Nat.zero_le _, rfl, _, [], ST2.out, by simp⟩
      case round =>
        obtain ⟨k, hk', rfl, hR⟩ := hrel
        obtain ⟨v2, L2, st, hL2⟩ := hR.out
        have ST := Lib.hid st
        clear st hR
        by_cases hlt2 : k < k2.length
        · obtain ⟨b, o, rfl, hc⟩ := (HU2.out.old ST.out.below) (by omega)
          have hck := hc k hlt2
          have hxk := HX2.out (k2.getD k 0) (by simp [hlt2])
          generalize k2.getD k 0 = x at *
          clear hc
          have HXK := Lib.hid hxk
          clear hxk
          go_wp2_with fail
          refine (near_any x _ HXK.out.1 HXK.out.2).mono ?_
          rintro e w' ⟨rfl, rfl⟩
          have hnf := nearF_lt x
          generalize nearF x = nx at *
          go_wp2_with fail
          refine (st_add ST.out (by omega) nx (by omega) (by omega)).mono ?_
          rintro e w5 ⟨rfl, v', L', s5, hH, hL5⟩
          have S5 := Lib.hid s5
          clear s5 hH
          go_wp2
          go_roundw
          case rel => exact ⟨k + 1, by omega, by go_num, v', L', S5.out, by omega⟩
          case measure => simp [intOf]; omega
        · obtain rfl : k = k2.length := by omega
          have GL : Hid (Good L) := (ST.out.set (g1, v, L) (by simp)).good
          have GT : Hid (Good L2) := (ST.out.set (g2, v2, L2) (by simp)).good
          have q1 := lessF_len L2 L
          have q2 := lessF_len (lessF L2 L) L
          have e1 := less_up GL.out GT.out
          have e2 := less_len GL.out GT.out
          have e3 := less_self GL.out
          have E4 := Lib.hid (less_in GL.out GT.out)
          have E5 := Lib.hid (all_small (lessF_good (T := lessF L2 L) GL.out))
          have GX := Lib.hid (lessF_good (T := L2) GL.out)
          have GY := Lib.hid (lessF_good (T := lessF L2 L) GL.out)
          have e6 := allF_len (lessF (lessF L2 L) L)
          have e7 := lenF_le L
          have E1 := Lib.hid e1
          have E2 := Lib.hid e2
          have E3 := Lib.hid e3
          clear e1 e2 e3
          go_wp2_with fail
          refine (st_less ST.out (f1 := (g1, v, L)) (f2 := (g2, v2, L2)) (by simp) (by simp) (by simp only; omega) (by simp only; omega)).mono ?_
          rintro e w6 ⟨g3, v3, rfl, s6⟩
          have S6 := Lib.hid s6
          clear s6
          simp only at S6
          go_wp2_with fail
          refine (st_less S6.out (f1 := (g1, v, L)) (f2 := (g3, v3, lessF L2 L)) (by simp) (by simp) (by simp only; omega) (by simp only; omega)).mono ?_
          rintro e w7 ⟨g4, v4, rfl, s7⟩
          have S7 := Lib.hid s7
          clear s7
          simp only at S7
          generalize lessF (lessF L2 L) L = Y at *
          generalize lessF L2 L = X at *
          go_wp2_with fail
          refine (st_copy S7.out (f := (g3, v3, X)) (by simp) (by simp only; omega)).mono ?_
          rintro e w8 ⟨g5, v5, rfl, s8⟩
          have S8 := Lib.hid s8
          clear s8
          simp only at S8
          go_wp2_with fail
          refine (st_join S8.out (f := (g4, v4, Y)) (by simp) (by omega) (by simp only; omega)).mono ?_
          rintro e w9 ⟨rfl, v5', s9⟩
          simp only at s9
          rw [E1.out] at s9
          have S9 := Lib.hid s9
          clear s9
          go_wp2_with fail
          refine (st_all S9.out HT.out (f := (g4, v4, Y)) (by simp) (by simp only; omega)).mono ?_
          rintro e w10 ⟨A3, c3, rfl, hI, hb10, s10⟩
          have S10 := Lib.hid s10
          have HI := Lib.hid hI
          clear s10 hI hb10
          simp only at HI
          simp only
          generalize allF Y = zs at *
          go_wp2_with fail
          go_loopw [13] (fun i wr => ∃ k : Nat, k ≤ zs.length ∧ i = .int .i64 (k : Int) ∧ Hid (Below w10.heap.size w10 wr)) (fun i _ => zs.length - (intOf i).toNat)
          case atStart => exact ⟨0, Nat.zero_le _, rfl, Below.refl _ _⟩
          case round =>
            obtain ⟨k, hk3, rfl, hB⟩ := hrel
            by_cases hlt3 : k < zs.length
            · obtain ⟨b, o, rfl, hc⟩ := (HI.out.old hB.out) (by omega)
              have hck := hc k hlt3
              have h4 := E4.out k hlt3
              have h5 := E5.out k hlt3
              generalize zs.getD k 0 = z at *
              clear hc
              have H5 := Lib.hid h5
              clear h5
              obtain ⟨Ar, cr, _, hr, _, _⟩ := (S10.out.old hB.out).rd (f := (g2, v2, L2)) (by simp) (by simp only; omega)
              have HR := Lib.hid hr
              clear hr
              go_wp2_with fail
              refine (has_any _ _ _ _ _ _ HR.out (by have := H5.out; omega) H5.out.2).mono ?_
              rintro e w11 ⟨rfl, hb11⟩
              have HB11 := Lib.hid (hB.out.trans (hb11.mono hB.out.size))
              clear hb11
              simp only
              rw [h4]
              go_wp2
              go_roundw
              case rel => exact ⟨k + 1, by omega, by go_num, HB11⟩
              case measure => simp [intOf]; omega
            · obtain rfl : k = zs.length := by omega
              have bX := lenF_le X
              have bY := lenF_le Y
              have hxb : lenF X ≤ 3000 := by omega
              have hyb : lenF Y ≤ 3000 := by omega
              clear bX bY
              have S11 := Lib.hid (S10.out.old hB.out)
              clear S10 hB
              go_wp2_with fail
              refine (st_same S11.out (f1 := (g5, v5', L)) (f2 := (g1, v, L)) (by simp) (by simp) (by simp only; omega) (by simp only; omega)).mono ?_
              rintro e w12 ⟨rfl, s12⟩
              have S12 := Lib.hid s12
              clear s12
              simp only [decide_true]
              go_wp2_with fail
              refine (st_len S12.out (f := (g3, v3, X)) (by simp) (by simp only; omega)).mono ?_
              rintro e w13 ⟨rfl, s13⟩
              have S13 := Lib.hid s13
              clear s13
              go_wp2_with fail
              refine (st_len S13.out (f := (g4, v4, Y)) (by simp) (by simp only; omega)).mono ?_
              rintro e w14 ⟨rfl, s14⟩
              have S14 := Lib.hid s14
              clear s14
              go_wp2_with fail
              refine (st_len S14.out (f := (g1, v, L)) (by simp) (by simp only; omega)).mono ?_
              rintro e w15 ⟨rfl, s15⟩
              have S15 := Lib.hid s15
              clear s15
              simp only
              have e2 := E2.out
              generalize lenF X = nx at *
              generalize lenF Y = ny at *
              generalize lenF L = nl at *
              subst e2
              have e8 : (((nx + ny : Nat) : Int)) = (nx : Int) + (ny : Int) := by omega
              rw [e8]
              have e9 : ((nx : Int) + (ny : Int) == (nx : Int) + (ny : Int)) = true := by simp
              go_wp2_with fail
              refine (st_less S15.out (f1 := (g1, v, L)) (f2 := (g1, v, L)) (by simp) (by simp) (by simp only; omega) (by simp only; omega)).mono ?_
              rintro e w16 ⟨g6, v6, rfl, s16⟩
              simp only [E3.out] at s16
              have S16 := Lib.hid s16
              clear s16
              go_wp2_with fail
              refine (st_of S16.out none 0 [] (fun h => by simp at h) (by simp) (fun _ => rfl) (by simp)).mono ?_
              rintro e w17 ⟨g7, v7, L7, rfl, s17, hH7, hL7⟩
              obtain rfl := set_nil (s17.set (g7, v7, L7) (by simp)).good hH7
              have S17 := Lib.hid s17
              clear s17 hH7 hL7
              go_wp2_with fail
              refine (st_same S17.out (f1 := (g6, v6, [])) (f2 := (g7, v7, [])) (by simp) (by simp) (by simp) (by simp)).mono ?_
              rintro e w18 ⟨rfl, s18⟩
              have S18 := Lib.hid s18
              clear s18
              simp only [decide_true]
              go_wp2
              go_ret
              exact ⟨rfl, S18.out.below⟩

set_option maxHeartbeats 1000000 in
theorem walk (a0 : Option Addr) (len0 cap0 : Nat) (z0 : List Int) (a1 : Option Addr) (len1 cap1 : Nat) (z1 : List Int) (w : World) (w0 : IsRow .i64 w a0 len0 cap0 z0) (w1 : IsRow .i64 w a1 len1 cap1 z1) (hT : Tab w) :
    Calls Tryd.prog 6 #[.slice a0 len0 cap0, .slice a1 len1 cap1] w fun e w' => e = .returned (.bool true) ∧ Below w.heap.size w w' := by
  obtain ⟨l, rfl, u1, x1, m1, n1⟩ := ur_of_row w0
  obtain ⟨k2, rfl, u2, x2, m2, n2⟩ := ur_of_row w1
  by_cases hl : l.length ≤ 20 ∧ k2.length ≤ 20
  · exact walkB a0 a1 cap0 cap1 l k2 w hT u1 u2 (fun x hx => i64_of_wf (x1 x hx)) (fun x hx => i64_of_wf (x2 x hx)) hl.1 hl.2
  · have HT := Lib.hid hT
    clear w0 w1 u1 u2 x1 x2 hT n1 n2
    obtain ⟨n1, hn1⟩ : ∃ n, n = l.length := ⟨_, rfl⟩
    obtain ⟨n2, hn2⟩ : ∃ n, n = k2.length := ⟨_, rfl⟩
    rw [← hn1] at hl m1 ⊢
    rw [← hn2] at hl m2 ⊢
    clear hn1 hn2
    by_cases h1 : n1 ≤ 20
    · have h2 : 20 < n2 := by omega
      go_enter Tryd.func6, Tryd.ntmps6
      go_wp2_with fail
      refine (awake_any _ HT.out).mono ?_
      rintro e w1 ⟨rfl, hb1⟩
      have HB1 := Lib.hid hb1
      have HT1 := Lib.hid (HT.out.old hb1)
      clear hb1 HT
      go_wp2_with fail
      refine (awake_any _ HT1.out).mono ?_
      rintro e w2 ⟨rfl, hb2⟩
      have HB2 := Lib.hid (HB1.out.trans (hb2.mono HB1.out.size))
      clear hb2
      go_wp2
      go_ret
      exact ⟨rfl, HB2.out⟩
    · have h2 : 20 < n1 := by omega
      go_enter Tryd.func6, Tryd.ntmps6
      go_wp2_with fail
      refine (awake_any _ HT.out).mono ?_
      rintro e w1 ⟨rfl, hb1⟩
      have HB1 := Lib.hid hb1
      have HT1 := Lib.hid (HT.out.old hb1)
      clear hb1 HT
      go_wp2_with fail
      refine (awake_any _ HT1.out).mono ?_
      rintro e w2 ⟨rfl, hb2⟩
      have HB2 := Lib.hid (HB1.out.trans (hb2.mono HB1.out.size))
      clear hb2
      go_wp2
      go_ret
      exact ⟨rfl, HB2.out⟩

theorem contract (H : Type) (enc : TypeId × Value → H) (W : World) (base : Nat) (args : Array Value) (ds gs : List (DataW H)) (before : List MemPlace)
    (hval : ∀ (j : Nat) t v, Tryd.f6.params[j]? = some t → args[j]? = some v → Value.okWide Tryd.prog W .any base t v)
    (hW : DataW.Whole enc Tryd.prog Tryd.f6.params.toList Rows.pileLessSpec.vars false W args.toList ds gs before) (hL : laidMetH Tryd.prog Rows.pileLessRow.laid W) :
    Calls Tryd.prog 6 args W fun e W' => ∃ v, e = .returned v ∧ Rows.pileLessSpec.post enc Tryd.prog Tryd.f6 false true false false W args v W' := by
  have hW' := hW
  obtain ⟨p, q, hA0, hV, rfl, hfz, hnd⟩ := hW
  have hA : DataW.TrodAll enc Tryd.prog W 0 (fun _ => true) true Tryd.f6.params.toList args.toList ds p := hA0
  rw [Tryd.params6] at hA hval
  obtain ⟨v0, vs0, d0, ds0, p0, q0, hargs, rfl, rfl, h0, r0⟩ := trodAll_cons hA
  obtain ⟨v1, vs1, d1, ds1, p1, q1, rfl, rfl, rfl, h1, r1⟩ := trodAll_cons r0
  obtain ⟨rfl, rfl, rfl⟩ := trodAll_nil r1
  obtain rfl : args = #[v0, v1] := by cases args; simp_all
  obtain ⟨rfl, rfl⟩ := trodVars_none hV
  obtain ⟨a0, len0, cap0, rfl⟩ := okWide_slice Tryd.underlying40 (hval 0 40 v0 rfl rfl)
  have k0 := h0
  have lt0 : ∀ x ∈ p0, x.block < W.heap.size := by obtain ⟨m, hm⟩ := k0; exact DataW.trod_lt m _ _ _ hm
  obtain ⟨z0, w0⟩ : ∃ zs, IsRow .i64 W a0 len0 cap0 zs := by
    obtain ⟨fuel, hf⟩ := h0
    rcases open_ints Tryd.underlying40 Tryd.underlying3 (by kernel_rfl) hf with ⟨hcs, _⟩ | ⟨x, l, c, zs, hcs, _, hl, hm, hz, _, hcell, hwz⟩
    · simp [Value.cells] at hcs
      obtain ⟨rfl, rfl, rfl⟩ := hcs
      exact ⟨[], .inl ⟨rfl, rfl, rfl, rfl⟩⟩
    · simp [Value.cells] at hcs
      obtain ⟨rfl, rfl, rfl⟩ := hcs
      exact ⟨zs, .inr ⟨_, rfl, hl, hm, by simpa using hz, hcell, hwz⟩⟩
  obtain ⟨a1, len1, cap1, rfl⟩ := okWide_slice Tryd.underlying40 (hval 1 40 v1 rfl rfl)
  have k1 := h1
  have lt1 : ∀ x ∈ p1, x.block < W.heap.size := by obtain ⟨m, hm⟩ := k1; exact DataW.trod_lt m _ _ _ hm
  obtain ⟨z1, w1⟩ : ∃ zs, IsRow .i64 W a1 len1 cap1 zs := by
    obtain ⟨fuel, hf⟩ := h1
    rcases open_ints Tryd.underlying40 Tryd.underlying3 (by kernel_rfl) hf with ⟨hcs, _⟩ | ⟨x, l, c, zs, hcs, _, hl, hm, hz, _, hcell, hwz⟩
    · simp [Value.cells] at hcs
      obtain ⟨rfl, rfl, rfl⟩ := hcs
      exact ⟨[], .inl ⟨rfl, rfl, rfl, rfl⟩⟩
    · simp [Value.cells] at hcs
      obtain ⟨rfl, rfl, rfl⟩ := hcs
      exact ⟨zs, .inr ⟨_, rfl, hl, hm, by simpa using hz, hcell, hwz⟩⟩
  clear hA0
  refine (walk a0 len0 cap0 z0 a1 len1 cap1 z1 W w0 w1 (tab_of hL)).mono fun e W' ⟨he, bel⟩ => ?_
  subst he
  exact ⟨_, rfl, _, _, _, [], _, [], hW', trodAll_mk1 (shut_bool Tryd.underlying4 _), (trodAll_cons_mk (Below.trod laidOut (by kernel_rfl) (of_decide_eq_true (by kernel_rfl)) k0 bel lt0) (trodAll_cons_mk (Below.trod laidOut (by kernel_rfl) (of_decide_eq_true (by kernel_rfl)) k1 bel lt1) trodAll_mk0)), rfl, bel.frame _, fun h => by cases h⟩


noncomputable def laidWorld (os : Os) : World :=
  { World.holding Tryd.prog os ⟨#[], #[], []⟩ with heap := ((World.holding Tryd.prog os ⟨#[], #[], []⟩).heap.modify 0 (fun o => match o with | .cells _ t frozen => .cells #[.int .u8 0, .int .u8 1, .int .u8 56, .int .u8 2, .int .u8 57, .int .u8 49, .int .u8 28, .int .u8 3, .int .u8 61, .int .u8 58, .int .u8 42, .int .u8 50, .int .u8 38, .int .u8 29, .int .u8 17, .int .u8 4, .int .u8 62, .int .u8 47, .int .u8 59, .int .u8 36, .int .u8 45, .int .u8 43, .int .u8 51, .int .u8 22, .int .u8 53, .int .u8 39, .int .u8 33, .int .u8 30, .int .u8 24, .int .u8 18, .int .u8 12, .int .u8 5, .int .u8 63, .int .u8 55, .int .u8 48, .int .u8 27, .int .u8 60, .int .u8 41, .int .u8 37, .int .u8 16, .int .u8 46, .int .u8 35, .int .u8 44, .int .u8 21, .int .u8 52, .int .u8 32, .int .u8 23, .int .u8 11, .int .u8 54, .int .u8 26, .int .u8 40, .int .u8 15, .int .u8 34, .int .u8 20, .int .u8 31, .int .u8 10, .int .u8 25, .int .u8 14, .int .u8 19, .int .u8 9, .int .u8 13, .int .u8 8, .int .u8 7, .int .u8 6] t frozen | o => o)) }
theorem laid_met (os : Os) : laidMet Tryd.prog Rows.pileLessRow.laid ((laidWorld os).forCall (fun _ _ => 0) ⟨#[], #[.slice none 0 0, .slice none 0 0], []⟩).memory :=
  laidMet_of_run' 8 (by kernel_rfl) (by kernel_rfl)
theorem reads (os : Os) {H : Type} (enc : TypeId × Value → H) : ∃ places, DataW.whole enc Tryd.prog ((laidWorld os).forCall (fun _ _ => 0) ⟨#[], #[.slice none 0 0, .slice none 0 0], []⟩).memory Tryd.f6.params.toList Rows.pileLessSpec.vars false (#[.slice none 0 0, .slice none 0 0] : Array Value).toList 8 = some ([.nil, .nil], [], places) :=
  ⟨[], by kernel_rfl⟩

set_option maxRecDepth 100000 in
theorem lifted (os : Os) (started : os.Started) (H : Type) (enc : TypeId × Value → H) (F : Stop.Interp) :
    ReturnsInHanded {} Tryd.checked os 6 .any ((OpenSpec.ofChange Rows.pileLessSpec).preRow enc Tryd.prog Tryd.f6 Rows.pileLessRow.domain false Rows.pileLessRow.laid) (((OpenSpec.ofChange Rows.pileLessSpec).at F).post enc Tryd.prog Tryd.f6 false true false false) := by
  obtain ⟨places, hx⟩ := reads os enc
  refine returnsInHanded_of_row (C := Tryd.checked) (s := OpenSpec.ofChange Rows.pileLessSpec) own started (by kernel_rfl) Tryd.func6
    (witness_row_at (enc := enc) (C := Tryd.checked) false (laidWorld os) #[.slice none 0 0, .slice none 0 0] rfl (by kernel_rfl) (by kernel_rfl) (by kernel_rfl)
      (OpenSpec.preRow_of_cond 8 hx (by kernel_rfl) (fun k hk => by cases hk) (by kernel_rfl) (laid_met os))) ?_
  intro W base args ds gs before hval hW _ _ _ hL _ _
  exact contract H enc W base args ds gs before hval hW hL

theorem said : Rows.PileLessSaid :=
  OpenClaim.holds_of_cond 6 Tryd.f6 rfl rfl rfl rfl rfl rfl rfl ⟨rfl, rfl, rfl, rfl, rfl⟩ rfl rfl rfl rfl rfl (by kernel_rfl) Tryd.func6 (by kernel_rfl)
    (of_decide_eq_true (by kernel_rfl)) (by unfold Func.isWrapper; first | (rw [if_pos (by decide +kernel)]; kernel_rfl) | (rw [if_neg (by decide +kernel)]; exact ⟨rfl, rfl⟩))
    (fun os started H enc _ F => by rw [OpenClaim.pre_eq_preRow]; exact lifted os started H enc F)

theorem plain (f : FuncId) (fn : Func) (hf : Tryd.pinned.checked.prog.funcNamed "weathervane/weathervanelaw03.PileLess" = some f) (hfn : Tryd.pinned.checked.prog.funcs[f]? = some fn) :
    false = Tryd.pinned.checked.prog.looks [] ∧ ∀ (j : Nat) t, fn.params[j]? = some t → Tryd.pinned.checked.prog.wantsStandIn t = false := by
  obtain rfl : f = 6 := Option.some.inj ((show Tryd.prog.funcNamed "weathervane/weathervanelaw03.PileLess" = some 6 by kernel_rfl).symm.trans hf) |>.symm
  obtain rfl : fn = Tryd.f6 := (Option.some.inj (Tryd.func6.symm.trans hfn)).symm
  refine ⟨by kernel_rfl, fun j t ht => ?_⟩
  rw [Tryd.params6] at ht
  have ht2 : t = 40 := by simpa using Array.mem_of_getElem? ht
  subst ht2
  exact (show Tryd.prog.wantsStandIn 40 = false by kernel_rfl)
end Go.Proofs.YtkkkglmjipnfaaaDoor.pileLess
namespace Go.Proofs.YtkkkglmjipnfaaaDoor
theorem pileLess_holds : Rows.PileLessCardSaid :=
  Claim7.holds_tied_plain_at .later [] _ _ _ _ pileLess.said (fun _ h => by cases h) (by kernel_rfl) (fun _ h => by cases h) pileLess_row_tie rfl ⟨rfl, rfl⟩ (by kernel_rfl) rfl pileLess.plain (by kernel_rfl)
#print axioms pileLess_holds
end Go.Proofs.YtkkkglmjipnfaaaDoor
