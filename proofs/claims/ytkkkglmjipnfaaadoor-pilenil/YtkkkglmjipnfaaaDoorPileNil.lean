/-
  PileNil (tied card): for any slice of ints and any int the law returns true and leaves its argument as it was: a nil set is empty, copies go their own way. Conditions: the library's table math/bits.deBruijn64tab holds what the program's text lays (the card ties it).
-/
import Derived.Test.YtkkkglmjipnfaaaDoorCards
import Derived.Test.YtkkkglmjipnfaaaDoorTie
import Derived.WalkKit
import Derived.Test.YtkkkglmjipnfaaaDoorFam
import Derived.ProofKit
import Derived.OpenShut
import Derived.ShutString
import Derived.ChangeOld
import Derived.Below
import Derived.Deep.DeepHandedRow
import Derived.Lib.LaidTab
import Derived.LaidSub
namespace Go.Proofs.YtkkkglmjipnfaaaDoor.pileNil
open Go.ChangeShapes Go.WideShapes Go.ChangeAt Go.RowKit
open Go.ChangeMaps (open_string shut_string)
set_option linter.unusedVariables false

theorem own : ownKnob Tryd.prog.godebug = none := by kernel_rfl
theorem laidOut : laidOutB Tryd.prog = true := by kernel_rfl
theorem gTab : Tryd.prog.globalNamed "math/bits.deBruijn64tab" = some 0 := by kernel_rfl
theorem gTabType : (Tryd.prog.globals[0]?).map (·.type) = some 74 := by kernel_rfl
theorem tab_of {W : World} (h : laidMetH Tryd.prog Rows.pileNilRow.laid W) : Tab W := fun i hi => by
  have ht : Lib.TabIs Tryd.prog W "math/bits.deBruijn64tab" .u8 (Lib.deBruijn64tab.map (fun x : Nat => (x : Int))) :=
    Lib.tabIs_of_head (rest := []) gTab gTabType Tryd.underlying74 Tryd.underlying5 (by kernel_rfl) (by kernel_rfl) (laidMetH.filter (fun x => x.1 == "math/bits.deBruijn64tab") h)
  have hl : Lib.deBruijn64tab.length = 64 := rfl
  rw [ht.cell gTab i (by rw [List.length_map, hl]; exact hi)]
  have hi2 : i < Lib.deBruijn64tab.length := hi
  simp [List.getD, hi2]
/-- WHAT THE WALK IS TOLD OF A SLICE OF INTEGERS THAT CAME IN: it is nil; or it leads to a row of 'cap' cells, the numbers 'zs' (the first 'len' are its elements, the rest its spare room), each fitting its kind. -/
def IsRow (k : IntKind) (w : World) (a : Option Addr) (len cap : Nat) (zs : List Int) : Prop :=
  (a = none ∧ len = 0 ∧ cap = 0 ∧ zs = []) ∨
  ∃ x, a = some x ∧ len ≤ cap ∧ cap ≤ maxLen ∧ zs.length = cap ∧ (∀ i, i < zs.length → w.cell? (x.add i) = some (.int k (zs.getD i 0))) ∧ ∀ n ∈ zs, (Lit.int k n).wf = true

theorem inl_nil (m : Int) : inl [] m = false := by simp [inl]
theorem set_nil {L : Bks} (hg : Good L) (h : ∀ m, has L m = inl [] m) : L = [] := has_ext hg good_nil fun n => by rw [h, inl_nil]; simp [has, look]
theorem less_nil {L : Bks} (hg : Good L) : lessF [] L = L := has_ext (lessF_good hg) hg fun n => by rw [has_lessF hg]; simp [has, look]
theorem len_zero {L : Bks} (hg : Good L) : (lenF L = 0) ↔ L = [] := by
  constructor
  · intro h
    refine has_ext hg good_nil fun n => ?_
    cases hh : has L n
    · simp [has, look]
    · have hm := (mem_allF hg n).2 hh
      rw [lenF_all hg] at h
      rw [List.eq_nil_of_length_eq_zero h] at hm
      cases hm
  · intro h; subst h; rfl

set_option maxRecDepth 20000 in
set_option maxHeartbeats 4000000 in
theorem walkB (A1 : Option Addr) (c1 : Nat) (l : List Int) (n : Int) (w : World) (hT : Tab w) (h1 : UR .i64 w A1 l) (n1 : A1 = none → l = []) (x1 : ∀ x ∈ l, -9223372036854775808 ≤ x ∧ x ≤ 9223372036854775807) (hl1 : l.length ≤ 20) (xn : -9223372036854775808 ≤ n ∧ n ≤ 9223372036854775807) :
    Calls Tryd.prog 5 #[.slice A1 l.length c1, .int .i64 n] w fun e w' => e = .returned (.bool true) ∧ Below w.heap.size w w' := by
  have HT := Lib.hid hT
  have HU1 := Lib.hid h1
  have HX1 := Lib.hid x1
  have HN1 := Lib.hid n1
  have HXN := Lib.hid xn
  clear hT h1 x1 n1 xn
  have hnf := nearF_lt n
  go_enter Tryd.func5, Tryd.ntmps5
  go_wp2_with fail
  refine (awake_any _ HT.out).mono ?_
  rintro e w1 ⟨rfl, hb1⟩
  have S1 := Lib.hid (St.zero hb1)
  clear hb1
  go_wp2_with fail
  refine (st_of S1.out A1 c1 l (HU1.out.old S1.out.below) (by omega) HN1.out HX1.out).mono ?_
  rintro e w2 ⟨g1, v1, L, rfl, s2, hH0, hL⟩
  clear hH0
  have S2 := Lib.hid s2
  have GL : Hid (Good L) := (s2.set (g1, v1, L) (by simp)).good
  clear s2
  go_wp2_with fail
  refine (st_copy S2.out (f := (g1, v1, L)) (by simp) (by simp only; omega)).mono ?_
  rintro e w3 ⟨g2, v2, rfl, s3⟩
  have S3 := Lib.hid s3
  clear s3
  simp only at S3
  go_wp2_with fail
  refine (near_any n _ HXN.out.1 HXN.out.2).mono ?_
  rintro e w3' ⟨rfl, rfl⟩
  generalize nearF n = k at *
  go_wp2_with fail
  refine (st_has S3.out (f := (g1, v1, L)) (by simp) (by simp only; omega) k (by omega) (by omega)).mono ?_
  rintro e w4 ⟨rfl, s4⟩
  have S4 := Lib.hid s4
  clear s4
  simp only
  go_wp2_with fail
  refine (st_add S4.out (by omega) k (by omega) (by omega)).mono ?_
  rintro e w5 ⟨rfl, v2', L2, s5, hH2, hL2⟩
  have S5 := Lib.hid s5
  have hk2 : has L2 k = true := by rw [hH2]; simp
  clear s5 hH2
  go_wp2_with fail
  refine (st_has S5.out (f := (g1, v1, L)) (by simp) (by simp only; omega) k (by omega) (by omega)).mono ?_
  rintro e w6 ⟨rfl, s6⟩
  have S6 := Lib.hid s6
  clear s6
  simp only
  generalize has L k = hk at *
  have hbb : (hk != hk) = false := by simp
  go_wp2_with fail
  refine (st_has S6.out (f := (g2, v2', L2)) (by simp) (by simp only; omega) k (by omega) (by omega)).mono ?_
  rintro e w7 ⟨rfl, s7⟩
  have S7 := Lib.hid s7
  clear s7
  simp only
  rw [hk2]
  go_wp2_with fail
  refine (st_copy S7.out (f := (g1, v1, L)) (by simp) (by simp only; omega)).mono ?_
  rintro e w8 ⟨g3, v3, rfl, s8⟩
  have S8 := Lib.hid s8
  clear s8
  simp only at S8
  go_wp2_with fail
  refine (st_join_nil S8.out (by omega)).mono ?_
  rintro e w9 ⟨rfl, v3', s9⟩
  have S9 := Lib.hid s9
  clear s9
  go_wp2_with fail
  refine (st_same S9.out (f1 := (g3, v3', L)) (f2 := (g1, v1, L)) (by simp) (by simp) (by simp only; omega) (by simp only; omega)).mono ?_
  rintro e w10 ⟨rfl, s10⟩
  have S10 := Lib.hid s10
  clear s10
  simp only [decide_true]
  go_wp2_with fail
  obtain ⟨Ar, cr, _, hr10, _, _⟩ := S10.out.rd (f := (g1, v1, L)) (by simp) (by simp only; omega)
  refine (less_any _ _ _ _ _ _ _ _ _ hr10 (Rd.nil w10) (by simp only; omega) (by simp) Room.nil).mono ?_
  rintro e w11 ⟨g4, v4, rfl, hs11, hb11⟩
  simp only [less_nil GL.out] at hs11
  have S11 := Lib.hid (S10.out.more hb11 hs11)
  clear hs11 hb11 hr10
  go_wp2_with fail
  refine (st_same S11.out (f1 := (g4, v4, L)) (f2 := (g1, v1, L)) (by simp) (by simp) (by simp only; omega) (by simp only; omega)).mono ?_
  rintro e w12 ⟨rfl, s12⟩
  have S12 := Lib.hid s12
  clear s12
  simp only [decide_true]
  go_wp2_with fail
  refine (add_neg _ _ _ (.inl rfl) (.inl rfl)).mono ?_
  rintro e w12' ⟨rfl, rfl⟩
  go_wp2_with fail
  refine (has_any _ _ _ _ _ _ (Rd.nil w12) HXN.out.1 HXN.out.2).mono ?_
  rintro e w13 ⟨rfl, hb13⟩
  have S13 := Lib.hid (S12.out.old hb13)
  clear hb13
  rw [show has [] n = false from by simp [has, look]]
  go_wp2_with fail
  refine (join_nil _ _).mono ?_
  rintro e w13' ⟨rfl, rfl⟩
  go_wp2_with fail
  refine (all_any _ _ _ _ _ (Rd.nil w13) (by simp) (HT.out.old S13.out.below)).mono ?_
  rintro e w14 hp
  obtain ⟨A3, c3, rfl, _, _, hb14⟩ := hp.rd
  have S14 := Lib.hid (S13.out.old hb14)
  clear hp hb14
  rw [show (allF []).length = 0 from rfl]
  go_wp2_with fail
  refine (len_any _ _ _ _ _ (Rd.nil w14) (by simp)).mono ?_
  rintro e w15 ⟨rfl, hb15⟩
  have S15 := Lib.hid (S14.out.old hb15)
  clear hb15
  rw [show lenF [] = 0 from rfl]
  go_wp2_with fail
  obtain ⟨Ar, cr, _, hr15, hrm15, _⟩ := S15.out.rd (f := (g1, v1, L)) (by simp) (by simp only; omega)
  refine (less_any _ _ _ _ _ _ _ _ _ (Rd.nil w15) hr15 (by simp) (by simp only; omega) hrm15).mono ?_
  rintro e w16 ⟨g5, v5, rfl, hs16, hb16⟩
  simp only [show lessF L [] = [] from rfl] at hs16
  have S16 := Lib.hid (S15.out.more hb16 hs16)
  clear hs16 hb16 hr15 hrm15
  go_wp2_with fail
  refine (st_len S16.out (f := (g5, v5, [])) (by simp) (by simp)).mono ?_
  rintro e w17 ⟨rfl, s17⟩
  have S17 := Lib.hid s17
  clear s17
  simp only
  rw [show lenF [] = 0 from rfl]
  go_wp2_with fail
  refine (copy_any _ _ _ _ _ (Rd.nil w17) (fun _ => rfl)).mono ?_
  rintro e w18 ⟨g6, v6, rfl, hs18, hb18⟩
  have S18 := Lib.hid (S17.out.more hb18 hs18)
  clear hs18 hb18
  go_wp2_with fail
  refine (st_len S18.out (f := (g6, v6, [])) (by simp) (by simp)).mono ?_
  rintro e w19 ⟨rfl, s19⟩
  have S19 := Lib.hid s19
  clear s19
  simp only
  rw [show lenF [] = 0 from rfl]
  go_wp2_with fail
  refine (key_any _ _ _ _ _ (Rd.nil w19) (by simp)).mono ?_
  rintro e w20 ⟨rfl, hb20⟩
  have S20 := Lib.hid (S19.out.old hb20)
  clear hb20
  go_wp2_with fail
  refine (st_of S20.out none 0 [] (fun h => by simp at h) (by simp) (fun _ => rfl) (by simp)).mono ?_
  rintro e w21 ⟨g7, v7, L7, rfl, s21, hH7, hL7⟩
  obtain rfl := set_nil (s21.set (g7, v7, L7) (by simp)).good hH7
  have S21 := Lib.hid s21
  clear s21 hH7 hL7
  go_wp2_with fail
  refine (st_key S21.out (f := (g7, v7, [])) (by simp) (by simp)).mono ?_
  rintro e w22 ⟨rfl, s22⟩
  have S22 := Lib.hid s22
  clear s22
  simp only
  generalize str (kF []) = sk at *
  have hsk : (sk.toList == sk.toList) = true := by simp
  go_wp2_with fail
  refine (st_of S22.out none 0 [] (fun h => by simp at h) (by simp) (fun _ => rfl) (by simp)).mono ?_
  rintro e w23 ⟨g8, v8, L8, rfl, s23, hH8, hL8⟩
  obtain rfl := set_nil (s23.set (g8, v8, L8) (by simp)).good hH8
  have S23 := Lib.hid s23
  clear s23 hH8 hL8
  go_wp2_with fail
  obtain ⟨Ar, cr, _, hr23, _, _⟩ := S23.out.rd (f := (g8, v8, [])) (by simp) (by simp)
  refine (same_any _ _ _ _ _ _ _ _ _ (Rd.nil w23) hr23).mono ?_
  rintro e w24 ⟨rfl, hb24⟩
  have S24 := Lib.hid (S23.out.old hb24)
  clear hb24 hr23
  simp only [decide_true]
  go_wp2_with fail
  obtain ⟨Ar, cr, _, hr24, _, _⟩ := S24.out.rd (f := (g1, v1, L)) (by simp) (by simp only; omega)
  refine (same_any _ _ _ _ _ _ _ _ _ (Rd.nil w24) hr24).mono ?_
  rintro e w25 ⟨rfl, hb25⟩
  have S25 := Lib.hid (S24.out.old hb25)
  clear hb25 hr24
  show _
  generalize hdd : decide (([] : Bks) = ((g1, v1, L) : SetV).2.2) = dd
  have HDD : Hid (decide (([] : Bks) = L) = dd) := hdd
  clear hdd
  go_wp2_with fail
  refine (st_len S25.out (f := (g1, v1, L)) (by simp) (by simp only; omega)).mono ?_
  rintro e w26 ⟨rfl, s26⟩
  have S26 := Lib.hid s26
  clear s26
  simp only
  have hz := len_zero GL.out
  have hlb := lenF_le L
  by_cases h0 : L = []
  · have e0 : lenF L = 0 := hz.2 h0
    have e1 : decide (([] : Bks) = L) = true := by rw [h0]; simp
    rw [HDD.out] at e1
    subst e1
    rw [e0]
    clear e0 h0 hz hlb
    go_wp2
    go_ret
    exact ⟨rfl, S26.out.below⟩
  · have e0 : lenF L ≠ 0 := fun h => h0 (hz.1 h)
    have e1 : decide (([] : Bks) = L) = false := by rw [decide_eq_false_iff_not]; exact fun h => h0 h.symm
    rw [HDD.out] at e1
    subst e1
    generalize lenF L = nl at *
    have e2 : ((nl : Int) == 0) = false := by simp; omega
    clear h0 hz
    go_wp2
    go_ret
    exact ⟨by simp; try omega, S26.out.below⟩

set_option maxHeartbeats 1000000 in
theorem walk (a0 : Option Addr) (len0 cap0 : Nat) (z0 : List Int) (a1 : Int) (w : World) (w0 : IsRow .i64 w a0 len0 cap0 z0) (w1 : (Lit.int .i64 a1).wf = true) (hT : Tab w) :
    Calls Tryd.prog 5 #[.slice a0 len0 cap0, .int .i64 a1] w fun e w' => e = .returned (.bool true) ∧ Below w.heap.size w w' := by
  obtain ⟨l, rfl, u1, x1, m1, n1⟩ := ur_of_row w0
  by_cases hl : l.length ≤ 20
  · exact walkB a0 cap0 l a1 w hT u1 n1 (fun x hx => i64_of_wf (x1 x hx)) hl (i64_of_wf w1)
  · have HT := Lib.hid hT
    clear w0 w1 u1 x1 hT n1
    obtain ⟨n1, hn1⟩ : ∃ n, n = l.length := ⟨_, rfl⟩
    rw [← hn1] at hl m1 ⊢
    clear hn1
    have h2 : 20 < n1 := by omega
    go_enter Tryd.func5, Tryd.ntmps5
    go_wp2_with fail
    refine (awake_any _ HT.out).mono ?_
    rintro e w1 ⟨rfl, hb1⟩
    have HB1 := Lib.hid hb1
    have HT1 := Lib.hid (HT.out.old hb1)
    clear hb1 HT
    go_wp2_with fail
    refine (awake_any _ HT1.out).mono ?_
    rintro e w2 ⟨rfl, hb2⟩
    have HB2 := Lib.hid (HB1.out.trans (hb2.mono HB1.out.size))
    clear hb2
    go_wp2
    go_ret
    exact ⟨rfl, HB2.out⟩

theorem contract (H : Type) (enc : TypeId × Value → H) (W : World) (base : Nat) (args : Array Value) (ds gs : List (DataW H)) (before : List MemPlace)
    (hval : ∀ (j : Nat) t v, Tryd.f5.params[j]? = some t → args[j]? = some v → Value.okWide Tryd.prog W .any base t v)
    (hW : DataW.Whole enc Tryd.prog Tryd.f5.params.toList Rows.pileNilSpec.vars false W args.toList ds gs before) (hL : laidMetH Tryd.prog Rows.pileNilRow.laid W) :
    Calls Tryd.prog 5 args W fun e W' => ∃ v, e = .returned v ∧ Rows.pileNilSpec.post enc Tryd.prog Tryd.f5 false true false false W args v W' := by
  have hW' := hW
  obtain ⟨p, q, hA0, hV, rfl, hfz, hnd⟩ := hW
  have hA : DataW.TrodAll enc Tryd.prog W 0 (fun _ => true) true Tryd.f5.params.toList args.toList ds p := hA0
  rw [Tryd.params5] at hA hval
  obtain ⟨v0, vs0, d0, ds0, p0, q0, hargs, rfl, rfl, h0, r0⟩ := trodAll_cons hA
  obtain ⟨v1, vs1, d1, ds1, p1, q1, rfl, rfl, rfl, h1, r1⟩ := trodAll_cons r0
  obtain ⟨rfl, rfl, rfl⟩ := trodAll_nil r1
  obtain rfl : args = #[v0, v1] := by cases args; simp_all
  obtain ⟨rfl, rfl⟩ := trodVars_none hV
  obtain ⟨a0, len0, cap0, rfl⟩ := okWide_slice Tryd.underlying40 (hval 0 40 v0 rfl rfl)
  have k0 := h0
  have lt0 : ∀ x ∈ p0, x.block < W.heap.size := by obtain ⟨m, hm⟩ := k0; exact DataW.trod_lt m _ _ _ hm
  obtain ⟨z0, w0⟩ : ∃ zs, IsRow .i64 W a0 len0 cap0 zs := by
    obtain ⟨fuel, hf⟩ := h0
    rcases open_ints Tryd.underlying40 Tryd.underlying3 (by kernel_rfl) hf with ⟨hcs, _⟩ | ⟨x, l, c, zs, hcs, _, hl, hm, hz, _, hcell, hwz⟩
    · simp [Value.cells] at hcs
      obtain ⟨rfl, rfl, rfl⟩ := hcs
      exact ⟨[], .inl ⟨rfl, rfl, rfl, rfl⟩⟩
    · simp [Value.cells] at hcs
      obtain ⟨rfl, rfl, rfl⟩ := hcs
      exact ⟨zs, .inr ⟨_, rfl, hl, hm, by simpa using hz, hcell, hwz⟩⟩
  obtain ⟨a1, rfl, rfl, rfl, w1⟩ := open_int Tryd.underlying3 (hval 1 3 v1 rfl rfl) h1
  clear hA0
  refine (walk a0 len0 cap0 z0 a1 W w0 w1 (tab_of hL)).mono fun e W' ⟨he, bel⟩ => ?_
  subst he
  exact ⟨_, rfl, _, _, _, [], _, [], hW', trodAll_mk1 (shut_bool Tryd.underlying4 _), (trodAll_cons_mk (Below.trod laidOut (by kernel_rfl) (of_decide_eq_true (by kernel_rfl)) k0 bel lt0) (trodAll_cons_mk (shut_int Tryd.underlying3 w1) trodAll_mk0)), rfl, bel.frame _, fun h => by cases h⟩


noncomputable def laidWorld (os : Os) : World :=
  { World.holding Tryd.prog os ⟨#[], #[], []⟩ with heap := ((World.holding Tryd.prog os ⟨#[], #[], []⟩).heap.modify 0 (fun o => match o with | .cells _ t frozen => .cells #[.int .u8 0, .int .u8 1, .int .u8 56, .int .u8 2, .int .u8 57, .int .u8 49, .int .u8 28, .int .u8 3, .int .u8 61, .int .u8 58, .int .u8 42, .int .u8 50, .int .u8 38, .int .u8 29, .int .u8 17, .int .u8 4, .int .u8 62, .int .u8 47, .int .u8 59, .int .u8 36, .int .u8 45, .int .u8 43, .int .u8 51, .int .u8 22, .int .u8 53, .int .u8 39, .int .u8 33, .int .u8 30, .int .u8 24, .int .u8 18, .int .u8 12, .int .u8 5, .int .u8 63, .int .u8 55, .int .u8 48, .int .u8 27, .int .u8 60, .int .u8 41, .int .u8 37, .int .u8 16, .int .u8 46, .int .u8 35, .int .u8 44, .int .u8 21, .int .u8 52, .int .u8 32, .int .u8 23, .int .u8 11, .int .u8 54, .int .u8 26, .int .u8 40, .int .u8 15, .int .u8 34, .int .u8 20, .int .u8 31, .int .u8 10, .int .u8 25, .int .u8 14, .int .u8 19, .int .u8 9, .int .u8 13, .int .u8 8, .int .u8 7, .int .u8 6] t frozen | o => o)) }
theorem laid_met (os : Os) : laidMet Tryd.prog Rows.pileNilRow.laid ((laidWorld os).forCall (fun _ _ => 0) ⟨#[], #[.slice none 0 0, .int .i64 0], []⟩).memory :=
  laidMet_of_run' 8 (by kernel_rfl) (by kernel_rfl)
theorem reads (os : Os) {H : Type} (enc : TypeId × Value → H) : ∃ places, DataW.whole enc Tryd.prog ((laidWorld os).forCall (fun _ _ => 0) ⟨#[], #[.slice none 0 0, .int .i64 0], []⟩).memory Tryd.f5.params.toList Rows.pileNilSpec.vars false (#[.slice none 0 0, .int .i64 0] : Array Value).toList 8 = some ([.nil, .lit (.int .i64 0)], [], places) :=
  ⟨[], by kernel_rfl⟩

set_option maxRecDepth 100000 in
theorem lifted (os : Os) (started : os.Started) (H : Type) (enc : TypeId × Value → H) (F : Stop.Interp) :
    ReturnsInHanded {} Tryd.checked os 5 .any ((OpenSpec.ofChange Rows.pileNilSpec).preRow enc Tryd.prog Tryd.f5 Rows.pileNilRow.domain false Rows.pileNilRow.laid) (((OpenSpec.ofChange Rows.pileNilSpec).at F).post enc Tryd.prog Tryd.f5 false true false false) := by
  obtain ⟨places, hx⟩ := reads os enc
  refine returnsInHanded_of_row (C := Tryd.checked) (s := OpenSpec.ofChange Rows.pileNilSpec) own started (by kernel_rfl) Tryd.func5
    (witness_row_at (enc := enc) (C := Tryd.checked) false (laidWorld os) #[.slice none 0 0, .int .i64 0] rfl (by kernel_rfl) (by kernel_rfl) (by kernel_rfl)
      (OpenSpec.preRow_of_cond 8 hx (by kernel_rfl) (fun k hk => by cases hk) (by kernel_rfl) (laid_met os))) ?_
  intro W base args ds gs before hval hW _ _ _ hL _ _
  exact contract H enc W base args ds gs before hval hW hL

theorem said : Rows.PileNilSaid :=
  OpenClaim.holds_of_cond 5 Tryd.f5 rfl rfl rfl rfl rfl rfl rfl ⟨rfl, rfl, rfl, rfl, rfl⟩ rfl rfl rfl rfl rfl (by kernel_rfl) Tryd.func5 (by kernel_rfl)
    (of_decide_eq_true (by kernel_rfl)) (by unfold Func.isWrapper; first | (rw [if_pos (by decide +kernel)]; kernel_rfl) | (rw [if_neg (by decide +kernel)]; exact ⟨rfl, rfl⟩))
    (fun os started H enc _ F => by rw [OpenClaim.pre_eq_preRow]; exact lifted os started H enc F)

theorem plain (f : FuncId) (fn : Func) (hf : Tryd.pinned.checked.prog.funcNamed "weathervane/weathervanelaw03.PileNil" = some f) (hfn : Tryd.pinned.checked.prog.funcs[f]? = some fn) :
    false = Tryd.pinned.checked.prog.looks [] ∧ ∀ (j : Nat) t, fn.params[j]? = some t → Tryd.pinned.checked.prog.wantsStandIn t = false := by
  obtain rfl : f = 5 := Option.some.inj ((show Tryd.prog.funcNamed "weathervane/weathervanelaw03.PileNil" = some 5 by kernel_rfl).symm.trans hf) |>.symm
  obtain rfl : fn = Tryd.f5 := (Option.some.inj (Tryd.func5.symm.trans hfn)).symm
  refine ⟨by kernel_rfl, fun j t ht => ?_⟩
  rw [Tryd.params5] at ht
  have ht2 : t = 40 ∨ t = 3 := by simpa using Array.mem_of_getElem? ht
  rcases ht2 with rfl | rfl
  · exact (show Tryd.prog.wantsStandIn 40 = false by kernel_rfl)
  · exact (show Tryd.prog.wantsStandIn 3 = false by kernel_rfl)
end Go.Proofs.YtkkkglmjipnfaaaDoor.pileNil
namespace Go.Proofs.YtkkkglmjipnfaaaDoor
theorem pileNil_holds : Rows.PileNilCardSaid :=
  Claim7.holds_tied_plain_at .later [] _ _ _ _ pileNil.said (fun _ h => by cases h) (by kernel_rfl) (fun _ h => by cases h) pileNil_row_tie rfl ⟨rfl, rfl⟩ (by kernel_rfl) rfl pileNil.plain (by kernel_rfl)
#print axioms pileNil_holds
end Go.Proofs.YtkkkglmjipnfaaaDoor
