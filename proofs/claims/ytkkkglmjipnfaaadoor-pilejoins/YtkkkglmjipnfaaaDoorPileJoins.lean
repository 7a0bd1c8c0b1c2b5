/-
  PileJoins (tied card): for any two slices of ints the law returns true and leaves its arguments as they were: whichever takes the other one, both come to the same. Conditions: the library's table math/bits.deBruijn64tab holds what the program's text lays (the card ties it).
-/
import Derived.Test.YtkkkglmjipnfaaaDoorCards
import Derived.Test.YtkkkglmjipnfaaaDoorTie
import Derived.WalkKit
import Derived.Test.YtkkkglmjipnfaaaDoorFam
import Derived.ProofKit
import Derived.OpenShut
import Derived.ShutString
import Derived.ChangeOld
import Derived.Below
import Derived.Deep.DeepHandedRow
import Derived.Lib.LaidTab
import Derived.LaidSub
namespace Go.Proofs.YtkkkglmjipnfaaaDoor.pileJoins
open Go.ChangeShapes Go.WideShapes Go.ChangeAt Go.RowKit
open Go.ChangeMaps (open_string shut_string)
set_option linter.unusedVariables false

theorem own : ownKnob Tryd.prog.godebug = none := by kernel_rfl
theorem laidOut : laidOutB Tryd.prog = true := by kernel_rfl
theorem gTab : Tryd.prog.globalNamed "math/bits.deBruijn64tab" = some 0 := by kernel_rfl
theorem gTabType : (Tryd.prog.globals[0]?).map (·.type) = some 74 := by kernel_rfl
theorem tab_of {W : World} (h : laidMetH Tryd.prog Rows.pileJoinsRow.laid W) : Tab W := fun i hi => by
  have ht : Lib.TabIs Tryd.prog W "math/bits.deBruijn64tab" .u8 (Lib.deBruijn64tab.map (fun x : Nat => (x : Int))) :=
    Lib.tabIs_of_head (rest := []) gTab gTabType Tryd.underlying74 Tryd.underlying5 (by kernel_rfl) (by kernel_rfl) (laidMetH.filter (fun x => x.1 == "math/bits.deBruijn64tab") h)
  have hl : Lib.deBruijn64tab.length = 64 := rfl
  rw [ht.cell gTab i (by rw [List.length_map, hl]; exact hi)]
  have hi2 : i < Lib.deBruijn64tab.length := hi
  simp [List.getD, hi2]
/-- WHAT THE WALK IS TOLD OF A SLICE OF INTEGERS THAT CAME IN: it is nil; or it leads to a row of 'cap' cells, the numbers 'zs' (the first 'len' are its elements, the rest its spare room), each fitting its kind. -/
def IsRow (k : IntKind) (w : World) (a : Option Addr) (len cap : Nat) (zs : List Int) : Prop :=
  (a = none ∧ len = 0 ∧ cap = 0 ∧ zs = []) ∨
  ∃ x, a = some x ∧ len ≤ cap ∧ cap ≤ maxLen ∧ zs.length = cap ∧ (∀ i, i < zs.length → w.cell? (x.add i) = some (.int k (zs.getD i 0))) ∧ ∀ n ∈ zs, (Lit.int k n).wf = true

theorem lack_self {L T : Bks} (hL : Good L) (hT : Good T) : lackF (joinF L T) L = false ∧ lackF (joinF L T) T = false := by
  constructor
  · cases h : lackF (joinF L T) L
    · rfl
    · obtain ⟨n, h1, h2⟩ := (lackF_iff hL).1 h
      rw [has_joinF hL hT, h1] at h2; cases h2
  · cases h : lackF (joinF L T) T
    · rfl
    · obtain ⟨n, h1, h2⟩ := (lackF_iff hT).1 h
      rw [has_joinF hL hT, h1] at h2; simp at h2
theorem join_comm {L T : Bks} (hL : Good L) (hT : Good T) : joinF L T = joinF T L :=
  has_ext (joinF_good hL hT) (joinF_good hT hL) fun n => by rw [has_joinF hL hT, has_joinF hT hL, Bool.or_comm]
theorem lack_ne {L T : Bks} (hL : Good L) (hT : Good T) : lackF L T = !decide (joinF L T = L) := by
  cases h : lackF L T
  · rw [lackF_not hL hT h]; simp
  · obtain ⟨n, h1, h2⟩ := (lackF_iff hT).1 h
    rw [decide_eq_false]; · rfl
    intro e
    have := has_joinF hL hT n
    rw [e, h2, h1] at this; cases this
theorem len_less {L T : Bks} (hL : Good L) (hT : Good T) : lenF (joinF L T) = lenF L + lenF (lessF L T) :=
  lenF_split (joinF_good hL hT) hL (lessF_good hT) (fun m => by rw [has_joinF hL hT, has_lessF hT]; cases has L m <;> cases has T m <;> rfl) (fun m h => by rw [has_lessF hT, h]; simp)

set_option maxRecDepth 20000 in
set_option maxHeartbeats 4000000 in
theorem walkB (A1 A2 : Option Addr) (c1 c2 : Nat) (l k2 : List Int) (w : World) (hT : Tab w) (h1 : UR .i64 w A1 l) (h2 : UR .i64 w A2 k2) (n1 : A1 = none → l = []) (n2 : A2 = none → k2 = []) (x1 : ∀ x ∈ l, -9223372036854775808 ≤ x ∧ x ≤ 9223372036854775807) (x2 : ∀ x ∈ k2, -9223372036854775808 ≤ x ∧ x ≤ 9223372036854775807) (hl1 : l.length ≤ 20) (hl2 : k2.length ≤ 20) :
    Calls Tryd.prog 8 #[.slice A1 l.length c1, .slice A2 k2.length c2] w fun e w' => e = .returned (.bool true) ∧ Below w.heap.size w w' := by
  have HT := Lib.hid hT
  have HU1 := Lib.hid h1
  have HU2 := Lib.hid h2
  have HX1 := Lib.hid x1
  have HX2 := Lib.hid x2
  have HN1 := Lib.hid n1
  have HN2 := Lib.hid n2
  clear hT h1 h2 x1 x2 n1 n2
  go_enter Tryd.func8, Tryd.ntmps8
  go_wp2_with fail
  refine (awake_any _ HT.out).mono ?_
  rintro e w1 ⟨rfl, hb1⟩
  have S1 := Lib.hid (St.zero hb1)
  clear hb1
  go_wp2_with fail
  refine (st_of S1.out A1 c1 l (HU1.out.old S1.out.below) (by omega) HN1.out HX1.out).mono ?_
  rintro e w2 ⟨g1, v1, L, rfl, s2, _, hL⟩
  have S2 := Lib.hid s2
  clear s2
  go_wp2_with fail
  refine (st_of S2.out A2 c2 k2 (HU2.out.old S2.out.below) (by omega) HN2.out HX2.out).mono ?_
  rintro e w3 ⟨g2, v2, T, rfl, s3, _, hTl⟩
  have S3 := Lib.hid s3
  have GL : Hid (Good L) := (s3.set (g1, v1, L) (by simp)).good
  have GT : Hid (Good T) := (s3.set (g2, v2, T) (by simp)).good
  have hjl := joinF_len L T
  have hjl2 := joinF_len T L
  have hll := lessF_len L T
  clear s3 S1 S2
  go_wp2_with fail
  refine (st_copy S3.out (f := (g1, v1, L)) (by simp) (by simp only; omega)).mono ?_
  rintro e w4 ⟨g3, v3, rfl, s4⟩
  have S4 := Lib.hid s4
  clear s4
  go_wp2_with fail
  refine (st_copy S4.out (f := (g2, v2, T)) (by simp) (by simp only; omega)).mono ?_
  rintro e w5 ⟨g4, v4, rfl, s5⟩
  have S5 := Lib.hid s5.swap
  clear s5
  simp only at S4 S5
  go_wp2_with fail
  refine (st_join S5.out (f := (g2, v2, T)) (by simp) (by omega) (by simp only; omega)).mono ?_
  rintro e w6 ⟨rfl, v3', s6⟩
  have S6 := Lib.hid s6.swap
  clear s6
  simp only at S6
  go_wp2_with fail
  refine (st_join S6.out (f := (g1, v1, L)) (by simp) (by omega) (by simp only; omega)).mono ?_
  rintro e w7 ⟨rfl, v4', s7⟩
  have S7 := Lib.hid s7
  clear s7
  simp only at S7
  rw [← join_comm GL.out GT.out] at S7
  have e1 : decide (joinF L T = joinF L T) = true := by simp
  have e2 := lack_ne GL.out GT.out
  have e3 := (lack_self GL.out GT.out).1
  have e4 := (lack_self GL.out GT.out).2
  have e5 := lackF_not (joinF_good GL.out GT.out) GL.out e3
  have e6 := lackF_not (joinF_good GL.out GT.out) GT.out e4
  have e7 := len_less GL.out GT.out
  have b1 := lenF_le (joinF L T)
  generalize joinF L T = X at *
  generalize lackF L T = lk at *
  go_wp2_with fail
  refine (st_same S7.out (f1 := (g3, v3', X)) (f2 := (g4, v4', X)) (by simp) (by simp) (by simp only; omega) (by simp only; omega)).mono ?_
  rintro e w8 ⟨rfl, s8⟩
  have S8 := Lib.hid s8
  clear s8
  simp only
  go_wp2_with fail
  refine (st_same S8.out (f1 := (g3, v3', X)) (f2 := (g1, v1, L)) (by simp) (by simp) (by simp only; omega) (by simp only; omega)).mono ?_
  rintro e w9 ⟨rfl, s9⟩
  have S9 := Lib.hid s9.swap
  clear s9
  simp only
  have eb : (lk == !decide (X = L)) = true := by rw [e2]; simp
  clear e2
  generalize decide (X = L) = dd at *
  have eb2 : lk = !dd := by simpa using eb
  subst eb2
  go_wp2_with fail
  refine (st_join S9.out (f := (g1, v1, L)) (by simp) (by omega) (by simp only; omega)).mono ?_
  rintro e w10 ⟨rfl, v3b, s10⟩
  simp only at s10
  rw [e5] at s10
  have S10 := Lib.hid s10
  clear s10
  simp only
  rw [e3]
  go_wp2_with fail
  refine (st_join S10.out (f := (g2, v2, T)) (by simp) (by omega) (by simp only; omega)).mono ?_
  rintro e w11 ⟨rfl, v3c, s11⟩
  simp only at s11
  rw [e6] at s11
  have S11 := Lib.hid s11
  clear s11
  simp only
  rw [e4]
  go_wp2_with fail
  refine (st_less S11.out (f1 := (g2, v2, T)) (f2 := (g1, v1, L)) (by simp) (by simp) (by simp only; omega) (by simp only; omega)).mono ?_
  rintro e w12 ⟨g5, v5, rfl, s12⟩
  have S12 := Lib.hid s12
  clear s12
  simp only at S12
  go_wp2_with fail
  refine (st_len S12.out (f := (g5, v5, lessF L T)) (by simp) (by simp only; omega)).mono ?_
  rintro e w13 ⟨rfl, s13⟩
  have S13 := Lib.hid s13
  clear s13
  go_wp2_with fail
  refine (st_len S13.out (f := (g3, v3c, X)) (by simp) (by simp only; omega)).mono ?_
  rintro e w14 ⟨rfl, s14⟩
  have S14 := Lib.hid s14
  clear s14
  go_wp2_with fail
  refine (st_len S14.out (f := (g1, v1, L)) (by simp) (by simp only; omega)).mono ?_
  rintro e w15 ⟨rfl, s15⟩
  have S15 := Lib.hid s15
  clear s15
  simp only
  generalize lenF X = nx at *
  generalize lenF L = nl at *
  generalize lenF (lessF L T) = nt at *
  clear e3 e4 e5 e6
  go_wp2
  go_ret
  exact ⟨by simp; omega, S15.out.below⟩

set_option maxHeartbeats 1000000 in
theorem walk (a0 : Option Addr) (len0 cap0 : Nat) (z0 : List Int) (a1 : Option Addr) (len1 cap1 : Nat) (z1 : List Int) (w : World) (w0 : IsRow .i64 w a0 len0 cap0 z0) (w1 : IsRow .i64 w a1 len1 cap1 z1) (hT : Tab w) :
    Calls Tryd.prog 8 #[.slice a0 len0 cap0, .slice a1 len1 cap1] w fun e w' => e = .returned (.bool true) ∧ Below w.heap.size w w' := by
  obtain ⟨l, rfl, u1, x1, m1, n1⟩ := ur_of_row w0
  obtain ⟨k2, rfl, u2, x2, m2, n2⟩ := ur_of_row w1
  by_cases hl : l.length ≤ 20 ∧ k2.length ≤ 20
  · exact walkB a0 a1 cap0 cap1 l k2 w hT u1 u2 n1 n2 (fun x hx => i64_of_wf (x1 x hx)) (fun x hx => i64_of_wf (x2 x hx)) hl.1 hl.2
  · have HT := Lib.hid hT
    clear w0 w1 u1 u2 x1 x2 hT n1 n2
    obtain ⟨n1, hn1⟩ : ∃ n, n = l.length := ⟨_, rfl⟩
    obtain ⟨n2, hn2⟩ : ∃ n, n = k2.length := ⟨_, rfl⟩
    rw [← hn1] at hl m1 ⊢
    rw [← hn2] at hl m2 ⊢
    clear hn1 hn2
    by_cases h1 : n1 ≤ 20
    · have h2 : 20 < n2 := by omega
      go_enter Tryd.func8, Tryd.ntmps8
      go_wp2_with fail
      refine (awake_any _ HT.out).mono ?_
      rintro e w1 ⟨rfl, hb1⟩
      have HB1 := Lib.hid hb1
      have HT1 := Lib.hid (HT.out.old hb1)
      clear hb1 HT
      go_wp2_with fail
      refine (awake_any _ HT1.out).mono ?_
      rintro e w2 ⟨rfl, hb2⟩
      have HB2 := Lib.hid (HB1.out.trans (hb2.mono HB1.out.size))
      clear hb2
      go_wp2
      go_ret
      exact ⟨rfl, HB2.out⟩
    · have h2 : 20 < n1 := by omega
      go_enter Tryd.func8, Tryd.ntmps8
      go_wp2_with fail
      refine (awake_any _ HT.out).mono ?_
      rintro e w1 ⟨rfl, hb1⟩
      have HB1 := Lib.hid hb1
      have HT1 := Lib.hid (HT.out.old hb1)
      clear hb1 HT
      go_wp2_with fail
      refine (awake_any _ HT1.out).mono ?_
      rintro e w2 ⟨rfl, hb2⟩
      have HB2 := Lib.hid (HB1.out.trans (hb2.mono HB1.out.size))
      clear hb2
      go_wp2
      go_ret
      exact ⟨rfl, HB2.out⟩

theorem contract (H : Type) (enc : TypeId × Value → H) (W : World) (base : Nat) (args : Array Value) (ds gs : List (DataW H)) (before : List MemPlace)
    (hval : ∀ (j : Nat) t v, Tryd.f8.params[j]? = some t → args[j]? = some v → Value.okWide Tryd.prog W .any base t v)
    (hW : DataW.Whole enc Tryd.prog Tryd.f8.params.toList Rows.pileJoinsSpec.vars false W args.toList ds gs before) (hL : laidMetH Tryd.prog Rows.pileJoinsRow.laid W) :
    Calls Tryd.prog 8 args W fun e W' => ∃ v, e = .returned v ∧ Rows.pileJoinsSpec.post enc Tryd.prog Tryd.f8 false true false false W args v W' := by
  have hW' := hW
  obtain ⟨p, q, hA0, hV, rfl, hfz, hnd⟩ := hW
  have hA : DataW.TrodAll enc Tryd.prog W 0 (fun _ => true) true Tryd.f8.params.toList args.toList ds p := hA0
  rw [Tryd.params8] at hA hval
  obtain ⟨v0, vs0, d0, ds0, p0, q0, hargs, rfl, rfl, h0, r0⟩ := trodAll_cons hA
  obtain ⟨v1, vs1, d1, ds1, p1, q1, rfl, rfl, rfl, h1, r1⟩ := trodAll_cons r0
  obtain ⟨rfl, rfl, rfl⟩ := trodAll_nil r1
  obtain rfl : args = #[v0, v1] := by cases args; simp_all
  obtain ⟨rfl, rfl⟩ := trodVars_none hV
  obtain ⟨a0, len0, cap0, rfl⟩ := okWide_slice Tryd.underlying40 (hval 0 40 v0 rfl rfl)
  have k0 := h0
  have lt0 : ∀ x ∈ p0, x.block < W.heap.size := by obtain ⟨m, hm⟩ := k0; exact DataW.trod_lt m _ _ _ hm
  obtain ⟨z0, w0⟩ : ∃ zs, IsRow .i64 W a0 len0 cap0 zs := by
    obtain ⟨fuel, hf⟩ := h0
    rcases open_ints Tryd.underlying40 Tryd.underlying3 (by kernel_rfl) hf with ⟨hcs, _⟩ | ⟨x, l, c, zs, hcs, _, hl, hm, hz, _, hcell, hwz⟩
    · simp [Value.cells] at hcs
      obtain ⟨rfl, rfl, rfl⟩ := hcs
      exact ⟨[], .inl ⟨rfl, rfl, rfl, rfl⟩⟩
    · simp [Value.cells] at hcs
      obtain ⟨rfl, rfl, rfl⟩ := hcs
      exact ⟨zs, .inr ⟨_, rfl, hl, hm, by simpa using hz, hcell, hwz⟩⟩
  obtain ⟨a1, len1, cap1, rfl⟩ := okWide_slice Tryd.underlying40 (hval 1 40 v1 rfl rfl)
  have k1 := h1
  have lt1 : ∀ x ∈ p1, x.block < W.heap.size := by obtain ⟨m, hm⟩ := k1; exact DataW.trod_lt m _ _ _ hm
  obtain ⟨z1, w1⟩ : ∃ zs, IsRow .i64 W a1 len1 cap1 zs := by
    obtain ⟨fuel, hf⟩ := h1
    rcases open_ints Tryd.underlying40 Tryd.underlying3 (by kernel_rfl) hf with ⟨hcs, _⟩ | ⟨x, l, c, zs, hcs, _, hl, hm, hz, _, hcell, hwz⟩
    · simp [Value.cells] at hcs
      obtain ⟨rfl, rfl, rfl⟩ := hcs
      exact ⟨[], .inl ⟨rfl, rfl, rfl, rfl⟩⟩
    · simp [Value.cells] at hcs
      obtain ⟨rfl, rfl, rfl⟩ := hcs
      exact ⟨zs, .inr ⟨_, rfl, hl, hm, by simpa using hz, hcell, hwz⟩⟩
  clear hA0
  refine (walk a0 len0 cap0 z0 a1 len1 cap1 z1 W w0 w1 (tab_of hL)).mono fun e W' ⟨he, bel⟩ => ?_
  subst he
  exact ⟨_, rfl, _, _, _, [], _, [], hW', trodAll_mk1 (shut_bool Tryd.underlying4 _), (trodAll_cons_mk (Below.trod laidOut (by kernel_rfl) (of_decide_eq_true (by kernel_rfl)) k0 bel lt0) (trodAll_cons_mk (Below.trod laidOut (by kernel_rfl) (of_decide_eq_true (by kernel_rfl)) k1 bel lt1) trodAll_mk0)), rfl, bel.frame _, fun h => by cases h⟩


noncomputable def laidWorld (os : Os) : World :=
  { World.holding Tryd.prog os ⟨#[], #[], []⟩ with heap := ((World.holding Tryd.prog os ⟨#[], #[], []⟩).heap.modify 0 (fun o => match o with | .cells _ t frozen => .cells #[.int .u8 0, .int .u8 1, .int .u8 56, .int .u8 2, .int .u8 57, .int .u8 49, .int .u8 28, .int .u8 3, .int .u8 61, .int .u8 58, .int .u8 42, .int .u8 50, .int .u8 38, .int .u8 29, .int .u8 17, .int .u8 4, .int .u8 62, .int .u8 47, .int .u8 59, .int .u8 36, .int .u8 45, .int .u8 43, .int .u8 51, .int .u8 22, .int .u8 53, .int .u8 39, .int .u8 33, .int .u8 30, .int .u8 24, .int .u8 18, .int .u8 12, .int .u8 5, .int .u8 63, .int .u8 55, .int .u8 48, .int .u8 27, .int .u8 60, .int .u8 41, .int .u8 37, .int .u8 16, .int .u8 46, .int .u8 35, .int .u8 44, .int .u8 21, .int .u8 52, .int .u8 32, .int .u8 23, .int .u8 11, .int .u8 54, .int .u8 26, .int .u8 40, .int .u8 15, .int .u8 34, .int .u8 20, .int .u8 31, .int .u8 10, .int .u8 25, .int .u8 14, .int .u8 19, .int .u8 9, .int .u8 13, .int .u8 8, .int .u8 7, .int .u8 6] t frozen | o => o)) }
theorem laid_met (os : Os) : laidMet Tryd.prog Rows.pileJoinsRow.laid ((laidWorld os).forCall (fun _ _ => 0) ⟨#[], #[.slice none 0 0, .slice none 0 0], []⟩).memory :=
  laidMet_of_run' 8 (by kernel_rfl) (by kernel_rfl)
theorem reads (os : Os) {H : Type} (enc : TypeId × Value → H) : ∃ places, DataW.whole enc Tryd.prog ((laidWorld os).forCall (fun _ _ => 0) ⟨#[], #[.slice none 0 0, .slice none 0 0], []⟩).memory Tryd.f8.params.toList Rows.pileJoinsSpec.vars false (#[.slice none 0 0, .slice none 0 0] : Array Value).toList 8 = some ([.nil, .nil], [], places) :=
  ⟨[], by kernel_rfl⟩

set_option maxRecDepth 100000 in
theorem lifted (os : Os) (started : os.Started) (H : Type) (enc : TypeId × Value → H) (F : Stop.Interp) :
    ReturnsInHanded {} Tryd.checked os 8 .any ((OpenSpec.ofChange Rows.pileJoinsSpec).preRow enc Tryd.prog Tryd.f8 Rows.pileJoinsRow.domain false Rows.pileJoinsRow.laid) (((OpenSpec.ofChange Rows.pileJoinsSpec).at F).post enc Tryd.prog Tryd.f8 false true false false) := by
  obtain ⟨places, hx⟩ := reads os enc
  refine returnsInHanded_of_row (C := Tryd.checked) (s := OpenSpec.ofChange Rows.pileJoinsSpec) own started (by kernel_rfl) Tryd.func8
    (witness_row_at (enc := enc) (C := Tryd.checked) false (laidWorld os) #[.slice none 0 0, .slice none 0 0] rfl (by kernel_rfl) (by kernel_rfl) (by kernel_rfl)
      (OpenSpec.preRow_of_cond 8 hx (by kernel_rfl) (fun k hk => by cases hk) (by kernel_rfl) (laid_met os))) ?_
  intro W base args ds gs before hval hW _ _ _ hL _ _
  exact contract H enc W base args ds gs before hval hW hL

theorem said : Rows.PileJoinsSaid :=
  OpenClaim.holds_of_cond 8 Tryd.f8 rfl rfl rfl rfl rfl rfl rfl ⟨rfl, rfl, rfl, rfl, rfl⟩ rfl rfl rfl rfl rfl (by kernel_rfl) Tryd.func8 (by kernel_rfl)
    (of_decide_eq_true (by kernel_rfl)) (by unfold Func.isWrapper; first | (rw [if_pos (by decide +kernel)]; kernel_rfl) | (rw [if_neg (by decide +kernel)]; exact ⟨rfl, rfl⟩))
    (fun os started H enc _ F => by rw [OpenClaim.pre_eq_preRow]; exact lifted os started H enc F)

theorem plain (f : FuncId) (fn : Func) (hf : Tryd.pinned.checked.prog.funcNamed "weathervane/weathervanelaw03.PileJoins" = some f) (hfn : Tryd.pinned.checked.prog.funcs[f]? = some fn) :
    false = Tryd.pinned.checked.prog.looks [] ∧ ∀ (j : Nat) t, fn.params[j]? = some t → Tryd.pinned.checked.prog.wantsStandIn t = false := by
  obtain rfl : f = 8 := Option.some.inj ((show Tryd.prog.funcNamed "weathervane/weathervanelaw03.PileJoins" = some 8 by kernel_rfl).symm.trans hf) |>.symm
  obtain rfl : fn = Tryd.f8 := (Option.some.inj (Tryd.func8.symm.trans hfn)).symm
  refine ⟨by kernel_rfl, fun j t ht => ?_⟩
  rw [Tryd.params8] at ht
  have ht2 : t = 40 := by simpa using Array.mem_of_getElem? ht
  subst ht2
  exact (show Tryd.prog.wantsStandIn 40 = false by kernel_rfl)
end Go.Proofs.YtkkkglmjipnfaaaDoor.pileJoins
namespace Go.Proofs.YtkkkglmjipnfaaaDoor
theorem pileJoins_holds : Rows.PileJoinsCardSaid :=
  Claim7.holds_tied_plain_at .later [] _ _ _ _ pileJoins.said (fun _ h => by cases h) (by kernel_rfl) (fun _ h => by cases h) pileJoins_row_tie rfl ⟨rfl, rfl⟩ (by kernel_rfl) rfl pileJoins.plain (by kernel_rfl)
#print axioms pileJoins_holds
end Go.Proofs.YtkkkglmjipnfaaaDoor
