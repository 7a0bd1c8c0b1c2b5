/-
  PileNumbers (tied card): for any slice of ints the law returns true and leaves its argument as it was: a set of any numbers has those that aren't below 0. Conditions: the library's table math/bits.deBruijn64tab holds what the program's text lays (the card ties it).
-/
import Derived.Test.YtkkkglmjipnfaaaDoorCards
import Derived.Test.YtkkkglmjipnfaaaDoorTie
import Derived.WalkKit
import Derived.Test.YtkkkglmjipnfaaaDoorFam
import Derived.ProofKit
import Derived.OpenShut
import Derived.ShutString
import Derived.ChangeOld
import Derived.Below
import Derived.Deep.DeepHandedRow
import Derived.Lib.LaidTab
import Derived.LaidSub
namespace Go.Proofs.YtkkkglmjipnfaaaDoor.pileNumbers
open Go.ChangeShapes Go.WideShapes Go.ChangeAt Go.RowKit
open Go.ChangeMaps (open_string shut_string)
set_option linter.unusedVariables false

theorem own : ownKnob Tryd.prog.godebug = none := by kernel_rfl
theorem laidOut : laidOutB Tryd.prog = true := by kernel_rfl
theorem gTab : Tryd.prog.globalNamed "math/bits.deBruijn64tab" = some 0 := by kernel_rfl
theorem gTabType : (Tryd.prog.globals[0]?).map (·.type) = some 74 := by kernel_rfl
theorem tab_of {W : World} (h : laidMetH Tryd.prog Rows.pileNumbersRow.laid W) : Tab W := fun i hi => by
  have ht : Lib.TabIs Tryd.prog W "math/bits.deBruijn64tab" .u8 (Lib.deBruijn64tab.map (fun x : Nat => (x : Int))) :=
    Lib.tabIs_of_head (rest := []) gTab gTabType Tryd.underlying74 Tryd.underlying5 (by kernel_rfl) (by kernel_rfl) (laidMetH.filter (fun x => x.1 == "math/bits.deBruijn64tab") h)
  have hl : Lib.deBruijn64tab.length = 64 := rfl
  rw [ht.cell gTab i (by rw [List.length_map, hl]; exact hi)]
  have hi2 : i < Lib.deBruijn64tab.length := hi
  simp [List.getD, hi2]
/-- WHAT THE WALK IS TOLD OF A SLICE OF INTEGERS THAT CAME IN: it is nil; or it leads to a row of 'cap' cells, the numbers 'zs' (the first 'len' are its elements, the rest its spare room), each fitting its kind. -/
def IsRow (k : IntKind) (w : World) (a : Option Addr) (len cap : Nat) (zs : List Int) : Prop :=
  (a = none ∧ len = 0 ∧ cap = 0 ∧ zs = []) ∨
  ∃ x, a = some x ∧ len ≤ cap ∧ cap ≤ maxLen ∧ zs.length = cap ∧ (∀ i, i < zs.length → w.cell? (x.add i) = some (.int k (zs.getD i 0))) ∧ ∀ n ∈ zs, (Lit.int k n).wf = true

/-- The number ahead. -/
def ahead (zs : List Int) : Nat → Int
  | 0 => -1
  | k + 1 => zs.getD k 0
theorem ahead_lt {L : Bks} (hg : Good L) (k : Nat) (h : k < (allF L).length) : ahead (allF L) k < (allF L).getD k 0 := by
  cases k with
  | zero =>
    have hm : (allF L).getD 0 0 ∈ allF L := by simp [h]
    have := (mem_allF hg _).1 hm
    rcases Int.lt_or_le ((allF L).getD 0 0) 0 with h1 | h1
    · rw [has_neg hg h1] at this; cases this
    · show (-1 : Int) < _; omega
  | succ k =>
    show (allF L).getD k 0 < _
    have := List.pairwise_iff_getElem.1 (rise_allF hg) k (k + 1) (by omega) h (by omega)
    simpa [List.getD, h, show k < (allF L).length by omega] using this

set_option maxRecDepth 20000 in
set_option maxHeartbeats 4000000 in
theorem walkN (A : Option Addr) (c : Nat) (l : List Int) (w : World) (hT : Tab w) (h1 : UR .i64 w A l) (hn : A = none → l = []) (x1 : ∀ x ∈ l, -9223372036854775808 ≤ x ∧ x ≤ 9223372036854775807) (hl1 : l.length ≤ 20) :
    Calls Tryd.prog 4 #[.slice A l.length c] w fun e w' => e = .returned (.bool true) ∧ Below w.heap.size w w' := by
  have HT := Lib.hid hT
  have HU := Lib.hid h1
  have HX := Lib.hid x1
  have HN := Lib.hid hn
  clear hT h1 x1 hn
  go_enter Tryd.func4, Tryd.ntmps4
  go_wp2_with fail
  refine (awake_any _ HT.out).mono ?_
  rintro e w1 ⟨rfl, hb1⟩
  have S1 := Lib.hid (St.zero hb1)
  clear hb1
  go_wp2_with fail
  refine (st_of S1.out A c l (HU.out.old S1.out.below) (by omega) HN.out HX.out).mono ?_
  rintro e w2 ⟨g, v, L, rfl, s2, hH, hL⟩
  have S2 := Lib.hid s2
  have GL : Hid (Good L) := (s2.set (g, v, L) (by simp)).good
  have HH := Lib.hid hH
  clear s2 hH
  go_wp2_with fail
  refine (st_all S2.out HT.out (f := (g, v, L)) (by simp) (by simp only; omega)).mono ?_
  rintro e w3 ⟨A3, c3, rfl, hI, hb3, s3⟩
  have S3 := Lib.hid s3
  have HI := Lib.hid hI
  simp only at HI
  have HAh := Lib.hid (fun k h => ahead_lt GL.out k h)
  have HMm : Hid (∀ k, k < (allF L).length → l.contains ((allF L).getD k 0) = true) := fun k hk => by
    have hm : (allF L).getD k 0 ∈ allF L := by simp [hk]
    have := (mem_allF GL.out _).1 hm
    rw [HH.out] at this
    unfold inl at this
    simp only [Bool.and_eq_true] at this
    exact this.2
  have HLn := Lib.hid (lenF_all GL.out)
  have hzl := allF_len L
  clear hI hb3 s3 S1 S2
  simp only
  generalize allF L = zs at *
  go_wp2_with fail
  go_loopw [4, 6] (fun p i wr => ∃ k : Nat, k ≤ zs.length ∧ i = .int .i64 (k : Int) ∧ p = .int .i64 (ahead zs k) ∧ Hid (Below w3.heap.size w3 wr)) (fun _ i _ => zs.length - (intOf i).toNat)
  case atStart => exact ⟨0, Nat.zero_le _, rfl, rfl, Below.refl _ _⟩
  case round =>
    obtain ⟨k, hk, rfl, rfl, hB4⟩ := hrel
    by_cases hlt : k < zs.length
    · obtain ⟨b3, o3, rfl, hc3⟩ := (HI.out.old hB4.out) (by omega)
      have hck := hc3 k hlt
      have hah := HAh.out k hlt
      have HMk := Lib.hid (HMm.out k hlt)
      have HZk : Hid (ahead zs (k + 1) = zs.getD k 0) := rfl
      generalize zs.getD k 0 = z at *
      generalize ahead zs k = pr at *
      obtain ⟨w9, hw9⟩ : ∃ w9, w9 = wr := ⟨wr, rfl⟩
      subst hw9
      clear hc3
      have HCK := Lib.hid hck
      clear hck
      go_wp2_with fail
      go_loopw [7, 8] (fun f i wi => ∃ j : Nat, j ≤ l.length ∧ i = .int .i64 (j : Int) ∧ f = .bool ((l.take j).contains z) ∧ Hid (Below w3.heap.size w3 wi ∧ wi.cell? ⟨b3, o3 + k, none⟩ = some (.int .i64 z))) (fun _ i _ => l.length - (intOf i).toNat)
      case atStart => exact ⟨0, Nat.zero_le _, rfl, by simp, hB4.out, HCK.out⟩
      case round =>
        obtain ⟨j, hj, rfl, rfl, hR⟩ := hrel
        obtain ⟨hBi, hcz⟩ := hR.out
        clear hR
        have HBi := Lib.hid hBi
        have HCZ := Lib.hid hcz
        clear hBi
        by_cases hlj : j < l.length
        · obtain ⟨b, o, rfl, hc⟩ := (HU.out.old (S3.out.below.trans (HBi.out.mono S3.out.below.size))) (by omega)
          have hcj := hc j hlj
          have Hts := Lib.hid (take_snocI l j hlj)
          generalize l.getD j 0 = x at *
          clear hc
          have HFn : Hid ((l.take (j + 1)).contains z = ((l.take j).contains z || x == z)) := by
            show _ = _
            rw [Hts.out, List.contains_append]
            congr 1
            simp only [List.contains_cons, List.contains_nil, Bool.or_false]
            rw [Bool.eq_iff_iff]; simp; exact eq_comm
          generalize hf : (l.take j).contains z = f at *
          clear hf
          have hji : (j : Int) < (l.length : Int) := by omega
          have hki : (k : Int) < (zs.length : Int) := by omega
          cases f
          · by_cases hxz : x = z
            · subst hxz
              have hbq : (x == x) = true := by simp
              go_upto_region 13 with (fail)
              go_quiet (fail)
              go_wp2
              go_roundw
              case rel => exact ⟨j + 1, by omega, by go_num, by rw [HFn.out]; simp, below_drewN HBi.out _, by rw [World.cell?_drewN]; exact HCZ.out⟩
              case measure => simp [intOf]; omega
            · have hxz2 : (x == z) = false := by simpa using hxz
              go_upto_region 13 with (fail)
              go_quiet (fail)
              go_wp2
              go_roundw
              case rel => exact ⟨j + 1, by omega, by go_num, by rw [HFn.out]; simp [hxz], below_drewN HBi.out _, by rw [World.cell?_drewN]; exact HCZ.out⟩
              case measure => simp [intOf]; omega
          · go_upto_region 13 with (fail)
            go_quiet (fail)
            go_wp2
            go_roundw
            case rel => exact ⟨j + 1, by omega, by go_num, by rw [HFn.out]; simp, below_drewN HBi.out _, by rw [World.cell?_drewN]; exact HCZ.out⟩
            case measure => simp [intOf]; omega
        · obtain rfl : j = l.length := by omega
          rw [List.take_length, HMk.out]
          have hle : ¬ (z ≤ pr) := by omega
          have hki : (k : Int) < (zs.length : Int) := by omega
          go_wp2
          go_roundw
          case rel => exact ⟨k + 1, by omega, by go_num, by rw [HZk.out], HBi⟩
          case measure => simp [intOf]; omega
    · obtain rfl : k = zs.length := by omega
      have S4 := Lib.hid (S3.out.old hB4.out)
      clear S3 hB4 HAh HMm HI hlt
      go_wp2_with fail
      go_loopw [9] (fun i wr => ∃ k : Nat, k ≤ l.length ∧ i = .int .i64 (k : Int) ∧ Hid (∃ v', St w wr [(g, v', L)])) (fun i _ => l.length - (intOf i).toNat)
      case atStart => exact ⟨0, Nat.zero_le _, rfl, _, S4.out⟩
      case round =>
        obtain ⟨j, hj, rfl, hR⟩ := hrel
        obtain ⟨v', st⟩ := hR.out
        have ST := Lib.hid st
        clear st hR S4
        by_cases hlj : j < l.length
        · obtain ⟨b, o, rfl, hc⟩ := (HU.out.old ST.out.below) (by omega)
          have hcj := hc j hlj
          have hbl : b < w.heap.size := by
            obtain ⟨b', o', e, hc'⟩ := HU.out (by omega)
            injection e with e
            injection e with e1 e2
            subst e1 e2
            exact World.block_lt_of_cell? w ⟨b, o + j, none⟩ (hc' j hlj)
          have hmem : l.getD j 0 ∈ l := by simp [hlj]
          have hxk := HX.out _ hmem
          have hhx : has L (l.getD j 0) = decide (0 ≤ l.getD j 0) := by
            rw [HH.out]; unfold inl
            rw [List.contains_iff_mem.2 hmem, Bool.and_true]
          have hsame : ∀ L', Good L' → (∀ m, has L' m = (has L m || decide (m = l.getD j 0))) → 0 ≤ l.getD j 0 → L' = L := fun L' hg hm h0 => has_ext hg GL.out fun n => by
            rw [hm n]
            by_cases e : n = l.getD j 0
            · rw [e, hhx, decide_eq_true h0]; rfl
            · rw [decide_eq_false e, Bool.or_false]
          generalize l.getD j 0 = x at *
          clear hc hmem
          have HXK := Lib.hid hxk
          have HSame := Lib.hid hsame
          clear hxk hsame
          have hji : (j : Int) < (l.length : Int) := by omega
          obtain ⟨Ar, cr, _, hr, _, _⟩ := ST.out.rd (f := (g, v', L)) (by simp) (by simp only; omega)
          have hcd : wr.drew.cell? ⟨b, o + j, none⟩ = some (.int .i64 x) := by rw [World.cell?_drew]; exact hcj
          have STd : Hid (St w wr.drew [(g, v', L)]) := ST.out.old (Below.refl _ _).drew
          have HBL := Lib.hid hbl
          clear hbl
          have H21 : Hid (Calls Tryd.prog 21 #[.pointer (some ⟨g, 0, none⟩), .int .i64 x] wr.drew fun e w' => e = .returned (.bool (decide (0 ≤ x))) ∧ w'.cell? ⟨b, o + j, none⟩ = some (.int .i64 x) ∧ Hid (Calls Tryd.prog 12 #[.pointer (some ⟨g, 0, none⟩), .int .i64 x] w' fun e w'' => e = .returned (.bool false) ∧ Hid (∃ v'', St w w'' [(g, v'', L)]))) := by
            refine (has_any _ _ _ _ _ _ (hr.old (Below.refl _ _).drew) HXK.out.1 HXK.out.2).mono ?_
            rintro e w' ⟨rfl, hb⟩
            refine ⟨by simp only; rw [hhx], (World.cell?_of_block (hb.block b (Nat.lt_of_lt_of_le HBL.out STd.out.below.size))).trans hcd, ?_⟩
            by_cases h0 : 0 ≤ x
            · refine (st_add (STd.out.old hb) (by omega) x h0 HXK.out.2).mono ?_
              rintro e w'' ⟨rfl, v'', L', s'', hm, _⟩
              obtain rfl := HSame.out L' (s''.set (g, v'', L') (by simp)).good hm h0
              exact ⟨by rw [hhx, decide_eq_true h0]; rfl, v'', s''⟩
            · refine (add_neg _ _ _ (.inr (by omega)) (.inr ⟨g, rfl⟩)).mono ?_
              rintro e w'' ⟨rfl, rfl⟩
              exact ⟨rfl, v', STd.out.old hb⟩
          clear hr hhx hcj
          have hdd : (decide (0 ≤ x) != decide (0 ≤ x)) = false := by simp
          go_upto_region 20 with (fail)
          go_region_law (first | (go_simp; go_at_call 21; refine H21.out.mono ?_; rintro e w5 ⟨rfl, hc5, h12⟩) | (go_simp; go_at_call 12; refine h12.out.mono ?_; rintro e w6 ⟨rfl, s6⟩))
          all_goals
            go_wp2
            go_roundw
            case rel => exact ⟨j + 1, by omega, by go_num, s6⟩
            case measure => simp [intOf]; omega
        · obtain rfl : j = l.length := by omega
          go_wp2_with fail
          refine (st_len ST.out (f := (g, v', L)) (by simp) (by simp only; omega)).mono ?_
          rintro e w12 ⟨rfl, s12⟩
          have S12 := Lib.hid s12
          clear s12
          simp only
          rw [HLn.out]
          go_wp2
          go_ret
          exact ⟨by simp, S12.out.below⟩

set_option maxHeartbeats 1000000 in
theorem walk (a0 : Option Addr) (len0 cap0 : Nat) (z0 : List Int) (w : World) (w0 : IsRow .i64 w a0 len0 cap0 z0) (hT : Tab w) :
    Calls Tryd.prog 4 #[.slice a0 len0 cap0] w fun e w' => e = .returned (.bool true) ∧ Below w.heap.size w w' := by
  obtain ⟨l, rfl, u1, x1, m1, n1⟩ := ur_of_row w0
  by_cases hl : l.length ≤ 20
  · exact walkN a0 cap0 l w hT u1 n1 (fun x hx => i64_of_wf (x1 x hx)) hl
  · have HT := Lib.hid hT
    clear w0 u1 x1 hT n1
    obtain ⟨n1, hn1⟩ : ∃ n, n = l.length := ⟨_, rfl⟩
    rw [← hn1] at hl m1 ⊢
    clear hn1
    have h2 : 20 < n1 := by omega
    go_enter Tryd.func4, Tryd.ntmps4
    go_wp2_with fail
    refine (awake_any _ HT.out).mono ?_
    rintro e w1 ⟨rfl, hb1⟩
    have HB1 := Lib.hid hb1
    have HT1 := Lib.hid (HT.out.old hb1)
    clear hb1 HT
    go_wp2_with fail
    refine (awake_any _ HT1.out).mono ?_
    rintro e w2 ⟨rfl, hb2⟩
    have HB2 := Lib.hid (HB1.out.trans (hb2.mono HB1.out.size))
    clear hb2
    go_wp2
    go_ret
    exact ⟨rfl, HB2.out⟩

theorem contract (H : Type) (enc : TypeId × Value → H) (W : World) (base : Nat) (args : Array Value) (ds gs : List (DataW H)) (before : List MemPlace)
    (hval : ∀ (j : Nat) t v, Tryd.f4.params[j]? = some t → args[j]? = some v → Value.okWide Tryd.prog W .any base t v)
    (hW : DataW.Whole enc Tryd.prog Tryd.f4.params.toList Rows.pileNumbersSpec.vars false W args.toList ds gs before) (hL : laidMetH Tryd.prog Rows.pileNumbersRow.laid W) :
    Calls Tryd.prog 4 args W fun e W' => ∃ v, e = .returned v ∧ Rows.pileNumbersSpec.post enc Tryd.prog Tryd.f4 false true false false W args v W' := by
  have hW' := hW
  obtain ⟨p, q, hA0, hV, rfl, hfz, hnd⟩ := hW
  have hA : DataW.TrodAll enc Tryd.prog W 0 (fun _ => true) true Tryd.f4.params.toList args.toList ds p := hA0
  rw [Tryd.params4] at hA hval
  obtain ⟨v0, vs0, d0, ds0, p0, q0, hargs, rfl, rfl, h0, r0⟩ := trodAll_cons hA
  obtain ⟨rfl, rfl, rfl⟩ := trodAll_nil r0
  obtain rfl : args = #[v0] := by cases args; simp_all
  obtain ⟨rfl, rfl⟩ := trodVars_none hV
  obtain ⟨a0, len0, cap0, rfl⟩ := okWide_slice Tryd.underlying40 (hval 0 40 v0 rfl rfl)
  have k0 := h0
  have lt0 : ∀ x ∈ p0, x.block < W.heap.size := by obtain ⟨m, hm⟩ := k0; exact DataW.trod_lt m _ _ _ hm
  obtain ⟨z0, w0⟩ : ∃ zs, IsRow .i64 W a0 len0 cap0 zs := by
    obtain ⟨fuel, hf⟩ := h0
    rcases open_ints Tryd.underlying40 Tryd.underlying3 (by kernel_rfl) hf with ⟨hcs, _⟩ | ⟨x, l, c, zs, hcs, _, hl, hm, hz, _, hcell, hwz⟩
    · simp [Value.cells] at hcs
      obtain ⟨rfl, rfl, rfl⟩ := hcs
      exact ⟨[], .inl ⟨rfl, rfl, rfl, rfl⟩⟩
    · simp [Value.cells] at hcs
      obtain ⟨rfl, rfl, rfl⟩ := hcs
      exact ⟨zs, .inr ⟨_, rfl, hl, hm, by simpa using hz, hcell, hwz⟩⟩
  clear hA0
  refine (walk a0 len0 cap0 z0 W w0 (tab_of hL)).mono fun e W' ⟨he, bel⟩ => ?_
  subst he
  exact ⟨_, rfl, _, _, _, [], _, [], hW', trodAll_mk1 (shut_bool Tryd.underlying4 _), (trodAll_cons_mk (Below.trod laidOut (by kernel_rfl) (of_decide_eq_true (by kernel_rfl)) k0 bel lt0) trodAll_mk0), rfl, bel.frame _, fun h => by cases h⟩


noncomputable def laidWorld (os : Os) : World :=
  { World.holding Tryd.prog os ⟨#[], #[], []⟩ with heap := ((World.holding Tryd.prog os ⟨#[], #[], []⟩).heap.modify 0 (fun o => match o with | .cells _ t frozen => .cells #[.int .u8 0, .int .u8 1, .int .u8 56, .int .u8 2, .int .u8 57, .int .u8 49, .int .u8 28, .int .u8 3, .int .u8 61, .int .u8 58, .int .u8 42, .int .u8 50, .int .u8 38, .int .u8 29, .int .u8 17, .int .u8 4, .int .u8 62, .int .u8 47, .int .u8 59, .int .u8 36, .int .u8 45, .int .u8 43, .int .u8 51, .int .u8 22, .int .u8 53, .int .u8 39, .int .u8 33, .int .u8 30, .int .u8 24, .int .u8 18, .int .u8 12, .int .u8 5, .int .u8 63, .int .u8 55, .int .u8 48, .int .u8 27, .int .u8 60, .int .u8 41, .int .u8 37, .int .u8 16, .int .u8 46, .int .u8 35, .int .u8 44, .int .u8 21, .int .u8 52, .int .u8 32, .int .u8 23, .int .u8 11, .int .u8 54, .int .u8 26, .int .u8 40, .int .u8 15, .int .u8 34, .int .u8 20, .int .u8 31, .int .u8 10, .int .u8 25, .int .u8 14, .int .u8 19, .int .u8 9, .int .u8 13, .int .u8 8, .int .u8 7, .int .u8 6] t frozen | o => o)) }
theorem laid_met (os : Os) : laidMet Tryd.prog Rows.pileNumbersRow.laid ((laidWorld os).forCall (fun _ _ => 0) ⟨#[], #[.slice none 0 0], []⟩).memory :=
  laidMet_of_run' 8 (by kernel_rfl) (by kernel_rfl)
theorem reads (os : Os) {H : Type} (enc : TypeId × Value → H) : ∃ places, DataW.whole enc Tryd.prog ((laidWorld os).forCall (fun _ _ => 0) ⟨#[], #[.slice none 0 0], []⟩).memory Tryd.f4.params.toList Rows.pileNumbersSpec.vars false (#[.slice none 0 0] : Array Value).toList 8 = some ([.nil], [], places) :=
  ⟨[], by kernel_rfl⟩

set_option maxRecDepth 100000 in
theorem lifted (os : Os) (started : os.Started) (H : Type) (enc : TypeId × Value → H) (F : Stop.Interp) :
    ReturnsInHanded {} Tryd.checked os 4 .any ((OpenSpec.ofChange Rows.pileNumbersSpec).preRow enc Tryd.prog Tryd.f4 Rows.pileNumbersRow.domain false Rows.pileNumbersRow.laid) (((OpenSpec.ofChange Rows.pileNumbersSpec).at F).post enc Tryd.prog Tryd.f4 false true false false) := by
  obtain ⟨places, hx⟩ := reads os enc
  refine returnsInHanded_of_row (C := Tryd.checked) (s := OpenSpec.ofChange Rows.pileNumbersSpec) own started (by kernel_rfl) Tryd.func4
    (witness_row_at (enc := enc) (C := Tryd.checked) false (laidWorld os) #[.slice none 0 0] rfl (by kernel_rfl) (by kernel_rfl) (by kernel_rfl)
      (OpenSpec.preRow_of_cond 8 hx (by kernel_rfl) (fun k hk => by cases hk) (by kernel_rfl) (laid_met os))) ?_
  intro W base args ds gs before hval hW _ _ _ hL _ _
  exact contract H enc W base args ds gs before hval hW hL

theorem said : Rows.PileNumbersSaid :=
  OpenClaim.holds_of_cond 4 Tryd.f4 rfl rfl rfl rfl rfl rfl rfl ⟨rfl, rfl, rfl, rfl, rfl⟩ rfl rfl rfl rfl rfl (by kernel_rfl) Tryd.func4 (by kernel_rfl)
    (of_decide_eq_true (by kernel_rfl)) (by unfold Func.isWrapper; first | (rw [if_pos (by decide +kernel)]; kernel_rfl) | (rw [if_neg (by decide +kernel)]; exact ⟨rfl, rfl⟩))
    (fun os started H enc _ F => by rw [OpenClaim.pre_eq_preRow]; exact lifted os started H enc F)

theorem plain (f : FuncId) (fn : Func) (hf : Tryd.pinned.checked.prog.funcNamed "weathervane/weathervanelaw03.PileNumbers" = some f) (hfn : Tryd.pinned.checked.prog.funcs[f]? = some fn) :
    false = Tryd.pinned.checked.prog.looks [] ∧ ∀ (j : Nat) t, fn.params[j]? = some t → Tryd.pinned.checked.prog.wantsStandIn t = false := by
  obtain rfl : f = 4 := Option.some.inj ((show Tryd.prog.funcNamed "weathervane/weathervanelaw03.PileNumbers" = some 4 by kernel_rfl).symm.trans hf) |>.symm
  obtain rfl : fn = Tryd.f4 := (Option.some.inj (Tryd.func4.symm.trans hfn)).symm
  refine ⟨by kernel_rfl, fun j t ht => ?_⟩
  rw [Tryd.params4] at ht
  have ht2 : t = 40 := by simpa using Array.mem_of_getElem? ht
  subst ht2
  exact (show Tryd.prog.wantsStandIn 40 = false by kernel_rfl)
end Go.Proofs.YtkkkglmjipnfaaaDoor.pileNumbers
namespace Go.Proofs.YtkkkglmjipnfaaaDoor
theorem pileNumbers_holds : Rows.PileNumbersCardSaid :=
  Claim7.holds_tied_plain_at .later [] _ _ _ _ pileNumbers.said (fun _ h => by cases h) (by kernel_rfl) (fun _ h => by cases h) pileNumbers_row_tie rfl ⟨rfl, rfl⟩ (by kernel_rfl) rfl pileNumbers.plain (by kernel_rfl)
#print axioms pileNumbers_holds
end Go.Proofs.YtkkkglmjipnfaaaDoor
