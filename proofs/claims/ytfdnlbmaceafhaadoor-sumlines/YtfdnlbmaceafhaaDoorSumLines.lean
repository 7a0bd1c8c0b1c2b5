/-
  SumLines (tied card): for every three byte slices the law returns true and leaves its arguments as they were: of three slices of one length, the sum of their exclusive or is the exclusive or of their sums. Conditions: the table weathervane/sum.lines holds what the program's text lays (the card ties it).
-/
import Derived.Test.YtfdnlbmaceafhaaDoorCards
import Derived.Test.YtfdnlbmaceafhaaDoorTie
import Derived.WalkKit
import Derived.Test.YtfdnlbmaceafhaaDoorOpen
import Derived.StillTailTactics
import Derived.ProofKit
import Derived.OpenShut
import Derived.ShutString
import Derived.ChangeOld
import Derived.Below
import Derived.Deep.DeepHandedRow
import Derived.Lib.LaidTab
namespace Go.Proofs.YtfdnlbmaceafhaaDoor.sumLines
open Go.ChangeShapes Go.WideShapes Go.ChangeAt Go.RowKit
open Go.ChangeMaps (open_string shut_string)
set_option linter.unusedVariables false

theorem own : ownKnob Tryd.prog.godebug = none := by kernel_rfl
theorem laidOut : laidOutB Tryd.prog = true := by kernel_rfl
theorem gTab : Tryd.prog.globalNamed "weathervane/sum.lines" = some 0 := by kernel_rfl
theorem gTabType : (Tryd.prog.globals[0]?).map (·.type) = some 36 := by kernel_rfl
theorem cells36 : Tryd.prog.cellsOf 36 = 16 := by kernel_rfl
theorem cells24 : Tryd.prog.cellsOf 24 = 1 := by kernel_rfl

theorem table {W : World} (h : laidMetH Tryd.prog Rows.sumLinesRow.laid W) : Lib.TabIs Tryd.prog W "weathervane/sum.lines" .u32 (tab.map fun x : Nat => (x : Int)) :=
  Lib.tabIs_of_head (rest := []) gTab gTabType Tryd.underlying36 Tryd.underlying24 cells24 cells36 h
theorem tab_of {W : World} (h : laidMetH Tryd.prog Rows.sumLinesRow.laid W) : Tab W := by
  intro i hi
  have := (table h).cell gTab i (by simpa [tab] using hi)
  rw [this]
  have e : ∀ i : Fin 16, (tab.map fun x : Nat => (x : Int)).getD i.val 0 = ((tab.getD i.val 0 : Nat) : Int) := by decide
  exact congrArg (fun z => some (Value.int .u32 z)) (e ⟨i, hi⟩)

/-- WHAT THE WALK IS TOLD OF A SLICE OF INTEGERS THAT CAME IN: it is nil; or it leads to a row of 'cap' cells, the numbers 'zs' (the first 'len' are its elements, the rest its spare room), each fitting its kind. -/
def IsRow (k : IntKind) (w : World) (a : Option Addr) (len cap : Nat) (zs : List Int) : Prop :=
  (a = none ∧ len = 0 ∧ cap = 0 ∧ zs = []) ∨
  ∃ x, a = some x ∧ len ≤ cap ∧ cap ≤ maxLen ∧ zs.length = cap ∧ (∀ i, i < zs.length → w.cell? (x.add i) = some (.int k (zs.getD i 0))) ∧ ∀ n ∈ zs, (Lit.int k n).wf = true

set_option maxHeartbeats 1000000 in
theorem walk_far (a0 : Option Addr) (n0 c0 : Nat) (a1 : Option Addr) (n1 c1 : Nat) (a2 : Option Addr) (n2 c2 : Nat) (w : World) (hT : Tab w) (h : 200 < n0 ∨ (¬ 200 < n0 ∧ ((n1 : Int) != (n0 : Int)) = true) ∨ (¬ 200 < n0 ∧ ((n1 : Int) != (n0 : Int)) = false ∧ ((n2 : Int) != (n0 : Int)) = true)) :
    Calls Tryd.prog 7 #[.slice a0 n0 c0, .slice a1 n1 c1, .slice a2 n2 c2] w fun e w' => e = .returned (.bool true) ∧ Below w.heap.size w w' := by
  have HT := Lib.hid hT
  clear hT
  rcases h with h | ⟨h, h1⟩ | ⟨h, h1, h2⟩
  all_goals
    go_enter Tryd.func7, Tryd.ntmps7
    go_wp2_with fail
    refine (awake_any _ HT.out).mono ?_
    rintro e w1 ⟨rfl, hb⟩
    have HB := Lib.hid hb
    have HT1 := Lib.hid (HT.out.old hb)
    clear hb
    go_wp2_with fail
    refine (awake_any _ HT1.out).mono ?_
    rintro e w2 ⟨rfl, hb⟩
    have HB2 := Lib.hid (HB.out.trans (hb.mono HB.out.size))
    clear hb
    go_wp2
    go_ret
    exact ⟨rfl, HB2.out⟩

theorem run_make_n (n : Nat) (hn : n ≤ 1048576000) (w : World) :
    (Instr.makeSlice 22 (.int .i64 (n : Int)) (.int .i64 (n : Int))).run Tryd.prog w = .ok (.slice (some ⟨w.heap.size, 0, none⟩) n n) (w.alloc (.cells (madeCells (Value.int .u8 0).cells n) 5)) := by
  obtain ⟨i0, hi0, hi1, hi2, hi3⟩ := info_parts info5
  have hr := run_make (P := Tryd.prog) w 22 5 i0 (.int .u8 0) Tryd.underlying22 hi0 hi1 .i64 .i64 n n (by omega) (by omega) (by rw [hi3]; omega) (by omega)
  simp only [Int.toNat_natCast, hi2, Nat.mul_one] at hr
  exact hr

/-- The three, byte by byte. -/
def three (p q r : List Nat) : List Nat := (p.zipWith (· ^^^ ·) q).zipWith (· ^^^ ·) r
theorem three_len (p q r : List Nat) (h1 : q.length = p.length) (h2 : r.length = p.length) : (three p q r).length = p.length := by simp [three]; omega
theorem three_at (p q r : List Nat) (k : Nat) (hk : k < p.length) (h1 : q.length = p.length) (h2 : r.length = p.length) : (three p q r).getD k 0 = p.getD k 0 ^^^ q.getD k 0 ^^^ r.getD k 0 := by
  have a : k < q.length := by omega
  have b : k < r.length := by omega
  simp only [three, List.getD, List.getElem?_zipWith, List.getElem?_eq_getElem hk, List.getElem?_eq_getElem a, List.getElem?_eq_getElem b, Option.getD_some]
theorem three_lt (p q r : List Nat) (hp : ∀ x ∈ p, x < 256) (hq : ∀ x ∈ q, x < 256) (hr : ∀ x ∈ r, x < 256) (h1 : q.length = p.length) (h2 : r.length = p.length) : ∀ x ∈ three p q r, x < 256 := by
  intro x hx
  obtain ⟨k, hk, rfl⟩ := List.mem_iff_getElem.1 hx
  have hl := three_len p q r h1 h2
  have e := three_at p q r k (by omega) h1 h2
  have e2 : (three p q r)[k] = (three p q r).getD k 0 := by simp [hk]
  rw [e2, e]
  have a := hp (p.getD k 0) (by simp [show k < p.length by omega])
  have b := hq (q.getD k 0) (by simp [show k < q.length by omega])
  have c := hr (r.getD k 0) (by simp [show k < r.length by omega])
  exact Nat.xor_lt_two_pow (n := 8) (Nat.xor_lt_two_pow (n := 8) a b) c
theorem crc_three (p q r : List Nat) (h1 : q.length = p.length) (h2 : r.length = p.length) : crc ones (three p q r) = crc ones p ^^^ crc ones q ^^^ crc ones r := by
  unfold three
  have e1 := crc_xor (p.zipWith (· ^^^ ·) q) r 0#32 ones (by simp; omega)
  have e2 := crc_xor p q ones ones h1.symm
  rw [BitVec.xor_self] at e2
  rw [BitVec.zero_xor] at e1
  rw [e1, e2]

theorem xor_three (x y z : Nat) (hx : x < 256) (hy : y < 256) (hz : z < 256) : bits .xor .u8 (bits .xor .u8 (x : Int) (y : Int)) (z : Int) = ((x ^^^ y ^^^ z : Nat) : Int) := by
  rw [u8_xor_nat x y hx hy, u8_xor_nat _ z (Nat.xor_lt_two_pow (n := 8) hx hy) hz]
theorem xor_sums (u v t : BitVec 32) : bits .xor .u32 (bits .xor .u32 (u.toNat : Int) (v.toNat : Int)) (t.toNat : Int) = ((u ^^^ v ^^^ t).toNat : Int) := by
  have h1 := u.isLt
  have h2 := v.isLt
  have h3 := t.isLt
  rw [u32_xor_nat u.toNat v.toNat (by omega) (by omega), ← BitVec.toNat_xor]
  have h4 := (u ^^^ v).isLt
  rw [u32_xor_nat (u ^^^ v).toNat t.toNat (by omega) (by omega), ← BitVec.toNat_xor]

set_option maxRecDepth 20000 in
set_option maxHeartbeats 2000000 in
theorem walk_near (A0 : Option Addr) (p : List Nat) (c0 : Nat) (A1 : Option Addr) (q : List Nat) (c1 : Nat) (A2 : Option Addr) (r : List Nat) (c2 : Nat) (w : World) (hT : Tab w)
    (s0 : Src w A0 p) (s1 : Src w A1 q) (s2 : Src w A2 r) (b0 : ∀ x ∈ p, x < 256) (b1 : ∀ x ∈ q, x < 256) (b2 : ∀ x ∈ r, x < 256) (h : p.length ≤ 200) (h1 : q.length = p.length) (h2 : r.length = p.length) :
    Calls Tryd.prog 7 #[.slice A0 p.length c0, .slice A1 q.length c1, .slice A2 r.length c2] w fun e w' => e = .returned (.bool true) ∧ Below w.heap.size w w' := by
  have HT := Lib.hid hT
  have S0 := Lib.hid s0
  have S1 := Lib.hid s1
  have S2 := Lib.hid s2
  have B0 := Lib.hid b0
  have B1 := Lib.hid b1
  have B2 := Lib.hid b2
  have H1 := Lib.hid h1
  have H2 := Lib.hid h2
  have hmk := run_make_n p.length (by omega)
  have hn1 : ((q.length : Int) != (p.length : Int)) = false := by simp; omega
  have hn2 : ((r.length : Int) != (p.length : Int)) = false := by simp; omega
  clear hT s0 s1 s2 b0 b1 b2 h1 h2
  go_enter Tryd.func7, Tryd.ntmps7
  go_wp2_with fail
  refine (awake_any _ HT.out).mono ?_
  rintro e w1 ⟨rfl, hb⟩
  have HB := Lib.hid hb
  clear hb
  go_wp2_with fail
  clear hmk hn1 hn2
  go_loopw [8] (fun i wr => ∃ (k : Nat) (cs : Array Value), k ≤ p.length ∧ i = .int .i64 k ∧ Hid (Blk wr w1.heap.size 5 cs) ∧ cs.size = p.length ∧ Hid (∀ j, j < k → cs[j]? = some (B ((three p q r).getD j 0))) ∧ Hid (Below w1.heap.size w1 wr)) (fun i _ => p.length - (intOf i).toNat)
  case atStart => exact ⟨0, _, Nat.zero_le _, rfl, Lib.hid (Blk.new _ _ _), size_madeCells _ _, Lib.hid (fun j hj => by omega), Lib.hid ((Below.refl _ _).alloc (Nat.le_refl _) _)⟩
  case round =>
    obtain ⟨k, cs, hk, rfl, hbk, hcs, hat, hbl⟩ := hrel
    by_cases hlt : k < p.length
    · have HBw := Lib.hid (HB.out.trans (hbl.out.mono HB.out.size))
      obtain ⟨g0, o0, rfl, d0⟩ := (S0.out.old HBw.out).at_ (by omega)
      obtain ⟨g1, o1, rfl, d1⟩ := (S1.out.old HBw.out).at_ (by have := H1.out; omega)
      obtain ⟨g2, o2, rfl, d2⟩ := (S2.out.old HBw.out).at_ (by have := H2.out; omega)
      have e0 := d0 k hlt
      have e1 := d1 k (by have := H1.out; omega)
      have e2 := d2 k (by have := H2.out; omega)
      have E3 := Lib.hid (three_at p q r k hlt H1.out H2.out)
      have x0 := B0.out (p.getD k 0) (by simp [hlt])
      have x1 := B1.out (q.getD k 0) (by simp [show k < q.length by have := H1.out; omega])
      have x2 := B2.out (r.getD k 0) (by simp [show k < r.length by have := H2.out; omega])
      have hk1 : (k : Int) < (q.length : Int) := by have := H1.out; omega
      have hk2 : (k : Int) < (r.length : Int) := by have := H2.out; omega
      have ec := hbk.out.cell k
      have ef := hbk.out.frozen k
      have hlk : k < cs.size := by omega
      rw [Array.getElem?_eq_getElem hlk] at ec
      clear d0 d1 d2
      generalize p.getD k 0 = x at *
      generalize q.getD k 0 = y at *
      generalize r.getD k 0 = z at *
      unfold B at e0 e1 e2
      go_upto_region 7 with (fail)
      go_still_tail 17, (by kernel_rfl)
      have Hx := Lib.hid (xor_three x y z x0 x1 x2)
      go_wp2
      rw [Hx.out]
      go_roundw
      case rel =>
        refine ⟨k + 1, cs.setIfInBounds k (B (x ^^^ y ^^^ z)), by omega, by go_num, Lib.hid (hbk.out.set_ k _), by simpa using hcs, ?_, ?_⟩
        · intro j hj
          by_cases hjk : j = k
          · subst hjk
            rw [E3.out]
            simp [hlk]
          · rw [Array.getElem?_setIfInBounds_ne (by omega)]
            exact hat.out j (by omega)
        · exact Lib.hid ((hbl.out.setCell (by simp) _).drew)
      case measure => simp [intOf]; omega
    · obtain rfl : k = p.length := by omega
      have HBw := Lib.hid (HB.out.trans (hbl.out.mono HB.out.size))
      have HT2 := Lib.hid (HT.out.old HBw.out)
      have HL := Lib.hid (three_len p q r H1.out H2.out)
      have SD : Hid (Src wr (some ⟨w1.heap.size, 0, none⟩) (three p q r)) := by
        refine ⟨(fun h => by cases h), fun ad had j u hu => ?_⟩
        injection had with had
        subst had
        have hp : (⟨w1.heap.size, 0, none⟩ : Addr).add j = ⟨w1.heap.size, j, none⟩ := by unfold Addr.add; split <;> simp_all
        have hj : j < p.length := by
          rcases Nat.lt_or_ge j p.length with h | h
          · exact h
          · rw [List.getElem?_eq_none (by rw [List.length_map, HL.out]; exact h)] at hu; cases hu
        rw [hp, hbk.out.cell j, hat.out j hj, ← hu]
        have : j < (three p q r).length := by rw [HL.out]; exact hj
        simp [this]
      go_wp2_with fail
      refine (of_len _ _ _ _ _ HL.out HT2.out SD.out (by rw [HL.out]; omega) (three_lt p q r B0.out B1.out B2.out H1.out H2.out)).mono ?_
      rintro e w3 ⟨rfl, rfl⟩
      go_wp2_with fail
      refine (of_any _ _ _ _ HT2.out (S0.out.old HBw.out) (by omega) B0.out).mono ?_
      rintro e w3 ⟨rfl, rfl⟩
      go_wp2_with fail
      refine (of_any _ _ _ _ HT2.out (S1.out.old HBw.out) (by have := H1.out; omega) B1.out).mono ?_
      rintro e w3 ⟨rfl, rfl⟩
      go_wp2_with fail
      refine (of_any _ _ _ _ HT2.out (S2.out.old HBw.out) (by have := H2.out; omega) B2.out).mono ?_
      rintro e w3 ⟨rfl, rfl⟩
      have Hc := crc_three p q r H1.out H2.out
      have hfin := Lib.hid (xor_sums (crc ones p) (crc ones q) (crc ones r))
      rw [Hc]
      clear Hc
      generalize crc ones p = u at *
      generalize crc ones q = v at *
      generalize crc ones r = t at *
      have hfe := hfin.out
      have hself : (((u ^^^ v ^^^ t).toNat : Int) == ((u ^^^ v ^^^ t).toNat : Int)) = true := by simp
      go_wp2
      go_ret
      exact ⟨rfl, HBw.out⟩

theorem walk (a0 : Option Addr) (len0 cap0 : Nat) (z0 : List Int) (a1 : Option Addr) (len1 cap1 : Nat) (z1 : List Int) (a2 : Option Addr) (len2 cap2 : Nat) (z2 : List Int) (w : World) (w0 : IsRow .u8 w a0 len0 cap0 z0) (w1 : IsRow .u8 w a1 len1 cap1 z1) (w2 : IsRow .u8 w a2 len2 cap2 z2) (hT : Tab w) :
    Calls Tryd.prog 7 #[.slice a0 len0 cap0, .slice a1 len1 cap1, .slice a2 len2 cap2] w fun e w' => e = .returned (.bool true) ∧ Below w.heap.size w w' := by
  obtain ⟨p, rfl, s0, b0, _, _⟩ := src_of_row w0
  obtain ⟨q, rfl, s1, b1, _, _⟩ := src_of_row w1
  obtain ⟨r, rfl, s2, b2, _, _⟩ := src_of_row w2
  by_cases h : 200 < p.length
  · exact walk_far _ _ _ _ _ _ _ _ _ _ hT (.inl h)
  · by_cases h1 : q.length = p.length
    · by_cases h2 : r.length = p.length
      · exact walk_near _ p _ _ q _ _ r _ w hT s0 s1 s2 b0 b1 b2 (by omega) h1 h2
      · exact walk_far _ _ _ _ _ _ _ _ _ _ hT (.inr (.inr ⟨h, by simp; omega, by simp; omega⟩))
    · exact walk_far _ _ _ _ _ _ _ _ _ _ hT (.inr (.inl ⟨h, by simp; omega⟩))

theorem contract (H : Type) (enc : TypeId × Value → H) (W : World) (base : Nat) (args : Array Value) (ds gs : List (DataW H)) (before : List MemPlace)
    (hval : ∀ (j : Nat) t v, Tryd.f7.params[j]? = some t → args[j]? = some v → Value.okWide Tryd.prog W .any base t v)
    (hW : DataW.Whole enc Tryd.prog Tryd.f7.params.toList Rows.sumLinesSpec.vars false W args.toList ds gs before) (hL : laidMetH Tryd.prog Rows.sumLinesRow.laid W) :
    Calls Tryd.prog 7 args W fun e W' => ∃ v, e = .returned v ∧ Rows.sumLinesSpec.post enc Tryd.prog Tryd.f7 false true false false W args v W' := by
  have hW' := hW
  obtain ⟨p, q, hA0, hV, rfl, hfz, hnd⟩ := hW
  have hA : DataW.TrodAll enc Tryd.prog W 0 (fun _ => true) true Tryd.f7.params.toList args.toList ds p := hA0
  rw [Tryd.params7] at hA hval
  obtain ⟨v0, vs0, d0, ds0, p0, q0, hargs, rfl, rfl, h0, r0⟩ := trodAll_cons hA
  obtain ⟨v1, vs1, d1, ds1, p1, q1, rfl, rfl, rfl, h1, r1⟩ := trodAll_cons r0
  obtain ⟨v2, vs2, d2, ds2, p2, q2, rfl, rfl, rfl, h2, r2⟩ := trodAll_cons r1
  obtain ⟨rfl, rfl, rfl⟩ := trodAll_nil r2
  obtain rfl : args = #[v0, v1, v2] := by cases args; simp_all
  obtain ⟨rfl, rfl⟩ := trodVars_none hV
  obtain ⟨a0, len0, cap0, rfl⟩ := okWide_slice Tryd.underlying22 (hval 0 22 v0 rfl rfl)
  have k0 := h0
  have lt0 : ∀ x ∈ p0, x.block < W.heap.size := by obtain ⟨m, hm⟩ := k0; exact DataW.trod_lt m _ _ _ hm
  obtain ⟨z0, w0⟩ : ∃ zs, IsRow .u8 W a0 len0 cap0 zs := by
    obtain ⟨fuel, hf⟩ := h0
    rcases open_ints Tryd.underlying22 Tryd.underlying5 (by kernel_rfl) hf with ⟨hcs, _⟩ | ⟨x, l, c, zs, hcs, _, hl, hm, hz, _, hcell, hwz⟩
    · simp [Value.cells] at hcs
      obtain ⟨rfl, rfl, rfl⟩ := hcs
      exact ⟨[], .inl ⟨rfl, rfl, rfl, rfl⟩⟩
    · simp [Value.cells] at hcs
      obtain ⟨rfl, rfl, rfl⟩ := hcs
      exact ⟨zs, .inr ⟨_, rfl, hl, hm, by simpa using hz, hcell, hwz⟩⟩
  obtain ⟨a1, len1, cap1, rfl⟩ := okWide_slice Tryd.underlying22 (hval 1 22 v1 rfl rfl)
  have k1 := h1
  have lt1 : ∀ x ∈ p1, x.block < W.heap.size := by obtain ⟨m, hm⟩ := k1; exact DataW.trod_lt m _ _ _ hm
  obtain ⟨z1, w1⟩ : ∃ zs, IsRow .u8 W a1 len1 cap1 zs := by
    obtain ⟨fuel, hf⟩ := h1
    rcases open_ints Tryd.underlying22 Tryd.underlying5 (by kernel_rfl) hf with ⟨hcs, _⟩ | ⟨x, l, c, zs, hcs, _, hl, hm, hz, _, hcell, hwz⟩
    · simp [Value.cells] at hcs
      obtain ⟨rfl, rfl, rfl⟩ := hcs
      exact ⟨[], .inl ⟨rfl, rfl, rfl, rfl⟩⟩
    · simp [Value.cells] at hcs
      obtain ⟨rfl, rfl, rfl⟩ := hcs
      exact ⟨zs, .inr ⟨_, rfl, hl, hm, by simpa using hz, hcell, hwz⟩⟩
  obtain ⟨a2, len2, cap2, rfl⟩ := okWide_slice Tryd.underlying22 (hval 2 22 v2 rfl rfl)
  have k2 := h2
  have lt2 : ∀ x ∈ p2, x.block < W.heap.size := by obtain ⟨m, hm⟩ := k2; exact DataW.trod_lt m _ _ _ hm
  obtain ⟨z2, w2⟩ : ∃ zs, IsRow .u8 W a2 len2 cap2 zs := by
    obtain ⟨fuel, hf⟩ := h2
    rcases open_ints Tryd.underlying22 Tryd.underlying5 (by kernel_rfl) hf with ⟨hcs, _⟩ | ⟨x, l, c, zs, hcs, _, hl, hm, hz, _, hcell, hwz⟩
    · simp [Value.cells] at hcs
      obtain ⟨rfl, rfl, rfl⟩ := hcs
      exact ⟨[], .inl ⟨rfl, rfl, rfl, rfl⟩⟩
    · simp [Value.cells] at hcs
      obtain ⟨rfl, rfl, rfl⟩ := hcs
      exact ⟨zs, .inr ⟨_, rfl, hl, hm, by simpa using hz, hcell, hwz⟩⟩
  clear hA0
  refine (walk a0 len0 cap0 z0 a1 len1 cap1 z1 a2 len2 cap2 z2 W w0 w1 w2 (tab_of hL)).mono fun e W' ⟨he, bel⟩ => ?_
  subst he
  exact ⟨_, rfl, _, _, _, [], _, [], hW', trodAll_mk1 (shut_bool Tryd.underlying4 _), (trodAll_cons_mk (Below.trod laidOut (by kernel_rfl) (of_decide_eq_true (by kernel_rfl)) k0 bel lt0) (trodAll_cons_mk (Below.trod laidOut (by kernel_rfl) (of_decide_eq_true (by kernel_rfl)) k1 bel lt1) (trodAll_cons_mk (Below.trod laidOut (by kernel_rfl) (of_decide_eq_true (by kernel_rfl)) k2 bel lt2) trodAll_mk0))), rfl, bel.frame _, fun h => by cases h⟩


noncomputable def laidWorld (os : Os) : World :=
  { World.holding Tryd.prog os ⟨#[], #[], []⟩ with heap := (World.holding Tryd.prog os ⟨#[], #[], []⟩).heap.modify 0 fun
      | .cells _ t frozen => .cells #[.int .u32 0, .int .u32 79764919, .int .u32 159529838, .int .u32 222504665, .int .u32 319059676, .int .u32 398814059, .int .u32 445009330, .int .u32 507990021, .int .u32 638119352, .int .u32 583659535, .int .u32 797628118, .int .u32 726387553, .int .u32 890018660, .int .u32 835552979, .int .u32 1015980042, .int .u32 944750013] t frozen
      | o => o }
theorem laid_met (os : Os) : laidMet Tryd.prog Rows.sumLinesRow.laid ((laidWorld os).forCall (fun _ _ => 0) ⟨#[], #[.slice none 0 0, .slice none 0 0, .slice none 0 0], []⟩).memory :=
  laidMet_of_run' 8 (by kernel_rfl) (by kernel_rfl)
theorem reads (os : Os) {H : Type} (enc : TypeId × Value → H) : ∃ places, DataW.whole enc Tryd.prog ((laidWorld os).forCall (fun _ _ => 0) ⟨#[], #[.slice none 0 0, .slice none 0 0, .slice none 0 0], []⟩).memory Tryd.f7.params.toList Rows.sumLinesSpec.vars false (#[.slice none 0 0, .slice none 0 0, .slice none 0 0] : Array Value).toList 8 = some ([.nil, .nil, .nil], [], places) :=
  ⟨[], by kernel_rfl⟩

set_option maxRecDepth 100000 in
theorem lifted (os : Os) (started : os.Started) (H : Type) (enc : TypeId × Value → H) (F : Stop.Interp) :
    ReturnsInHanded {} Tryd.checked os 7 .any ((OpenSpec.ofChange Rows.sumLinesSpec).preRow enc Tryd.prog Tryd.f7 Rows.sumLinesRow.domain false Rows.sumLinesRow.laid) (((OpenSpec.ofChange Rows.sumLinesSpec).at F).post enc Tryd.prog Tryd.f7 false true false false) := by
  obtain ⟨places, hx⟩ := reads os enc
  refine returnsInHanded_of_row (C := Tryd.checked) (s := OpenSpec.ofChange Rows.sumLinesSpec) own started (by kernel_rfl) Tryd.func7
    (witness_row_at (enc := enc) (C := Tryd.checked) false (laidWorld os) #[.slice none 0 0, .slice none 0 0, .slice none 0 0] rfl (by kernel_rfl) (by kernel_rfl) (by kernel_rfl)
      (OpenSpec.preRow_of_cond 8 hx (by kernel_rfl) (fun k hk => by cases hk) (by kernel_rfl) (laid_met os))) ?_
  intro W base args ds gs before hval hW _ _ _ hL _ _
  exact contract H enc W base args ds gs before hval hW hL

theorem said : Rows.SumLinesSaid :=
  OpenClaim.holds_of_cond 7 Tryd.f7 rfl rfl rfl rfl rfl rfl rfl ⟨rfl, rfl, rfl, rfl, rfl⟩ rfl rfl rfl rfl rfl (by kernel_rfl) Tryd.func7 (by kernel_rfl)
    (of_decide_eq_true (by kernel_rfl)) (by unfold Func.isWrapper; first | (rw [if_pos (by decide +kernel)]; kernel_rfl) | (rw [if_neg (by decide +kernel)]; exact ⟨rfl, rfl⟩))
    (fun os started H enc _ F => by rw [OpenClaim.pre_eq_preRow]; exact lifted os started H enc F)

theorem plain (f : FuncId) (fn : Func) (hf : Tryd.pinned.checked.prog.funcNamed "weathervane/weathervanelaw02.SumLines" = some f) (hfn : Tryd.pinned.checked.prog.funcs[f]? = some fn) :
    false = Tryd.pinned.checked.prog.looks [] ∧ ∀ (j : Nat) t, fn.params[j]? = some t → Tryd.pinned.checked.prog.wantsStandIn t = false := by
  obtain rfl : f = 7 := Option.some.inj ((show Tryd.prog.funcNamed "weathervane/weathervanelaw02.SumLines" = some 7 by kernel_rfl).symm.trans hf) |>.symm
  obtain rfl : fn = Tryd.f7 := (Option.some.inj (Tryd.func7.symm.trans hfn)).symm
  refine ⟨by kernel_rfl, fun j t ht => ?_⟩
  rw [Tryd.params7] at ht
  have ht2 : t = 22 := by simpa using Array.mem_of_getElem? ht
  subst ht2
  exact (show Tryd.prog.wantsStandIn 22 = false by kernel_rfl)
end Go.Proofs.YtfdnlbmaceafhaaDoor.sumLines
namespace Go.Proofs.YtfdnlbmaceafhaaDoor
theorem sumLines_holds : Rows.SumLinesCardSaid :=
  Claim7.holds_tied_plain_at .later [] _ _ _ _ sumLines.said (fun _ h => by cases h) (by kernel_rfl) (fun _ h => by cases h) sumLines_row_tie rfl ⟨rfl, rfl⟩ (by kernel_rfl) rfl sumLines.plain (by kernel_rfl)
#print axioms sumLines_holds
end Go.Proofs.YtfdnlbmaceafhaaDoor
