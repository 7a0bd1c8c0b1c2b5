/-
  SumBursts (tied card): for every byte slice, every uint16 and every uint32 the law returns true and leaves its arguments as they were: sealed bytes in which bits are turned, all within 32, are refused, and opened where none is turned. Conditions: the table weathervane/sum.lines holds what the program's text lays (the card ties it).
-/
import Derived.Test.YtfdnlbmaceafhaaDoorCards
import Derived.Test.YtfdnlbmaceafhaaDoorTie
import Derived.WalkKit
import Derived.Test.YtfdnlbmaceafhaaDoorOpen
import Derived.StillTailTactics
import Derived.ProofKit
import Derived.OpenShut
import Derived.ShutString
import Derived.ChangeOld
import Derived.Below
import Derived.Deep.DeepHandedRow
import Derived.Lib.LaidTab
namespace Go.Proofs.YtfdnlbmaceafhaaDoor.sumBursts
open Go.ChangeShapes Go.WideShapes Go.ChangeAt Go.RowKit
open Go.ChangeMaps (open_string shut_string)
set_option linter.unusedVariables false

theorem own : ownKnob Tryd.prog.godebug = none := by kernel_rfl
theorem laidOut : laidOutB Tryd.prog = true := by kernel_rfl
theorem gTab : Tryd.prog.globalNamed "weathervane/sum.lines" = some 0 := by kernel_rfl
theorem gTabType : (Tryd.prog.globals[0]?).map (·.type) = some 36 := by kernel_rfl
theorem cells36 : Tryd.prog.cellsOf 36 = 16 := by kernel_rfl
theorem cells24 : Tryd.prog.cellsOf 24 = 1 := by kernel_rfl

theorem table {W : World} (h : laidMetH Tryd.prog Rows.sumBurstsRow.laid W) : Lib.TabIs Tryd.prog W "weathervane/sum.lines" .u32 (tab.map fun x : Nat => (x : Int)) :=
  Lib.tabIs_of_head (rest := []) gTab gTabType Tryd.underlying36 Tryd.underlying24 cells24 cells36 h
theorem tab_of {W : World} (h : laidMetH Tryd.prog Rows.sumBurstsRow.laid W) : Tab W := by
  intro i hi
  have := (table h).cell gTab i (by simpa [tab] using hi)
  rw [this]
  have e : ∀ i : Fin 16, (tab.map fun x : Nat => (x : Int)).getD i.val 0 = ((tab.getD i.val 0 : Nat) : Int) := by decide
  exact congrArg (fun z => some (Value.int .u32 z)) (e ⟨i, hi⟩)

/-- WHAT THE WALK IS TOLD OF A SLICE OF INTEGERS THAT CAME IN: it is nil; or it leads to a row of 'cap' cells, the numbers 'zs' (the first 'len' are its elements, the rest its spare room), each fitting its kind. -/
def IsRow (k : IntKind) (w : World) (a : Option Addr) (len cap : Nat) (zs : List Int) : Prop :=
  (a = none ∧ len = 0 ∧ cap = 0 ∧ zs = []) ∨
  ∃ x, a = some x ∧ len ≤ cap ∧ cap ≤ maxLen ∧ zs.length = cap ∧ (∀ i, i < zs.length → w.cell? (x.add i) = some (.int k (zs.getD i 0))) ∧ ∀ n ∈ zs, (Lit.int k n).wf = true

set_option maxHeartbeats 400000 in
theorem walk_far (a0 : Option Addr) (len0 cap0 : Nat) (a1 a2 : Int) (w : World) (hT : Tab w) (h : 300 < len0) :
    Calls Tryd.prog 5 #[.slice a0 len0 cap0, .int .u16 a1, .int .u32 a2] w fun e w' => e = .returned (.bool true) ∧ Below w.heap.size w w' := by
  have HT := Lib.hid hT
  clear hT
  go_enter Tryd.func5, Tryd.ntmps5
  go_wp2_with fail
  refine (awake_any _ HT.out).mono ?_
  rintro e w1 ⟨rfl, hb⟩
  have HB := Lib.hid hb
  have HT1 := Lib.hid (HT.out.old hb)
  clear hb
  go_wp2_with fail
  refine (awake_any _ HT1.out).mono ?_
  rintro e w2 ⟨rfl, hb⟩
  have HB2 := Lib.hid (HB.out.trans (hb.mono HB.out.size))
  clear hb
  go_wp2
  go_ret
  exact ⟨rfl, HB2.out⟩

theorem crc_sealed (l : List Nat) : crc ones (l ++ four (crc ones l)) = 0#32 := by rw [crc_append, four_crc]
theorem sealed_lt (l : List Nat) (h : ∀ x ∈ l, x < 256) (r : BitVec 32) : ∀ x ∈ l ++ four r, x < 256 := by
  intro x hx
  rw [List.mem_append] at hx
  rcases hx with hx | hx
  · exact h x hx
  · exact four_lt r x hx
/-- Four bytes are the sum's just if the sum with them behind is 0. -/
theorem four_iff (t : List Nat) (hl : t.length = 4) (hb : ∀ x ∈ t, x < 256) (r : BitVec 32) : t = four r ↔ crc r t = 0#32 := by
  constructor
  · rintro rfl
    exact four_crc r
  · intro h
    have hlt : told t < 2 ^ 32 := by
      obtain ⟨a, b, c, d, rfl⟩ : ∃ a b c d, t = [a, b, c, d] := by
        match t, hl with
        | [a, b, c, d], _ => exact ⟨a, b, c, d, rfl⟩
      have ha := hb a (by simp)
      have h2 := hb b (by simp)
      have h3 := hb c (by simp)
      have h4 := hb d (by simp)
      simp only [told, List.getD_cons_zero, List.getD_cons_succ]
      omega
    obtain ⟨u, hu⟩ : ∃ u : BitVec 32, u.toNat = told t := ⟨BitVec.ofNat 32 (told t), by rw [BitVec.toNat_ofNat, Nat.mod_eq_of_lt hlt]⟩
    have ht : t = four u := (four_of_told t hl hb u).1 hu
    have e1 : crc u t = 0#32 := by rw [ht]; exact four_crc u
    have e2 := crc_xor t (List.replicate t.length 0) u (u ^^^ r) (by simp)
    rw [zip_zeros, crc_zeros, e1, BitVec.zero_xor, ← BitVec.xor_assoc, BitVec.xor_self, BitVec.zero_xor, h] at e2
    have e3 := steps_inj0 _ _ e2.symm
    have e4 : u = r := by
      have := congrArg (u ^^^ ·) e3
      simp only [← BitVec.xor_assoc, BitVec.xor_self, BitVec.zero_xor, BitVec.xor_zero] at this
      exact this.symm
    rw [← e4]
    exact ht
/-- What was turned so far: bits that are still to come are 0 in it. -/
def Low (V : BitVec 32) (i : Nat) : Prop := ∀ j, i ≤ j → j < 32 → V.getLsbD (31 - j) = false
theorem bit_at (i j : Nat) (hi : i < 32) (hj : j < 32) : (bitTop 1 >>> i).getLsbD (31 - j) = decide (i = j) := by
  have h : ∀ i j : Fin 32, (bitTop 1 >>> i.val).getLsbD (31 - j.val) = decide (i.val = j.val) := by decide +kernel
  exact h ⟨i, hi⟩ ⟨j, hj⟩
theorem low_next (V : BitVec 32) (i : Nat) (h : Low V i) : Low V (i + 1) := fun j hj h2 => h j (by omega) h2
theorem low_turn (V : BitVec 32) (i : Nat) (hi : i < 32) (h : Low V i) : Low (V ^^^ (bitTop 1 >>> i)) (i + 1) ∧ V ^^^ (bitTop 1 >>> i) ≠ 0#32 := by
  constructor
  · intro j hj h2
    rw [BitVec.getLsbD_xor, h j (by omega) h2, bit_at i j hi h2]
    simp
    omega
  · intro e
    have h2 := congrArg (·.getLsbD (31 - i)) e
    simp only [BitVec.getLsbD_xor, h i (Nat.le_refl _) hi, bit_at i i hi hi] at h2
    simp at h2

/-- The bytes behind so many places, of n, from the k-th bit on: what was turned. -/
structure Turned (l : List Nat) (n k i : Nat) (V : BitVec 32) : Prop where
  len : l.length = n
  lt : ∀ x ∈ l, x < 256
  sum : crc ones l = steps (8 * n - k) V
  low : Low V i
theorem Turned.start (l : List Nat) (h : ∀ x ∈ l, x < 256) (n k : Nat) (hn : l.length + 4 = n) : Turned (l ++ four (crc ones l)) n k 0 0#32 :=
  ⟨by rw [List.length_append, four_len]; exact hn, sealed_lt l h _, by rw [crc_sealed, steps_0], fun j _ _ => by simp⟩
theorem Turned.next {l : List Nat} {n k i : Nat} {V : BitVec 32} (h : Turned l n k i V) : Turned l n k (i + 1) V := ⟨h.len, h.lt, h.sum, low_next V i h.low⟩
theorem Turned.turn {l : List Nat} {n k i : Nat} {V : BitVec 32} (h : Turned l n k i V) (hi : i < 32) (hk : k + i < 8 * n) : Turned (flip l (k + i)) n k (i + 1) (V ^^^ (bitTop 1 >>> i)) := by
  have hl := h.len
  refine ⟨by rw [flip_len, hl], flip_lt l _ h.lt (by omega), ?_, (low_turn V i hi h.low).1⟩
  rw [crc_flip l k i hi (by omega), h.sum, hl, steps_xor]

theorem open_len (A : Option Addr) (n c : Nat) (m : List Nat) (s0 s1 s2 s3 : Nat) (w : World) (hn : m.length + 4 = n) (hT : Tab w) (h : Src w A (m ++ [s0, s1, s2, s3])) (hl : m.length ≤ 1000) (hcap : n ≤ c) (hby : ∀ x ∈ m ++ [s0, s1, s2, s3], x < 256) :
    Calls Tryd.prog 13 #[.slice A n c] w (Opens w m [s0, s1, s2, s3]) := by
  subst hn
  exact open_any A c m s0 s1 s2 s3 w hT h hl hcap hby

set_option maxRecDepth 20000 in
set_option maxHeartbeats 2000000 in
theorem walk_near (A : Option Addr) (p : List Nat) (c0 : Nat) (at_ pat : Nat) (w : World) (hT : Tab w) (hs : Src w A p) (hb : ∀ x ∈ p, x < 256) (h : p.length ≤ 300) (hat : at_ < 65536) (hpat : pat < 4294967296) :
    Calls Tryd.prog 5 #[.slice A p.length c0, .int .u16 at_, .int .u32 pat] w fun e w' => e = .returned (.bool true) ∧ Below w.heap.size w w' := by
  have HT := Lib.hid hT
  have HS := Lib.hid hs
  have HBy := Lib.hid hb
  clear hT hs hb
  go_enter Tryd.func5, Tryd.ntmps5
  go_wp2_with fail
  refine (awake_any _ HT.out).mono ?_
  rintro e w1 ⟨rfl, hb⟩
  have HB := Lib.hid hb
  have HT1 := Lib.hid (HT.out.old hb)
  have HS1 := Lib.hid (HS.out.old hb)
  clear hb
  go_wp2_with fail
  refine (seal_any _ _ _ _ HT1.out HS1.out (by omega) HBy.out).mono ?_
  rintro e w2 ⟨A2, c2, rfl, hown, hb⟩
  have hl4 : (p ++ four (crc ones p)).length = p.length + 4 := by rw [List.length_append, four_len]
  rw [hl4] at hown ⊢
  obtain ⟨A2', c2', hv, hc, hs2, hA2⟩ := Src.own hown
  injection hv with hA hn hcc
  subst hA hcc
  obtain ⟨g, rfl, hg, hgb⟩ : ∃ g, A2 = some ⟨g, 0, none⟩ ∧ g < w2.heap.size ∧ w1.heap.size ≤ g := by
    rcases hA2 with rfl | h
    · have := congrArg List.length (hs2.1 rfl)
      rw [hl4] at this
      simp only [List.length_nil] at this
      omega
    · exact h
  rw [hl4] at hc
  have O2 := Lib.hid hown
  have Hb2 := Lib.hid hb
  obtain ⟨n, hn4⟩ : ∃ n, n = p.length + 4 := ⟨_, rfl⟩
  rw [← hn4] at O2 hc ⊢
  have hnI : (p.length : Int) + 4 = (n : Int) := by omega
  obtain ⟨K, hK⟩ : ∃ K, K = at_ % (8 * n) := ⟨_, rfl⟩
  have hKn : K < 8 * n := by rw [hK]; exact Nat.mod_lt _ (by omega)
  have hKI : (at_ : Int) % (8 * (n : Int)) = (K : Int) := by rw [hK]; push_cast; rfl
  have T0 := Lib.hid (Turned.start p HBy.out n K hn4.symm)
  have Hn4 := Lib.hid hn4
  have hn304 : n ≤ 304 := by omega
  have hn4' : 4 ≤ n := by omega
  clear hown hb hs2 hA2 hn hl4 hK hn4
  go_wp2_with fail
  rw [hKI]
  clear hKI
  go_loopw [9, 10] (fun tu i wr => ∃ (k : Nat) (l : List Nat) (V : BitVec 32), k ≤ 32 ∧ i = .int .i64 k ∧ tu = .bool (!decide (V = 0#32)) ∧ Hid (Turned l n K k V) ∧ Hid (wr.ownsRow w1.heap.size 5 1 (.slice (some ⟨g, 0, none⟩) n c2) n (l.map B)) ∧ Hid (Below w1.heap.size w1 wr)) (fun _ i _ => 32 - (intOf i).toNat)
  case atStart => exact ⟨0, _, 0#32, by omega, rfl, by simp, T0, O2, Hb2⟩
  case round =>
    obtain ⟨k, l, V, hk, rfl, rfl, ht, ho, hbl⟩ := hrel
    clear O2 Hb2 T0
    by_cases hlt : k < 32 ∧ K + k < 8 * n
    · obtain ⟨hk32, hkn⟩ := hlt
      obtain ⟨d, hd⟩ : ∃ d, d = pat / 2 ^ k % 2 := ⟨_, rfl⟩
      have hdi : ((pat : Int) / 2 ^ k).tmod 2 = (d : Int) := by
        have e : (pat : Int) / 2 ^ k = ((pat / 2 ^ k : Nat) : Int) := by push_cast; rfl
        rw [e, hd]; rfl
      clear hd
      by_cases h1 : d = 1
      · subst h1
        have hd1 : (((1 : Nat) : Int) == 1) = true := rfl
        obtain ⟨j, hj⟩ : ∃ j, j = K + k := ⟨_, rfl⟩
        have hjI : (K : Int) + (k : Int) = (j : Int) := by omega
        obtain ⟨q, hq⟩ : ∃ q, q = j / 8 := ⟨_, rfl⟩
        obtain ⟨u, hu⟩ : ∃ u, u = j % 8 := ⟨_, rfl⟩
        have hqn : q < n := by omega
        have hu8 : u < 8 := by omega
        have hw1 : IntKind.i64.wrap (j : Int) = (j : Int) := by rw [IntKind.wrap_i64]; omega
        have hw2 : IntKind.i64.wrap ((j : Int) / 8) = (q : Int) := by rw [IntKind.wrap_i64]; omega
        have hw3 : (j : Int).tmod 8 = (u : Int) := by rw [hu]; rfl
        have ec := ho.out.cellAt q (by omega)
        have ef := ho.out.frozenAt q
        have hll : q < l.length := by rw [ht.out.len]; exact hqn
        have ec2 : wr.cell? ⟨g, q, none⟩ = some (.int .u8 ((l.getD q 0 : Nat) : Int)) := by
          rw [ec]; simp [B, hll]
        have hx := ht.out.lt (l.getD q 0) (by simp [hll])
        have Hj := Lib.hid hj
        have Hq := Lib.hid hq
        have Hu := Lib.hid hu
        clear ec hj hq hu
        generalize hX : l.getD q 0 = x at *
        have HX := Lib.hid hX
        clear hX
        go_upto_region 10 with (fail)
        go_still_tail 19, (by kernel_rfl)
        go_wp2
        have e128 : (128 : Int) / 2 ^ u = ((128 / 2 ^ u : Nat) : Int) := by push_cast; rfl
        have hxo : bits .xor .u8 (x : Int) (128 / 2 ^ u) = ((x ^^^ (128 / 2 ^ u) : Nat) : Int) := by
          rw [e128]
          exact u8_xor_nat x (128 / 2 ^ u) hx (Nat.lt_of_le_of_lt (Nat.div_le_self _ _) (by omega))
        rw [hxo]
        have hfl : flip l (K + k) = l.set q (x ^^^ (128 / 2 ^ u)) := by
          unfold flip
          rw [← Hj.out, ← Hq.out, ← Hu.out, HX.out]
        have st := ho.out.stored q (B (x ^^^ (128 / 2 ^ u)))
        rw [← List.map_set, ← hfl] at st
        go_roundw
        case rel =>
          refine ⟨k + 1, flip l (K + k), V ^^^ (bitTop 1 >>> k), by omega, by go_num, ?_, Lib.hid (ht.out.turn hk32 hkn), ?_, ?_⟩
          · have := (low_turn V k hk32 ht.out.low).2
            simp [this]
          · exact Lib.hid (own_old st.1 (Below.refl _ _).drew)
          · exact Lib.hid (hbl.out.grown st.2 hbl.out.size (fun b hb => by injection hb with hb; omega)).drew
        case measure => simp [intOf]; omega
      · have hd1 : ((d : Int) == 1) = false := by simp; omega
        go_wp2
        go_roundw
        case rel => exact ⟨k + 1, l, V, by omega, by go_num, rfl, Lib.hid ht.out.next, ho, hbl⟩
        case measure => simp [intOf]; omega
    · have hdo : ¬ k < 32 ∨ (k < 32 ∧ ¬ K + k < 8 * n) := by omega
      have HT2 := Lib.hid (HT1.out.old hbl.out)
      have HBw := Lib.hid (HB.out.trans (hbl.out.mono HB.out.size))
      obtain ⟨A3, c3, hv3, hc3, hs3, _⟩ := Src.own ho.out
      injection hv3 with hA hn hcc
      subst hA hcc
      have S3 := Lib.hid hs3
      obtain ⟨m, s0, s1, s2, s3, hms⟩ : ∃ m s0 s1 s2 s3, l = m ++ [s0, s1, s2, s3] := by
        have hlen := ht.out.len
        have hd : (l.drop (l.length - 4)).length = 4 := by rw [List.length_drop]; omega
        match hm : l.drop (l.length - 4), hd with
        | [a, b, c, d], _ => exact ⟨l.take (l.length - 4), a, b, c, d, by rw [← hm, List.take_append_drop]⟩
      have hml : m.length + 4 = n := by rw [← ht.out.len, hms]; simp
      have hiff : [s0, s1, s2, s3] = four (crc ones m) ↔ V = 0#32 := by
        rw [four_iff [s0, s1, s2, s3] rfl (fun x hx => ht.out.lt x (by rw [hms]; simp [hx])), ← crc_append, ← hms, ht.out.sum]
        exact ⟨steps_inj0 _ _, fun e => by rw [e, steps_0]⟩
      have Hiff := Lib.hid hiff
      have Hms := Lib.hid hms
      have Hml := Lib.hid hml
      clear hs3 hn hc3 hlt hiff hms hml
      rcases hdo with hd1 | ⟨hd1, hd2⟩
      all_goals
        go_wp2_with fail
        refine (open_len _ _ _ _ _ _ _ _ _ Hml.out HT2.out (by rw [← Hms.out]; exact S3.out) (by have := Hml.out; omega) (by omega) (by rw [← Hms.out]; exact ht.out.lt)).mono ?_
        rintro e w3 ⟨hb3, ⟨h4, A4, c4, rfl, _⟩ | ⟨h4, rfl⟩⟩
        · have HB3 := Lib.hid (HBw.out.trans (hb3.mono HBw.out.size))
          have hV : V = 0#32 := Hiff.out.1 h4
          subst hV
          clear h4 hb3
          go_wp2
          go_ret
          exact ⟨rfl, HB3.out⟩
        · have HB3 := Lib.hid (HBw.out.trans (hb3.mono HBw.out.size))
          have hV : decide (V = 0#32) = false := by
            simp only [decide_eq_false_iff_not]
            exact fun e => h4 (Hiff.out.2 e)
          clear h4 hb3
          rw [hV]
          go_wp2
          go_ret
          exact ⟨rfl, HB3.out⟩

theorem walk (a0 : Option Addr) (len0 cap0 : Nat) (z0 : List Int) (a1 : Int) (a2 : Int) (w : World) (w0 : IsRow .u8 w a0 len0 cap0 z0) (w1 : (Lit.int .u16 a1).wf = true) (w2 : (Lit.int .u32 a2).wf = true) (hT : Tab w) :
    Calls Tryd.prog 5 #[.slice a0 len0 cap0, .int .u16 a1, .int .u32 a2] w fun e w' => e = .returned (.bool true) ∧ Below w.heap.size w w' := by
  obtain ⟨p, rfl, s0, b0, _, _⟩ := src_of_row w0
  have h1 := bounds_u16 w1
  have h2 := bounds_u32 w2
  obtain ⟨n, rfl⟩ := Int.eq_ofNat_of_zero_le h1.1
  obtain ⟨t, rfl⟩ := Int.eq_ofNat_of_zero_le h2.1
  by_cases h : 300 < p.length
  · exact walk_far _ _ _ _ _ _ hT h
  · exact walk_near _ p _ n t w hT s0 b0 (by omega) (by omega) (by omega)

theorem contract (H : Type) (enc : TypeId × Value → H) (W : World) (base : Nat) (args : Array Value) (ds gs : List (DataW H)) (before : List MemPlace)
    (hval : ∀ (j : Nat) t v, Tryd.f5.params[j]? = some t → args[j]? = some v → Value.okWide Tryd.prog W .any base t v)
    (hW : DataW.Whole enc Tryd.prog Tryd.f5.params.toList Rows.sumBurstsSpec.vars false W args.toList ds gs before) (hL : laidMetH Tryd.prog Rows.sumBurstsRow.laid W) :
    Calls Tryd.prog 5 args W fun e W' => ∃ v, e = .returned v ∧ Rows.sumBurstsSpec.post enc Tryd.prog Tryd.f5 false true false false W args v W' := by
  have hW' := hW
  obtain ⟨p, q, hA0, hV, rfl, hfz, hnd⟩ := hW
  have hA : DataW.TrodAll enc Tryd.prog W 0 (fun _ => true) true Tryd.f5.params.toList args.toList ds p := hA0
  rw [Tryd.params5] at hA hval
  obtain ⟨v0, vs0, d0, ds0, p0, q0, hargs, rfl, rfl, h0, r0⟩ := trodAll_cons hA
  obtain ⟨v1, vs1, d1, ds1, p1, q1, rfl, rfl, rfl, h1, r1⟩ := trodAll_cons r0
  obtain ⟨v2, vs2, d2, ds2, p2, q2, rfl, rfl, rfl, h2, r2⟩ := trodAll_cons r1
  obtain ⟨rfl, rfl, rfl⟩ := trodAll_nil r2
  obtain rfl : args = #[v0, v1, v2] := by cases args; simp_all
  obtain ⟨rfl, rfl⟩ := trodVars_none hV
  obtain ⟨a0, len0, cap0, rfl⟩ := okWide_slice Tryd.underlying22 (hval 0 22 v0 rfl rfl)
  have k0 := h0
  have lt0 : ∀ x ∈ p0, x.block < W.heap.size := by obtain ⟨m, hm⟩ := k0; exact DataW.trod_lt m _ _ _ hm
  obtain ⟨z0, w0⟩ : ∃ zs, IsRow .u8 W a0 len0 cap0 zs := by
    obtain ⟨fuel, hf⟩ := h0
    rcases open_ints Tryd.underlying22 Tryd.underlying5 (by kernel_rfl) hf with ⟨hcs, _⟩ | ⟨x, l, c, zs, hcs, _, hl, hm, hz, _, hcell, hwz⟩
    · simp [Value.cells] at hcs
      obtain ⟨rfl, rfl, rfl⟩ := hcs
      exact ⟨[], .inl ⟨rfl, rfl, rfl, rfl⟩⟩
    · simp [Value.cells] at hcs
      obtain ⟨rfl, rfl, rfl⟩ := hcs
      exact ⟨zs, .inr ⟨_, rfl, hl, hm, by simpa using hz, hcell, hwz⟩⟩
  obtain ⟨a1, rfl, rfl, rfl, w1⟩ := open_int Tryd.underlying31 (hval 1 31 v1 rfl rfl) h1
  obtain ⟨a2, rfl, rfl, rfl, w2⟩ := open_int Tryd.underlying24 (hval 2 24 v2 rfl rfl) h2
  clear hA0
  refine (walk a0 len0 cap0 z0 a1 a2 W w0 w1 w2 (tab_of hL)).mono fun e W' ⟨he, bel⟩ => ?_
  subst he
  exact ⟨_, rfl, _, _, _, [], _, [], hW', trodAll_mk1 (shut_bool Tryd.underlying4 _), (trodAll_cons_mk (Below.trod laidOut (by kernel_rfl) (of_decide_eq_true (by kernel_rfl)) k0 bel lt0) (trodAll_cons_mk (shut_int Tryd.underlying31 w1) (trodAll_cons_mk (shut_int Tryd.underlying24 w2) trodAll_mk0))), rfl, bel.frame _, fun h => by cases h⟩


noncomputable def laidWorld (os : Os) : World :=
  { World.holding Tryd.prog os ⟨#[], #[], []⟩ with heap := (World.holding Tryd.prog os ⟨#[], #[], []⟩).heap.modify 0 fun
      | .cells _ t frozen => .cells #[.int .u32 0, .int .u32 79764919, .int .u32 159529838, .int .u32 222504665, .int .u32 319059676, .int .u32 398814059, .int .u32 445009330, .int .u32 507990021, .int .u32 638119352, .int .u32 583659535, .int .u32 797628118, .int .u32 726387553, .int .u32 890018660, .int .u32 835552979, .int .u32 1015980042, .int .u32 944750013] t frozen
      | o => o }
theorem laid_met (os : Os) : laidMet Tryd.prog Rows.sumBurstsRow.laid ((laidWorld os).forCall (fun _ _ => 0) ⟨#[], #[.slice none 0 0, .int .u16 0, .int .u32 0], []⟩).memory :=
  laidMet_of_run' 8 (by kernel_rfl) (by kernel_rfl)
theorem reads (os : Os) {H : Type} (enc : TypeId × Value → H) : ∃ places, DataW.whole enc Tryd.prog ((laidWorld os).forCall (fun _ _ => 0) ⟨#[], #[.slice none 0 0, .int .u16 0, .int .u32 0], []⟩).memory Tryd.f5.params.toList Rows.sumBurstsSpec.vars false (#[.slice none 0 0, .int .u16 0, .int .u32 0] : Array Value).toList 8 = some ([.nil, .lit (.int .u16 0), .lit (.int .u32 0)], [], places) :=
  ⟨[], by kernel_rfl⟩

set_option maxRecDepth 100000 in
theorem lifted (os : Os) (started : os.Started) (H : Type) (enc : TypeId × Value → H) (F : Stop.Interp) :
    ReturnsInHanded {} Tryd.checked os 5 .any ((OpenSpec.ofChange Rows.sumBurstsSpec).preRow enc Tryd.prog Tryd.f5 Rows.sumBurstsRow.domain false Rows.sumBurstsRow.laid) (((OpenSpec.ofChange Rows.sumBurstsSpec).at F).post enc Tryd.prog Tryd.f5 false true false false) := by
  obtain ⟨places, hx⟩ := reads os enc
  refine returnsInHanded_of_row (C := Tryd.checked) (s := OpenSpec.ofChange Rows.sumBurstsSpec) own started (by kernel_rfl) Tryd.func5
    (witness_row_at (enc := enc) (C := Tryd.checked) false (laidWorld os) #[.slice none 0 0, .int .u16 0, .int .u32 0] rfl (by kernel_rfl) (by kernel_rfl) (by kernel_rfl)
      (OpenSpec.preRow_of_cond 8 hx (by kernel_rfl) (fun k hk => by cases hk) (by kernel_rfl) (laid_met os))) ?_
  intro W base args ds gs before hval hW _ _ _ hL _ _
  exact contract H enc W base args ds gs before hval hW hL

theorem said : Rows.SumBurstsSaid :=
  OpenClaim.holds_of_cond 5 Tryd.f5 rfl rfl rfl rfl rfl rfl rfl ⟨rfl, rfl, rfl, rfl, rfl⟩ rfl rfl rfl rfl rfl (by kernel_rfl) Tryd.func5 (by kernel_rfl)
    (of_decide_eq_true (by kernel_rfl)) (by unfold Func.isWrapper; first | (rw [if_pos (by decide +kernel)]; kernel_rfl) | (rw [if_neg (by decide +kernel)]; exact ⟨rfl, rfl⟩))
    (fun os started H enc _ F => by rw [OpenClaim.pre_eq_preRow]; exact lifted os started H enc F)

theorem plain (f : FuncId) (fn : Func) (hf : Tryd.pinned.checked.prog.funcNamed "weathervane/weathervanelaw02.SumBursts" = some f) (hfn : Tryd.pinned.checked.prog.funcs[f]? = some fn) :
    false = Tryd.pinned.checked.prog.looks [] ∧ ∀ (j : Nat) t, fn.params[j]? = some t → Tryd.pinned.checked.prog.wantsStandIn t = false := by
  obtain rfl : f = 5 := Option.some.inj ((show Tryd.prog.funcNamed "weathervane/weathervanelaw02.SumBursts" = some 5 by kernel_rfl).symm.trans hf) |>.symm
  obtain rfl : fn = Tryd.f5 := (Option.some.inj (Tryd.func5.symm.trans hfn)).symm
  refine ⟨by kernel_rfl, fun j t ht => ?_⟩
  rw [Tryd.params5] at ht
  have ht2 : t = 22 ∨ t = 31 ∨ t = 24 := by simpa using Array.mem_of_getElem? ht
  rcases ht2 with rfl | rfl | rfl
  · exact (show Tryd.prog.wantsStandIn 22 = false by kernel_rfl)
  · exact (show Tryd.prog.wantsStandIn 31 = false by kernel_rfl)
  · exact (show Tryd.prog.wantsStandIn 24 = false by kernel_rfl)
end Go.Proofs.YtfdnlbmaceafhaaDoor.sumBursts
namespace Go.Proofs.YtfdnlbmaceafhaaDoor
theorem sumBursts_holds : Rows.SumBurstsCardSaid :=
  Claim7.holds_tied_plain_at .later [] _ _ _ _ sumBursts.said (fun _ h => by cases h) (by kernel_rfl) (fun _ h => by cases h) sumBursts_row_tie rfl ⟨rfl, rfl⟩ (by kernel_rfl) rfl sumBursts.plain (by kernel_rfl)
#print axioms sumBursts_holds
end Go.Proofs.YtfdnlbmaceafhaaDoor
