/-
  A body of statements, as a tree and as it lies in memory; what Count leaves.
-/
import Derived.Test.YtpjoggefklohjaaChecked
import Derived.WalkKit
import Derived.WalkLawsBesides
import Derived.Lib.Hide
import Derived.Below
import Derived.IntWalk
import Derived.Laws.OwnMore
import Derived.Laws.Rows
import Derived.Deep.QuietTactic
import Derived.BigQuiet
import Derived.Deep.LoopGhost
namespace Go.Proofs.Ytpjoggefklohjaa
open Go.RowKit
set_option linter.unusedVariables false

/-- A body: none, or a statement (its kind, its references, its arguments, its own body) ahead of a body. -/
inductive Bd where
  | nil : Bd
  | cons (k a1 a2 b1 b2 : Int) (args : List (Int × Int)) (sub rest : Bd) : Bd
def Bd.len : Bd → Nat
  | .nil => 0
  | .cons _ _ _ _ _ _ _ rest => rest.len + 1
def Bd.size : Bd → Nat
  | .nil => 0
  | .cons _ _ _ _ _ _ sub rest => sub.size + rest.size + 1
def Bd.drop : Nat → Bd → Bd
  | 0, b => b
  | n + 1, .nil => .nil
  | n + 1, .cons _ _ _ _ _ _ _ rest => rest.drop n
/-- How many statements are listed. -/
def Bd.cnt : Nat → Bd → Nat
  | _, .nil => 0
  | deep, .cons k _ _ _ _ _ sub rest => 1 + (if k = 7 ∧ deep < 1000 then sub.cnt (deep + 1) else 0) + rest.cnt deep
/-- References in a row. -/
def ArgsAt (w : World) (v : Value) (l : List (Int × Int)) : Prop := ∃ A c, v = .slice A l.length c ∧ (0 < l.length → ∃ b o, A = some ⟨b, o, none⟩ ∧ ∀ i, i < l.length → w.cell? ⟨b, o + i * 2, none⟩ = some (.int .u8 (l.getD i (0, 0)).1) ∧ w.cell? ⟨b, o + i * 2 + 1, none⟩ = some (.int .i64 (l.getD i (0, 0)).2))
/-- Statements from a place on. -/
def BdAt (w : World) : Nat → Nat → Bd → Prop
  | _, _, .nil => True
  | b, o, .cons k a1 a2 b1 b2 args sub rest => (w.cell? ⟨b, o, none⟩ = some (.int .u8 k) ∧ w.cell? ⟨b, o + 1, none⟩ = some (.int .u8 a1) ∧ w.cell? ⟨b, o + 2, none⟩ = some (.int .i64 a2) ∧ w.cell? ⟨b, o + 3, none⟩ = some (.int .u8 b1) ∧ w.cell? ⟨b, o + 4, none⟩ = some (.int .i64 b2)) ∧
      (∃ va, w.cell? ⟨b, o + 5, none⟩ = some va ∧ ArgsAt w va args) ∧
      (∃ A c, w.cell? ⟨b, o + 6, none⟩ = some (.slice A sub.len c) ∧ (0 < sub.len → ∃ b' o', A = some ⟨b', o', none⟩ ∧ BdAt w b' o' sub)) ∧ BdAt w b (o + 7) rest
/-- A slice that reads as a body. -/
def BodyV (w : World) (A : Option Addr) (t : Bd) : Prop := 0 < t.len → ∃ b o, A = some ⟨b, o, none⟩ ∧ BdAt w b o t
theorem cell_old {w w' : World} {B : Nat} (hb : Below B w w') {b o : Nat} {v : Value} (hB : b < B) (h : w.cell? ⟨b, o, none⟩ = some v) : w'.cell? ⟨b, o, none⟩ = some v :=
  (World.cell?_of_block (hb.block b hB)).trans h
theorem ArgsAt.old {w w' : World} {v : Value} {l : List (Int × Int)} (h : ArgsAt w v l) (hb : Below w.heap.size w w') : ArgsAt w' v l := by
  obtain ⟨A, c, hv, h⟩ := h
  refine ⟨A, c, hv, fun hp => ?_⟩
  obtain ⟨b, o, hA, hc⟩ := h hp
  exact ⟨b, o, hA, fun i hi => ⟨cell_old hb (World.block_lt_of_cell? w ⟨b, o + i * 2, none⟩ (hc i hi).1) (hc i hi).1, cell_old hb (World.block_lt_of_cell? w ⟨b, o + i * 2, none⟩ (hc i hi).1) (hc i hi).2⟩⟩
theorem BdAt.old {w w' : World} (hb : Below w.heap.size w w') : ∀ (t : Bd) (b o : Nat), BdAt w b o t → BdAt w' b o t
  | .nil, _, _, _ => trivial
  | .cons k a1 a2 b1 b2 args sub rest, b, o, h => by
    obtain ⟨⟨h1, h2, h3, h4, h5⟩, ⟨va, h6, h7⟩, ⟨A, c, h8, h9⟩, h10⟩ := h
    have hl := World.block_lt_of_cell? w ⟨b, o, none⟩ h1
    refine ⟨⟨cell_old hb hl h1, cell_old hb hl h2, cell_old hb hl h3, cell_old hb hl h4, cell_old hb hl h5⟩, ⟨va, cell_old hb hl h6, h7.old hb⟩, ⟨A, c, cell_old hb hl h8, fun hp => ?_⟩, BdAt.old hb rest b _ h10⟩
    obtain ⟨b', o', hA, h11⟩ := h9 hp
    exact ⟨b', o', hA, BdAt.old hb sub b' o' h11⟩
theorem BodyV.old {w w' : World} {A : Option Addr} {t : Bd} (h : BodyV w A t) (hb : Below w.heap.size w w') : BodyV w' A t := fun hp => by
  obtain ⟨b, o, hA, h1⟩ := h hp
  exact ⟨b, o, hA, BdAt.old hb t b o h1⟩
theorem BdAt.drop {w : World} : ∀ (t : Bd) (b o i : Nat), BdAt w b o t → BdAt w b (o + i * 7) (t.drop i)
  | t, b, o, 0, h => by simpa [Bd.drop] using h
  | .nil, b, o, i + 1, h => by simp [Bd.drop, BdAt]
  | .cons _ _ _ _ _ _ _ rest, b, o, i + 1, h => by
    have := BdAt.drop rest b (o + 7) i h.2.2.2
    rw [show o + (i + 1) * 7 = o + 7 + i * 7 from by omega]
    exact this
theorem Bd.len_drop : ∀ (t : Bd) (i : Nat), (t.drop i).len = t.len - i
  | t, 0 => by simp [Bd.drop]
  | .nil, i + 1 => by simp [Bd.drop, Bd.len]
  | .cons _ _ _ _ _ _ _ rest, i + 1 => by simp [Bd.drop, Bd.len, Bd.len_drop rest i]
theorem Bd.size_drop : ∀ (t : Bd) (i : Nat), (t.drop i).size ≤ t.size
  | t, 0 => by simp [Bd.drop]
  | .nil, i + 1 => by simp [Bd.drop]
  | .cons _ _ _ _ _ _ _ rest, i + 1 => by have := Bd.size_drop rest i; simp [Bd.drop, Bd.size]; omega
theorem Bd.drop_succ : ∀ (t : Bd) (i : Nat) {k a1 a2 b1 b2 args sub rest}, t.drop i = .cons k a1 a2 b1 b2 args sub rest → t.drop (i + 1) = rest
  | t, 0, k, a1, a2, b1, b2, args, sub, rest, h => by simp only [Bd.drop] at h; subst h; rfl
  | .nil, i + 1, k, a1, a2, b1, b2, args, sub, rest, h => by simp [Bd.drop] at h
  | .cons _ _ _ _ _ _ _ r, i + 1, k, a1, a2, b1, b2, args, sub, rest, h => by
    simp only [Bd.drop] at h ⊢
    exact Bd.drop_succ r i h
theorem Bd.drop_cons (t : Bd) (i : Nat) (h : i < t.len) : ∃ k a1 a2 b1 b2 args sub rest, t.drop i = .cons k a1 a2 b1 b2 args sub rest := by
  have := Bd.len_drop t i
  cases hd : t.drop i with
  | nil => rw [hd] at this; simp [Bd.len] at this; omega
  | cons k a1 a2 b1 b2 args sub rest => exact ⟨_, _, _, _, _, _, _, _, rfl⟩
theorem Bd.drop_end (t : Bd) (i : Nat) (h : t.len ≤ i) : t.drop i = .nil := by
  have := Bd.len_drop t i
  cases hd : t.drop i with
  | nil => rfl
  | cons k a1 a2 b1 b2 args sub rest => rw [hd] at this; simp [Bd.len] at this; omega
theorem Bd.cnt_le (t : Bd) : ∀ d, t.cnt d ≤ t.size := by
  induction t with
  | nil => intro d; simp [Bd.cnt]
  | cons k a1 a2 b1 b2 args sub rest ih1 ih2 =>
    intro d
    have h1 := ih1 (d + 1)
    have h2 := ih2 d
    simp only [Bd.cnt, Bd.size]
    split <;> omega

/-- A cell of the call's own that counts. -/
def Ctr (w : World) (g : Nat) (m : Nat) : Prop := w.heap[g]? = some (.cells #[.int .i64 (m : Int)] 3 (0, 0))
theorem Ctr.cell {w : World} {g m : Nat} (h : Ctr w g m) : w.cell? ⟨g, 0, none⟩ = some (.int .i64 (m : Int)) := by rw [cell_of_row w g 0 _ 3 (0, 0) h]; rfl
def stv (k a1 a2 b1 b2 : Int) (va vs : Value) : Value := .agg #[.int .u8 k, .int .u8 a1, .int .i64 a2, .int .u8 b1, .int .i64 b2, va, vs]

theorem heap_ltM {w : World} {g : Nat} {o : Obj} (h : w.heap[g]? = some o) : g < w.heap.size := by
  rcases Nat.lt_or_ge g w.heap.size with h1 | h1
  · exact h1
  · rw [Array.getElem?_eq_none h1] at h; cases h

/-- One block has turned, and there may be new ones. -/
structure Turn (w w' : World) (g : Nat) : Prop where
  os : w'.os = w.os
  tape : w'.tape = w.tape
  output : w'.output = w.output
  size : w.heap.size ≤ w'.heap.size
  block : ∀ k, k < w.heap.size → k ≠ g → w'.heap[k]? = w.heap[k]?
theorem Turn.below {B : Nat} {a w w' : World} {g : Nat} (h : Turn w w' g) (hb : Below B a w) (hg : B ≤ g) (hB : B ≤ w.heap.size) : Below B a w' :=
  ⟨h.os.trans hb.os, h.tape.trans hb.tape, h.output.trans hb.output, Nat.le_trans hb.size h.size, fun k hk => (h.block k (by omega) (by omega)).trans (hb.block k hk)⟩

set_option maxHeartbeats 400000 in
theorem clo_any (d k a1 a2 b1 b2 : Int) (va vs : Value) (g m : Nat) (w : World) (h : Ctr w g m) (hm : m ≤ 1000000000) :
    Calls Try.prog 28 #[.int .i64 d, .agg #[.int .u8 k, .int .u8 a1, .int .i64 a2, .int .u8 b1, .int .i64 b2, va, vs], .pointer (some ⟨g, 0, none⟩)] w fun e w' => e = .returned (.tuple #[]) ∧ Ctr w' g (m + 1) ∧ Turn w w' g := by
  have hgl := heap_ltM h
  obtain ⟨w1, hw1⟩ : ∃ w1, w1 = w.alloc (.cells #[.int .u8 k, .int .u8 a1, .int .i64 a2, .int .u8 b1, .int .i64 b2, va, vs] 46) := ⟨_, rfl⟩
  have h1 : Ctr w1 g m := by rw [hw1]; exact (heap_alloc_old w _ hgl).trans h
  have HB : Hid (Below w.heap.size w w1) := by rw [hw1]; exact (Below.refl _ _).alloc (Nat.le_refl _) _
  have hc := h1.cell
  have hf : w1.frozen? ⟨g, 0, none⟩ = false := by simp [World.frozen?, show w1.heap[g]? = _ from h1]
  have hs : (w.setCell ⟨g, 0, none⟩ (.int .i64 ((m : Int) + 1))).heap[g]? = some (.cells #[.int .i64 ((m : Int) + 1)] 3 (0, 0)) := by simp [World.setCell, Array.getElem?_modify, show w.heap[g]? = _ from h]
  have HS := Lib.hid hs
  clear hs h h1
  go_enter Try.func28, Try.ntmps28
  subst hw1
  go_wp2
  refine bodyPost_end (results_none rfl _ _ _) rfl ?_
  have hsz : (w.setCell ⟨g, 0, none⟩ (.int .i64 ((m : Int) + 1))).heap.size = w.heap.size := by simp [World.setCell]
  refine ⟨rfl, (heap_alloc_old _ _ (by rw [hsz]; exact hgl)).trans HS.out, rfl, rfl, rfl, ?_, fun q hq hqg => ?_⟩
  · simp [World.setCell]
  · rw [heap_alloc_old _ _ (by rw [hsz]; exact hq), Below.heap_setCell _ _ _ _ (fun e => hqg (by rw [e]))]

set_option maxRecDepth 20000 in
set_option maxHeartbeats 2000000 in
theorem walk_any (w0 : World) (g : Nat) (hg : w0.heap.size ≤ g) (N : Nat) : ∀ (t : Bd) (deep : Nat) (A : Option Addr) (c m : Nat) (w : World), t.size ≤ N → deep ≤ 1000 → BodyV w0 A t → Below w0.heap.size w0 w → Ctr w g m → m + t.size ≤ 1000000000 →
    Calls Try.prog 23 #[.slice A t.len c, .int .i64 deep, .func (.func 28) #[] #[.pointer (some ⟨g, 0, none⟩)]] w fun e w' => e = .returned (.tuple #[]) ∧ Ctr w' g (m + t.cnt deep) ∧ Below w0.heap.size w0 w' ∧ Turn w w' g := by
  induction N with
  | zero =>
    intro t deep A c m w hN hd hV hB hC hm
    have ht : t = .nil := by cases t <;> simp [Bd.size] at hN ⊢
    subst ht
    have HB := Lib.hid hB
    have HC := Lib.hid hC
    clear hB hC hV
    simp only [Bd.len]
    go_enter Try.func23, Try.ntmps23
    go_wp2_with fail
    go_loopw [10] (fun s10 wr => s10 = .int .i64 0 ∧ wr = w) (fun _ _ => 0)
    case atStart => exact ⟨rfl, rfl⟩
    case round =>
      obtain ⟨rfl, rfl⟩ := hrel
      go_wp2
      refine bodyPost_end (results_none rfl _ _ _) rfl ?_
      exact ⟨rfl, HC.out, HB.out, ⟨rfl, rfl, rfl, Nat.le_refl _, fun _ _ _ => rfl⟩⟩
  | succ N ih =>
    intro t deep A c m w hN hd hV hB hC hm
    have IH := Lib.hid ih
    have HV := Lib.hid hV
    have HB := Lib.hid hB
    have HC := Lib.hid hC
    have hlen : t.len ≤ 1000000000 := by
      have : ∀ t : Bd, t.len ≤ t.size := by
        intro t
        induction t with
        | nil => simp [Bd.len]
        | cons k a1 a2 b1 b2 args sub rest _ ih => simp only [Bd.len, Bd.size]; omega
      have := this t
      omega
    clear hB hC hV ih
    go_enter Try.func23, Try.ntmps23
    go_wp2_with fail
    go_loopw [10] (fun s10 wr => ∃ (i m' : Nat), s10 = .int .i64 i ∧ i ≤ t.len ∧ Hid (m' + (t.drop i).cnt deep = m + t.cnt deep) ∧ Hid (m' + (t.drop i).size ≤ 1000000000) ∧ Hid (Ctr wr g m') ∧ Hid (Below w0.heap.size w0 wr) ∧ Hid (Turn w wr g)) (fun s10 _ => t.len - (intOf s10).toNat)
    case atStart => exact ⟨0, m, rfl, Nat.zero_le _, rfl, (by show _ ≤ _; simpa [Bd.drop] using hm), HC, HB, ⟨rfl, rfl, rfl, Nat.le_refl _, fun _ _ _ => rfl⟩⟩
    case round =>
      obtain ⟨i, m', rfl, hi, hE, hM, hC, hB, hT⟩ := hrel
      by_cases hlt : i < t.len
      · obtain ⟨k, a1, a2, b1, b2, args, sub, rest, hdr⟩ := Bd.drop_cons t i hlt
        obtain ⟨b, o, rfl, hat⟩ := HV.out (by omega)
        have hat0 := hat.drop t b o i
        rw [hdr] at hat0
        obtain ⟨⟨d0, d1, d2, d3, d4⟩, ⟨va, d5, ⟨Aa, ca, rfl, _⟩⟩, ⟨As, cs, d6, hsub⟩, _⟩ := hat0
        have hbl := World.block_lt_of_cell? w0 ⟨b, o + i * 7, none⟩ d0
        have e0 := cell_old hB.out hbl d0
        have e1 := cell_old hB.out hbl d1
        have e2 := cell_old hB.out hbl d2
        have e3 := cell_old hB.out hbl d3
        have e4 := cell_old hB.out hbl d4
        have e5 := cell_old hB.out hbl d5
        have e6 := cell_old hB.out hbl d6
        have HSub : Hid (BodyV w0 As sub) := hsub
        have hsz1 := Bd.size_drop t i
        have hE2 := hE.out
        have hM2 := hM.out
        rw [hdr] at hE2 hM2 hsz1
        simp only [Bd.cnt, Bd.size] at hE2 hM2 hsz1
        have Hnx := Lib.hid (Bd.drop_succ t i hdr)
        have HE2 := Lib.hid hE2
        have hcs := Bd.cnt_le sub (deep + 1)
        have hcr := Bd.cnt_le rest deep
        clear d0 d1 d2 d3 d4 d5 d6 hsub hat hdr hE hM hE2
        have hgl := heap_ltM hC.out
        have hc1 : Hid (Ctr (wr.alloc (.cells #[.int .u8 k, .int .u8 a1, .int .i64 a2, .int .u8 b1, .int .i64 b2, .slice Aa args.length ca, .slice As sub.len cs] 46)) g m') := (heap_alloc_old wr _ hgl).trans hC.out
        have HN : Hid ((wr.alloc (.cells #[.int .u8 k, .int .u8 a1, .int .i64 a2, .int .u8 b1, .int .i64 b2, .slice Aa args.length ca, .slice As sub.len cs] 46)).heap[wr.heap.size]? = some (.cells #[.int .u8 k, .int .u8 a1, .int .i64 a2, .int .u8 b1, .int .i64 b2, .slice Aa args.length ca, .slice As sub.len cs] 46 (0, 0))) := heap_alloc_new wr _
        go_wp2_with fail
        refine (clo_any _ _ _ _ _ _ _ _ g m' _ hc1.out (by omega)).mono ?_
        rintro e w2 ⟨rfl, hC2, hT2⟩
        have hblk : w2.heap[wr.heap.size]? = _ := (hT2.block wr.heap.size (by simp) (by omega)).trans HN.out
        have f0 := cell_of_row w2 wr.heap.size 0 _ 46 (0, 0) hblk
        have f6 := cell_of_row w2 wr.heap.size 6 _ 46 (0, 0) hblk
        simp at f0 f6
        have HT3 : Hid (Turn w w2 g) := ⟨hT2.os.trans hT.out.os, hT2.tape.trans hT.out.tape, hT2.output.trans hT.out.output, Nat.le_trans hT.out.size (Nat.le_trans (by simp) hT2.size), fun q hq hqg => by
          rw [hT2.block q (by have := hT.out.size; simp; omega) hqg, heap_alloc_old wr _ (by have := hT.out.size; omega)]
          exact hT.out.block q hq hqg⟩
        have HB3 := Lib.hid (hT2.below (hB.out.alloc hB.out.size _) hg (by have := hB.out.size; simp; omega))
        have HC3 := Lib.hid hC2
        clear hblk hC2 hT2 HN hc1 hC hB hT e0 e1 e2 e3 e4 e5 e6
        by_cases hk : k = 7 ∧ deep < 1000
        · obtain ⟨rfl, hdeep⟩ := hk
          have hdi : (deep : Int) < 1000 := by omega
          have hI := IH.out sub (deep + 1) As cs (m' + 1) w2 (by omega) (by omega) HSub.out HB3.out HC3.out (by omega)
          rw [show ((deep + 1 : Nat) : Int) = (deep : Int) + 1 from by omega] at hI
          have HI := Lib.hid hI
          clear hI
          go_wp2_with fail
          refine HI.out.mono ?_
          rintro e w3 ⟨rfl, hC4, hB4, hT4⟩
          have HC4 := Lib.hid hC4
          have HB4 := Lib.hid hB4
          have HT4 : Hid (Turn w w3 g) := ⟨hT4.os.trans HT3.out.os, hT4.tape.trans HT3.out.tape, hT4.output.trans HT3.out.output, Nat.le_trans HT3.out.size hT4.size, fun q hq hqg => by
            rw [hT4.block q (by have := HT3.out.size; omega) hqg]
            exact HT3.out.block q hq hqg⟩
          clear hC4 hB4 hT4
          go_wp2
          go_roundw
          case rel =>
            refine ⟨i + 1, m' + 1 + sub.cnt (deep + 1), by go_num, by omega, ?_, ?_, HC4, HB4, HT4⟩
            · show _ = _
              have h := HE2.out
              rw [if_pos (by simp; exact hdeep)] at h
              rw [Hnx.out]; omega
            · show _ ≤ _
              rw [Hnx.out]; omega
          case measure => simp [intOf]; omega
        · by_cases hk7 : k = 7
          · subst hk7
            have hdeep : ¬ (deep < 1000) := fun h => hk ⟨rfl, h⟩
            have hdi : ¬ ((deep : Int) < 1000) := by omega
            clear hk
            go_wp2
            go_roundw
            case rel =>
              refine ⟨i + 1, m' + 1, by go_num, by omega, ?_, ?_, HC3, HB3, HT3⟩
              · show _ = _
                have h := HE2.out
                rw [if_neg (by simp; omega)] at h
                rw [Hnx.out]; omega
              · show _ ≤ _
                rw [Hnx.out]; omega
            case measure => simp [intOf]; omega
          · have hkb : (k == 7) = false := by simpa using hk7
            have HK := Lib.hid hk
            clear hk hk7
            go_wp2
            go_roundw
            case rel =>
              refine ⟨i + 1, m' + 1, by go_num, by omega, ?_, ?_, HC3, HB3, HT3⟩
              · show _ = _
                have h := HE2.out
                rw [if_neg HK.out] at h
                rw [Hnx.out]; omega
              · show _ ≤ _
                rw [Hnx.out]; omega
            case measure => simp [intOf]; omega
      · obtain rfl : i = t.len := by omega
        have hE2 := hE.out
        rw [Bd.drop_end t t.len (Nat.le_refl _)] at hE2
        simp only [Bd.cnt, Nat.add_zero] at hE2
        have HE2 := Lib.hid hE2
        clear hE2
        go_wp2
        refine bodyPost_end (results_none rfl _ _ _) rfl ?_
        exact ⟨rfl, by rw [← HE2.out]; exact hC.out, hB.out, hT.out⟩

set_option maxHeartbeats 400000 in
theorem count_any (A : Option Addr) (c : Nat) (t : Bd) (w : World) (h : BodyV w A t) (ht : t.size ≤ 1000000000) :
    Calls Try.prog 13 #[.slice A t.len c] w fun e w' => e = .returned (.int .i64 ((t.cnt 0 : Nat) : Int)) ∧ Below w.heap.size w w' := by
  have HB : Hid (Below w.heap.size w (w.alloc (.cells #[.int .i64 0] 3))) := (Below.refl _ _).alloc (Nat.le_refl _) _
  have HC : Hid (Ctr (w.alloc (.cells #[.int .i64 0] 3)) w.heap.size 0) := heap_alloc_new w _
  have hW := walk_any w w.heap.size (Nat.le_refl _) t.size t 0 A c 0 (w.alloc (.cells #[.int .i64 0] 3)) (Nat.le_refl _) (by omega) h HB.out HC.out (by omega)
  have HW := Lib.hid hW
  clear hW h
  go_enter Try.func13, Try.ntmps13
  go_wp2_with fail
  refine HW.out.mono ?_
  rintro e w2 ⟨rfl, hC2, hB2, hT2⟩
  rw [Nat.zero_add] at hC2
  have hc := hC2.cell
  have HB2 := Lib.hid hB2
  clear hC2 hB2 hT2
  go_wp2
  go_ret
  exact ⟨rfl, HB2.out⟩

/-- A statement with nothing in it but its kind, and its body. -/
def Bd.one (k : Int) (sub : Bd) : Bd := .cons k 0 0 0 0 [] sub .nil
theorem body_one (w : World) (k : Int) (A : Option Addr) (c : Nat) (sub : Bd) (h : BodyV w A sub) :
    BodyV (w.alloc (.cells #[.int .u8 k, .int .u8 0, .int .i64 0, .int .u8 0, .int .i64 0, .slice none 0 0, .slice A sub.len c] 46)) (some ⟨w.heap.size, 0, none⟩) (Bd.one k sub) := by
  intro _
  refine ⟨w.heap.size, 0, rfl, ?_⟩
  have hn := heap_alloc_new w (.cells #[.int .u8 k, .int .u8 0, .int .i64 0, .int .u8 0, .int .i64 0, .slice none 0 0, .slice A sub.len c] 46)
  have hb : Below w.heap.size w (w.alloc (.cells #[.int .u8 k, .int .u8 0, .int .i64 0, .int .u8 0, .int .i64 0, .slice none 0 0, .slice A sub.len c] 46)) := (Below.refl _ _).alloc (Nat.le_refl _) _
  generalize w.alloc (.cells #[.int .u8 k, .int .u8 0, .int .i64 0, .int .u8 0, .int .i64 0, .slice none 0 0, .slice A sub.len c] 46) = w1 at hn hb ⊢
  have hc := fun i => cell_of_row w1 w.heap.size i _ 46 (0, 0) hn
  unfold Bd.one BdAt
  refine ⟨⟨hc 0, hc 1, hc 2, hc 3, hc 4⟩, ⟨.slice none 0 0, hc 5, ⟨none, 0, rfl, fun hp => by simp at hp⟩⟩, ⟨A, c, hc 6, fun hp => ?_⟩, trivial⟩
  obtain ⟨b, o, hA, h1⟩ := h hp
  exact ⟨b, o, hA, BdAt.old hb sub b o h1⟩
theorem BodyV.nil (w : World) (A : Option Addr) : BodyV w A .nil := fun h => by simp [Bd.len] at h

set_option maxHeartbeats 400000 in
theorem awake_any (w : World) : Calls Try.prog 8 #[] w fun e w' => e = .returned (.bool true) ∧ Below w.heap.size w w' := by
  have h1 := body_one w 2 none 0 .nil (BodyV.nil _ _)
  have h2 := body_one _ 7 _ 1 _ h1
  have hC := count_any _ 1 _ _ h2 (by decide)
  have e1 : (w.alloc (.cells #[.int .u8 2, .int .u8 0, .int .i64 0, .int .u8 0, .int .i64 0, .slice none 0 0, .slice none Bd.nil.len 0] 46)).heap.size = w.heap.size + 1 := by simp
  rw [e1] at hC
  simp only [show (Bd.one 7 (Bd.one 2 .nil)).cnt 0 = 2 from rfl, show (Bd.one 7 (Bd.one 2 .nil)).len = 1 from rfl, show (Bd.one 2 .nil).len = 1 from rfl, show Bd.nil.len = 0 from rfl] at hC
  have HC := Lib.hid hC
  clear e1
  have HB : Hid (Below w.heap.size w _) := ((Below.refl w.heap.size w).alloc (Nat.le_refl _) (.cells #[.int .u8 2, .int .u8 0, .int .i64 0, .int .u8 0, .int .i64 0, .slice none 0 0, .slice none 0 0] 46)).alloc (by simp) (.cells #[.int .u8 7, .int .u8 0, .int .i64 0, .int .u8 0, .int .i64 0, .slice none 0 0, .slice (some ⟨w.heap.size, 0, none⟩) 1 1] 46)
  clear h1 h2 hC
  go_enter Try.func8, Try.ntmps8
  go_wp2_with fail
  refine HC.out.mono ?_
  rintro e w2 ⟨rfl, hB2⟩
  have HB2 := Lib.hid (HB.out.trans (hB2.mono HB.out.size))
  clear hB2
  go_wp2
  go_ret
  exact ⟨rfl, HB2.out⟩
end Go.Proofs.Ytpjoggefklohjaa
