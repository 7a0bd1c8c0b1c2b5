/-
  Parts: Rw Rp Rs Op Bw Fp Cb Cd.
-/
import Derived.Test.YtpdebnecfknohaaPr00
import Derived.Test.YtpdebnecfknohaaPr01
import Derived.Deep.SlicePairs
import Derived.ChangeSame
namespace Go.Proofs.Ytpdebnecfknohaa
open Go.RowKit
set_option linter.unusedVariables false
set_option maxRecDepth 20000
/-- What is left behind 'x.f = append(x.f, u)': x's box at q, its cell j. -/
structure StepOut (wr wf : World) (B q tq j e : Nat) (cs : Array Value) (old new : Value) (n : Nat) (xs : List Value) : Prop where
  box : Blk wf q tq (cs.setIfInBounds j new)
  own : wf.ownsRow B e 1 new n xs
  kept : ∀ k, k < wr.heap.size → k ≠ q → some k ≠ old.ownBlock → wf.heap[k]? = wr.heap[k]?
  fresh : ∀ k, some k = new.ownBlock → some k = old.ownBlock ∨ wr.heap.size ≤ k
  size : wr.heap.size ≤ wf.heap.size
  bel : ∀ (B' : Nat) (a : World), Below B' a wr → B' ≤ B → B' ≤ q → B' ≤ wr.heap.size → Below B' a wf
theorem StepOut.blk {wr wf : World} {B q tq j e : Nat} {cs : Array Value} {old new : Value} {n : Nat} {xs : List Value} (h : StepOut wr wf B q tq j e cs old new n xs) {m : Nat} {ys : List Value} (ho : wr.ownsRow B e 1 old m ys) {k t : Nat} {ds : Array Value} (hb : Blk wr k t ds) (hk : k ≠ q) (ht : t ≠ e) : Blk wf k t ds :=
  (h.kept k hb.lt hk (own_ne ho hb (fun x => ht x.symm))).trans hb
theorem StepOut.row {wr wf : World} {B q tq j e : Nat} {cs : Array Value} {old new : Value} {n : Nat} {xs : List Value} (h : StepOut wr wf B q tq j e cs old new n xs) {m : Nat} {ys : List Value} (ho : wr.ownsRow B e 1 old m ys) (hq : Blk wr q tq cs) {B2 e2 s2 n2 : Nat} {v2 : Value} {zs : List Value} (h2 : wr.ownsRow B2 e2 s2 v2 n2 zs) (he : e2 ≠ e) (htq : e2 ≠ tq) : wf.ownsRow B2 e2 s2 v2 n2 zs :=
  own_blocks h2 (fun k hk => by
    rcases h2.2 with ⟨rfl, _⟩ | ⟨g, cap, cur, rfl, _, hh, _⟩
    · simp [Value.ownBlock] at hk
    · have e0 : k = g := by simpa [Value.ownBlock] using hk
      subst e0
      exact h.kept k (heap_ltM hh) (fun e0 => by subst e0; exact htq (hq.uniq hh).symm) (own_ne ho (show Blk wr k e2 cur from hh) (fun x => he x.symm)))
end Go.Proofs.Ytpdebnecfknohaa
namespace Go.Proofs.Ytpdebnecfknohaa
open Go.RowKit
set_option linter.unusedVariables false
set_option maxRecDepth 20000
/-- A statement without a body, so often. -/
def Bd.rep (k a1 a2 b1 b2 : Int) (xs : List (Int × Int)) : Nat → Bd
  | 0 => .nil
  | n + 1 => .cons k a1 a2 b1 b2 xs .nil (Bd.rep k a1 a2 b1 b2 xs n)
/-- The cells of so many statements. -/
def seven (k a1 a2 b1 b2 : Int) (va vs : Value) : List Value := [.int .u8 k, .int .u8 a1, .int .i64 a2, .int .u8 b1, .int .i64 b2, va, vs]
def sevens (k a1 a2 b1 b2 : Int) (va vs : Value) : Nat → List Value
  | 0 => []
  | n + 1 => seven k a1 a2 b1 b2 va vs ++ sevens k a1 a2 b1 b2 va vs n
theorem info50 : (Try.prog.info? 50).map (fun i => (i.zero, i.size, i.bytes)) = some (some (.agg #[.int .u8 0, .int .u8 0, .int .i64 0, .int .u8 0, .int .i64 0, .slice none 0 0, .slice none 0 0]), 7, 88) := by kernel_rfl
/-- An owned row's cells. -/
theorem own_cellsM {w : World} {base n size : Nat} {e : TypeId} {q cap : Nat} {xs : List Value} (h : w.ownsRow base e size (.slice (some ⟨q, 0, none⟩) n cap) n xs) : ∀ j u, xs[j]? = some u → w.cell? ⟨q, 0 + j, none⟩ = some u := by
  intro j u hj
  rcases h.2 with ⟨hv, _⟩ | ⟨k, cap', cur, hv, h2, hk, h3, h4, h5, h6⟩
  · cases hv
  · injection hv with hv1 hv2 hv3
    injection hv1 with hv1
    injection hv1 with hv1
    subst hv1
    rw [cell_of_row w q _ cur e (0, 0) hk, Nat.zero_add, ← Array.getElem?_toList]
    rw [← h6] at hj
    rcases Nat.lt_or_ge j (n * size) with h | h
    · rwa [List.getElem?_take_of_lt h] at hj
    · rw [List.getElem?_eq_none (by rw [List.length_take]; omega)] at hj; cases hj
end Go.Proofs.Ytpdebnecfknohaa
namespace Go.Proofs.Ytpdebnecfknohaa
open Go.RowKit
set_option linter.unusedVariables false
set_option maxRecDepth 20000
set_option maxHeartbeats 400000 in
theorem rsame_len (A B : Option Addr) (n m c d : Nat) (w : World) (hne : n ≠ m) (hn : n ≤ 1000000000) (hm : m ≤ 1000000000) :
    Calls Try.prog 54 #[.slice A n c, .slice B m d] w fun e w' => e = .returned (.bool false) ∧ w = w' := by
  have hni : ((n : Int) == (m : Int)) = false := by simp; omega
  go_enter Try.func54, Try.ntmps54
  go_wp2
  go_ret
  exact ⟨rfl, rfl⟩
set_option maxHeartbeats 400000 in
theorem rsame_nil (A B : Option Addr) (c d : Nat) (w : World) :
    Calls Try.prog 54 #[.slice A 0 c, .slice B 0 d] w fun e w' => e = .returned (.bool true) ∧ w = w' := by
  go_enter Try.func54, Try.ntmps54
  go_wp2_with fail
  go_loopw [5] (fun i wr => i = .int .i64 0 ∧ w = wr) (fun _ _ => 0)
  case atStart => exact ⟨rfl, rfl⟩
  case round =>
    obtain ⟨rfl, rfl⟩ := hrel
    go_wp2
    go_ret
    exact ⟨rfl, rfl⟩
end Go.Proofs.Ytpdebnecfknohaa
namespace Go.Proofs.Ytpdebnecfknohaa
open Go.RowKit Go.ChangeShapes Go.WideShapes
set_option linter.unusedVariables false
set_option maxRecDepth 20000
def okU8 (x : Int) : Prop := 0 ≤ x ∧ x ≤ 255
def okI64 (x : Int) : Prop := -9223372036854775808 ≤ x ∧ x ≤ 9223372036854775807
theorem okU8_of_wf {x : Int} (h : (Lit.int .u8 x).wf = true) : okU8 x := by
  simpa [okU8, Lit.wf, IntKind.min, IntKind.max, IntKind.bits, IntKind.signed] using h
theorem okI64_of_wf {x : Int} (h : (Lit.int .i64 x).wf = true) : okI64 x := by
  simpa [okI64, Lit.wf, IntKind.min, IntKind.max, IntKind.bits, IntKind.signed] using h
def okArgs (xs : List (Int × Int)) : Prop := ∀ x ∈ xs, okU8 x.1 ∧ okI64 x.2
/-- All numbers are such as their kinds hold. -/
def Bd.fit : Bd → Prop
  | .nil => True
  | .cons k a1 a2 b1 b2 xs s r => (okU8 k ∧ okU8 a1 ∧ okI64 a2 ∧ okU8 b1 ∧ okI64 b2) ∧ (okArgs xs ∧ xs.length ≤ 9223372036854775807) ∧ s.fit ∧ r.fit
theorem cells5 : Try.prog.cellsOf 5 = 1 := by kernel_rfl
theorem cells3 : Try.prog.cellsOf 3 = 1 := by kernel_rfl
theorem cells46 : Try.prog.cellsOf 46 = 2 := by kernel_rfl
theorem cells48 : Try.prog.cellsOf 48 = 1 := by kernel_rfl
theorem cells38 : Try.prog.cellsOf 38 = 1 := by kernel_rfl
theorem cells50 : Try.prog.cellsOf 50 = 7 := by kernel_rfl
section
variable {H : Type} {enc : TypeId × Value → H} {w : World} {base : Nat} {spare : Nat → Bool} {held : Bool}
theorem open_ref {fuel : Nat} {cs : List Value} {x : DataW H × List MemPlace} (h : DataW.trod enc Try.prog w base spare held fuel 46 cs = some x) :
    ∃ a b, cs = [.int .u8 a, .int .i64 b] ∧ okU8 a ∧ okI64 b := by
  obtain ⟨xs, n, _, hx, hl, hxl, hg⟩ := DataW.trod_struct Try.underlying46 h
  rw [cells46] at hl
  match xs, hxl, cs, hl with
  | [y0, y1], _, [c0, c1], _ =>
    have g0 : DataW.trod enc Try.prog w base spare held n 5 ((List.drop 0 [c0, c1]).take (Try.prog.cellsOf 5)) = some y0 := hg 0 _ rfl
    have g1 : DataW.trod enc Try.prog w base spare held n 3 ((List.drop 1 [c0, c1]).take (Try.prog.cellsOf 3)) = some y1 := hg 1 _ rfl
    rw [cells5] at g0
    rw [cells3] at g1
    obtain ⟨z0, h0, _, w0⟩ := DataW.trod_int Try.underlying5 (g0)
    obtain ⟨z1, h1, _, w1⟩ := DataW.trod_int Try.underlying3 (g1)
    simp at h0 h1
    subst h0; subst h1
    exact ⟨z0, z1, rfl, okU8_of_wf w0, okI64_of_wf w1⟩
theorem open_args {fuel : Nat} {cs : List Value} {x : DataW H × List MemPlace} (h : DataW.trod enc Try.prog w base spare held fuel 48 cs = some x) :
    ∃ (A : Option Addr) (c : Nat) (xs : List (Int × Int)), cs = [.slice A xs.length c] ∧ ArgsAt w (.slice A xs.length c) xs ∧ okArgs xs ∧ xs.length ≤ 9223372036854775807 := by
  rcases Go.Deep.open_slice_pairs Try.underlying48 Try.underlying46 (by kernel_rfl) rfl rfl (by kernel_rfl) (by kernel_rfl) h with ⟨hcs, _⟩ | ⟨y, len, cap, m, k, V0, V1, D0, D1, P0, P1, hcs, _, hl, hm, hmm, _, hall⟩
  · exact ⟨none, 0, [], hcs, ⟨none, 0, rfl, fun h => by simp at h⟩, (fun x hx => by simp at hx), by simp⟩
  · have hlm : len ≤ m := by rw [hmm]; split <;> omega
    have each : ∀ i, i < len → ∃ q : Int × Int, V0 i = .int .u8 q.1 ∧ V1 i = .int .i64 q.2 ∧ okU8 q.1 ∧ okI64 q.2 := fun i hi => by
      obtain ⟨_, _, t0, t1⟩ := hall i (by omega)
      obtain ⟨y0, hy0, _, wy0⟩ := DataW.trod_int Try.underlying5 t0
      obtain ⟨y1, hy1, _, wy1⟩ := DataW.trod_int Try.underlying3 t1
      injection hy0 with hy0
      injection hy1 with hy1
      exact ⟨(y0, y1), hy0, hy1, okU8_of_wf wy0, okI64_of_wf wy1⟩
    obtain ⟨q, hq⟩ := Go.Deep.choose_lt each
    have hlen : ((List.range len).map q).length = len := by simp
    refine ⟨some y, cap, (List.range len).map q, by rw [hlen]; exact hcs, ⟨some y, cap, rfl, fun hp => ?_⟩, fun z hz => ?_, by rw [hlen]; unfold maxLen at hm; omega⟩
    · have hp' : 0 < len := by simpa using hp
      obtain ⟨b, off, spot⟩ := y
      have hspot : spot = none := by simpa [Addr.add] using World.cell?_spot (hall 0 (by omega)).1
      subst hspot
      refine ⟨b, off, rfl, fun i hi => ?_⟩
      have hi' : i < len := by simpa using hi
      obtain ⟨e0, e1, _, _⟩ := hall i (by omega)
      rw [Go.WideShapes.add_plain] at e0 e1
      have hg : ((List.range len).map q).getD i (0, 0) = q i := by simp [List.getD, hi']
      rw [hg, ← (hq i hi').1, ← (hq i hi').2.1]
      exact ⟨e0, by rw [← e1, Nat.add_assoc]⟩
    · obtain ⟨i, hi, rfl⟩ := List.mem_map.1 hz
      exact (hq i (List.mem_range.1 hi)).2.2
/-- What a statement's cells are. -/
structure StOk (w : World) (cs : List Value) (k a1 a2 b1 b2 : Int) (xs : List (Int × Int)) (t : Bd) : Prop where
  cells : ∃ Aa ca A c, cs = [.int .u8 k, .int .u8 a1, .int .i64 a2, .int .u8 b1, .int .i64 b2, .slice Aa xs.length ca, .slice A t.len c] ∧ ArgsAt w (.slice Aa xs.length ca) xs ∧ BodyV w A t
  nums : okU8 k ∧ okU8 a1 ∧ okI64 a2 ∧ okU8 b1 ∧ okI64 b2
  args : okArgs xs ∧ xs.length ≤ 9223372036854775807
  fit : t.fit
  len : t.len ≤ 9223372036854775807
end
end Go.Proofs.Ytpdebnecfknohaa
namespace Go.Proofs.Ytpdebnecfknohaa
open Go.RowKit
set_option linter.unusedVariables false
set_option maxRecDepth 20000
theorem own_formM {w : World} {base n : Nat} {v : Value} {xs : List Value} {e size : Nat} (h : w.ownsRow base e size v n xs) (hn : 0 < n) : ∃ q cap, v = .slice (some ⟨q, 0, none⟩) n cap ∧ base ≤ q ∧ q < w.heap.size := by
  rcases h.2 with ⟨_, h1⟩ | ⟨k, cap, cur, hv, h2, hk, _⟩
  · omega
  · exact ⟨k, cap, hv, h2, heap_ltM hk⟩
def outB (k a1 a2 b1 b2 : Int) (xs : List (Int × Int)) (n : Nat) : Bd := .cons 7 0 0 0 0 [] .nil (Bd.rep k a1 a2 b1 b2 xs n)
end Go.Proofs.Ytpdebnecfknohaa
namespace Go.Proofs.Ytpdebnecfknohaa
open Go.RowKit
set_option linter.unusedVariables false
set_option maxRecDepth 20000
theorem ArgsAt.toS {w : World} {v : Value} {l : List (Int × Int)} (h : ArgsAt w v l) : ArgsS (fun k => k < w.heap.size) w v l := by
  obtain ⟨A, c, hv, h⟩ := h
  refine ⟨A, c, hv, fun hp => ?_⟩
  obtain ⟨b, o, hA, hc⟩ := h hp
  exact ⟨b, o, hA, World.block_lt_of_cell? w ⟨b, o + 0 * 2, none⟩ (hc 0 hp).1, hc⟩
theorem BdAt.toS {w : World} : ∀ (t : Bd) (b o : Nat), BdAt w b o t → BdS (fun k => k < w.heap.size) w b o t
  | .nil, _, _, _ => trivial
  | .cons k a1 a2 b1 b2 args sub rest, b, o, h => by
    obtain ⟨h1, ⟨va, h2, h3⟩, ⟨A, c, h4, h5⟩, h6⟩ := h
    refine ⟨World.block_lt_of_cell? w ⟨b, o, none⟩ h1.1, h1, ⟨va, h2, h3.toS⟩, ⟨A, c, h4, fun hp => ?_⟩, BdAt.toS rest b _ h6⟩
    obtain ⟨b', o', hA, h7⟩ := h5 hp
    exact ⟨b', o', hA, BdAt.toS sub b' o' h7⟩
theorem BodyV.toS {w : World} {A : Option Addr} {t : Bd} (h : BodyV w A t) : BodyS (fun k => k < w.heap.size) w A t := fun hp => by
  obtain ⟨b, o, hA, h1⟩ := h hp
  exact ⟨b, o, hA, BdAt.toS t b o h1⟩
/-- The cells of references. -/
def refV : List (Int × Int) → List Value
  | [] => []
  | x :: l => .int .u8 x.1 :: .int .i64 x.2 :: refV l
theorem refV_len : ∀ l : List (Int × Int), (refV l).length = l.length * 2
  | [] => rfl
  | x :: l => by simp [refV, refV_len l]; omega
theorem refV_get : ∀ (l : List (Int × Int)) (i : Nat), i < l.length → (refV l)[i * 2]? = some (.int .u8 (l.getD i (0, 0)).1) ∧ (refV l)[i * 2 + 1]? = some (.int .i64 (l.getD i (0, 0)).2)
  | [], i, h => by simp at h
  | x :: l, 0, _ => by simp [refV]
  | x :: l, i + 1, h => by
    have := refV_get l i (by simpa using h)
    rw [show (i + 1) * 2 = i * 2 + 1 + 1 from by omega]
    simpa [refV] using this
theorem refV_one : ∀ (l : List (Int × Int)), ∀ u ∈ refV l, u.oneCell' = true
  | [], u, h => by simp [refV] at h
  | x :: l, u, h => by
    simp only [refV, List.mem_cons] at h
    rcases h with rfl | rfl | h
    · rfl
    · rfl
    · exact refV_one l u h
theorem refV_at {w : World} {b o : Nat} {l : List (Int × Int)} (hc : ∀ i, i < l.length → w.cell? ⟨b, o + i * 2, none⟩ = some (.int .u8 (l.getD i (0, 0)).1) ∧ w.cell? ⟨b, o + i * 2 + 1, none⟩ = some (.int .i64 (l.getD i (0, 0)).2)) :
    ∀ j u, (refV l)[j]? = some u → w.cell? ⟨b, o + j, none⟩ = some u := by
  intro j u hu
  have hj : j < l.length * 2 := by
    rcases Nat.lt_or_ge j (l.length * 2) with h | h
    · exact h
    · rw [List.getElem?_eq_none (by rw [refV_len]; exact h)] at hu; cases hu
  obtain ⟨f1, f2⟩ := refV_get l (j / 2) (by omega)
  obtain ⟨c1, c2⟩ := hc (j / 2) (by omega)
  rcases Nat.mod_two_eq_zero_or_one j with h | h
  · rw [show j / 2 * 2 = j from by omega] at f1 c1
    rw [c1, ← f1, hu]
  · rw [show j / 2 * 2 + 1 = j from by omega] at f2
    rw [show o + j / 2 * 2 + 1 = o + j from by omega] at c2
    rw [c2, ← f2, hu]
/-- References in a row of the call's own. -/
theorem own_argsF {w : World} {base e n c : Nat} {A : Option Addr} {l : List (Int × Int)} (hn : n = l.length) (h : w.ownsRow base e 2 (.slice A n c) n (refV l)) : ArgsS (fun k => base ≤ k) w (.slice A n c) l := by
  subst hn
  refine ⟨A, c, rfl, fun hp => ?_⟩
  obtain ⟨q, cap, hv, hb, _⟩ := own_formM h hp
  injection hv with hv1 hv2 hv3
  subst hv1 hv3
  refine ⟨q, 0, rfl, hb, fun i hi => ?_⟩
  obtain ⟨f1, f2⟩ := refV_get l i hi
  exact ⟨own_cellsM h _ _ f1, by rw [Nat.add_assoc]; exact own_cellsM h _ _ f2⟩
/-- The cells of statements, whose arguments and bodies lie in blocks of a kind. -/
def CellsB (S : Nat → Prop) (w : World) : List Value → Bd → Prop
  | cs, .nil => cs = []
  | cs, .cons k a1 a2 b1 b2 xs sub rest => ∃ va A c cr, cs = .int .u8 k :: .int .u8 a1 :: .int .i64 a2 :: .int .u8 b1 :: .int .i64 b2 :: va :: .slice A sub.len c :: cr ∧ ArgsS S w va xs ∧ BodyS S w A sub ∧ CellsB S w cr rest
theorem CellsB.len {S : Nat → Prop} {w : World} : ∀ (t : Bd) (cs : List Value), CellsB S w cs t → cs.length = t.len * 7
  | .nil, cs, h => by simp only [CellsB] at h; subst h; rfl
  | .cons k a1 a2 b1 b2 xs sub rest, cs, h => by
    obtain ⟨va, A, c, cr, rfl, _, _, hr⟩ := h
    have := CellsB.len rest cr hr
    simp [Bd.len]; omega
theorem CellsB.one {S : Nat → Prop} {w : World} : ∀ (t : Bd) (cs : List Value), CellsB S w cs t → ∀ u ∈ cs, u.oneCell' = true
  | .nil, cs, h => by simp only [CellsB] at h; subst h; simp
  | .cons k a1 a2 b1 b2 xs sub rest, cs, h => by
    obtain ⟨va, A, c, cr, rfl, ⟨Aa, ca, rfl, _⟩, _, hr⟩ := h
    intro u hu
    simp only [List.mem_cons] at hu
    rcases hu with rfl | rfl | rfl | rfl | rfl | rfl | rfl | hu
    all_goals first | rfl | exact CellsB.one rest cr hr u hu
theorem CellsB.kept {S S' : Nat → Prop} {w w' : World} (hk : Kept S w w') (hS : ∀ k, S k → k < w.heap.size → S' k) : ∀ (t : Bd) (cs : List Value), CellsB S w cs t → CellsB S' w' cs t
  | .nil, cs, h => h
  | .cons k a1 a2 b1 b2 xs sub rest, cs, h => by
    obtain ⟨va, A, c, cr, rfl, ha, hb, hr⟩ := h
    exact ⟨va, A, c, cr, rfl, ha.kept hk hS, hb.kept hk hS, CellsB.kept hk hS rest cr hr⟩
theorem BdS.cells {S : Nat → Prop} {w : World} : ∀ (t : Bd) (b o : Nat), BdS S w b o t → ∃ cs, CellsB S w cs t ∧ ∀ j u, cs[j]? = some u → w.cell? ⟨b, o + j, none⟩ = some u
  | .nil, b, o, _ => ⟨[], rfl, fun j u h => by simp at h⟩
  | .cons k a1 a2 b1 b2 xs sub rest, b, o, h => by
    obtain ⟨hS, ⟨h0, h1, h2, h3, h4⟩, ⟨va, h5, ha⟩, ⟨A, c, h6, hb⟩, hr⟩ := h
    obtain ⟨cr, hcr, hat⟩ := BdS.cells rest b (o + 7) hr
    refine ⟨_, ⟨va, A, c, cr, rfl, ha, hb, hcr⟩, fun j u hj => ?_⟩
    match j, hj with
    | 0, hj => simp at hj; subst hj; exact h0
    | 1, hj => simp at hj; subst hj; exact h1
    | 2, hj => simp at hj; subst hj; exact h2
    | 3, hj => simp at hj; subst hj; exact h3
    | 4, hj => simp at hj; subst hj; exact h4
    | 5, hj => simp at hj; subst hj; exact h5
    | 6, hj => simp at hj; subst hj; exact h6
    | j + 7, hj =>
      simp at hj
      have := hat j u hj
      rwa [show o + 7 + j = o + (j + 7) from by omega] at this
theorem CellsB.body {S : Nat → Prop} {w : World} : ∀ (t : Bd) (cs : List Value) (b o : Nat), CellsB S w cs t → S b → (∀ j u, cs[j]? = some u → w.cell? ⟨b, o + j, none⟩ = some u) → BdS S w b o t
  | .nil, cs, b, o, _, _, _ => trivial
  | .cons k a1 a2 b1 b2 xs sub rest, cs, b, o, h, hS, hat => by
    obtain ⟨va, A, c, cr, rfl, ha, hb, hr⟩ := h
    refine ⟨hS, ⟨hat 0 _ rfl, hat 1 _ rfl, hat 2 _ rfl, hat 3 _ rfl, hat 4 _ rfl⟩, ⟨va, hat 5 _ rfl, ha⟩, ⟨A, c, hat 6 _ rfl, hb⟩, CellsB.body rest cr b (o + 7) hr hS fun j u hj => ?_⟩
    have := hat (j + 7) u (by simpa using hj)
    rwa [show o + (j + 7) = o + 7 + j from by omega] at this
/-- Statements in a row of the call's own. -/
theorem own_body {S : Nat → Prop} {w : World} {base e n c : Nat} {A : Option Addr} {cs : List Value} {t : Bd} (hn : n = t.len) (h : w.ownsRow base e 7 (.slice A n c) n cs) (hc : CellsB S w cs t) (hS : ∀ k, base ≤ k → S k) : BodyS S w A t := by
  subst hn
  intro hp
  obtain ⟨q, cap, hv, hb, _⟩ := own_formM h hp
  injection hv with hv1 hv2 hv3
  subst hv1 hv3
  exact ⟨q, 0, rfl, CellsB.body t cs q 0 hc (hS q hb) fun j u hj => own_cellsM h j u hj⟩
theorem own_slice {w : World} {base e size n : Nat} {v : Value} {xs : List Value} (h : w.ownsRow base e size v n xs) : ∃ A c, v = .slice A n c := by
  rcases h.2 with ⟨rfl, rfl⟩ | ⟨q, cap, cur, rfl, _⟩
  · exact ⟨none, 0, rfl⟩
  · exact ⟨_, _, rfl⟩
set_option maxRecDepth 20000 in
set_option maxHeartbeats 1000000 in
theorem cloneR_any (Aa : Option Addr) (ca : Nat) (xs : List (Int × Int)) (w : World) (h : ArgsAt w (.slice Aa xs.length ca) xs) (hl : xs.length ≤ 1000000000) :
    Calls Try.prog 65 #[.slice Aa xs.length ca] w fun e w' => ∃ A c, e = .returned (.slice A xs.length c) ∧ ArgsS (fun k => w.heap.size ≤ k) w' (.slice A xs.length c) xs ∧ Below w.heap.size w w' := by
  obtain ⟨i0, hi0, hz0, hz1, hz2⟩ := info_parts info46
  obtain ⟨A', c', hv, h⟩ := h
  injection hv with hv1 hv2 hv3
  subst hv1 hv3
  clear hv2
  obtain ⟨n, hnl⟩ : ∃ n, n = xs.length := ⟨_, rfl⟩
  have HFL : Hid ((refV xs).length = n * 2) := by show _ = _; rw [refV_len, hnl]
  have HNL := Lib.hid hnl
  cases Aa with
  | none =>
    have h0 : xs = [] := by
      rcases Nat.eq_zero_or_pos xs.length with h0 | h0
      · exact List.eq_nil_of_length_eq_zero h0
      · obtain ⟨b, o, hA, _⟩ := h h0; cases hA
    subst h0
    clear h
    have hq := fun W => Lib.run_eql_slice_nil (P := Try.prog) W 48 46 none 0 ca 0 0 Try.underlying48
    simp only [List.length_nil]
    go_enter Try.func65, Try.ntmps65
    go_wp2
    go_ret
    exact ⟨none, 0, rfl, ⟨none, 0, rfl, fun hp => by simp at hp⟩, Below.refl _ _⟩
  | some a =>
    have hcc : ∀ j u, (refV xs)[j]? = some u → w.cell? (a.add j) = some u := by
      intro j u hu
      have hp : 0 < xs.length := by
        rcases Nat.eq_zero_or_pos xs.length with h0 | h0
        · have : xs = [] := List.eq_nil_of_length_eq_zero h0
          subst this; simp [refV] at hu
        · exact h0
      obtain ⟨b, o, hA, hc⟩ := h hp
      injection hA with hA
      subst hA
      rw [Go.WideShapes.add_plain]
      exact refV_at hc j u hu
    have HF := Lib.hid hcc
    rw [← hnl] at hl ⊢
    clear hcc h hnl
    have hq := fun W => Lib.run_eql_slice_nil (P := Try.prog) W 48 46 (some a) n ca 0 0 Try.underlying48
    go_enter Try.func65, Try.ntmps65
    go_wp2_with (first | (at_builtin; refine wpList_append_own_at _ rfl (.tmp 5) (.tmp 6) 48 rfl w.heap.size 46 i0 (.agg #[.int .u8 0, .int .i64 0]) 2 16 Try.underlying48 hi0 hz0 hz1 hz2 rfl (by decide) (.slice (some ⟨w.heap.size, 0, none⟩) 0 0) 0 [] rfl ?d1 a n ca (refV xs) rfl ?c1 ?c2 ?c3 ?c4 ?c5 ?c6 ?_))
    case d1 => exact World.ownsRow_made w #[] 0 (Nat.le_refl _) (by unfold maxLen; omega) rfl
    case c1 => exact HFL.out
    case c2 =>
      intro j u hu
      have := HF.out j u hu
      rw [World.cell?_alloc_lt w _ _ (World.block_lt_of_cell? w _ this)]
      exact this
    case c3 => exact refV_one xs
    case c4 => unfold maxLen; omega
    case c5 => omega
    case c6 => simp
    intro v' w1 hown hg _ hat
    have hown' : w1.ownsRow w.heap.size 46 2 v' n (refV xs) := by simpa using hown
    obtain ⟨A, c, rfl⟩ := own_slice hown'
    have HO := Lib.hid hown'
    have HB := Lib.hid (((Below.refl w.heap.size w).alloc (Nat.le_refl _) (.cells #[] 46)).grown hg (by simp) (fun k hk => by simp [Value.ownBlock] at hk; omega))
    clear hown hown' hg hat
    go_wp2
    go_ret
    exact ⟨A, c, rfl, own_argsF HNL.out HO.out, HB.out⟩
set_option maxRecDepth 20000 in
set_option maxHeartbeats 1000000 in
theorem cloneS_any (S : Nat → Prop) (Ab : Option Addr) (cb : Nat) (t : Bd) (w : World) (h : BodyS S w Ab t) (hl : t.len ≤ 1000000000) :
    Calls Try.prog 66 #[.slice Ab t.len cb] w fun e w' => ∃ A c, e = .returned (.slice A t.len c) ∧ (∃ cs, w'.ownsRow w.heap.size 50 7 (.slice A t.len c) t.len cs ∧ CellsB S w cs t) ∧ Below w.heap.size w w' := by
  obtain ⟨i0, hi0, hz0, hz1, hz2⟩ := info_parts info50
  obtain ⟨n, hnl⟩ : ∃ n, n = t.len := ⟨_, rfl⟩
  have HNL := Lib.hid hnl
  cases Ab with
  | none =>
    have h0 : t.len = 0 := by
      rcases Nat.eq_zero_or_pos t.len with h0 | h0
      · exact h0
      · obtain ⟨b, o, hA, _⟩ := h h0; cases hA
    have ht : t = .nil := by cases t with | nil => rfl | cons => simp [Bd.len] at h0
    subst ht
    clear h
    have hq := fun W => Lib.run_eql_slice_nil (P := Try.prog) W 38 50 none 0 cb 0 0 Try.underlying38
    simp only [Bd.len]
    go_enter Try.func66, Try.ntmps66
    go_wp2
    go_ret
    exact ⟨none, 0, rfl, ⟨[], World.ownsRow_nil _ _ _ _, rfl⟩, Below.refl _ _⟩
  | some a =>
    obtain ⟨cs, hcs, hcc⟩ : ∃ cs, CellsB S w cs t ∧ ∀ j u, cs[j]? = some u → w.cell? (a.add j) = some u := by
      rcases Nat.eq_zero_or_pos t.len with h0 | h0
      · have ht : t = .nil := by cases t with | nil => rfl | cons => simp [Bd.len] at h0
        subst ht
        exact ⟨[], rfl, fun j u hj => by simp at hj⟩
      · obtain ⟨b, o, hA, hb⟩ := h h0
        injection hA with hA
        subst hA
        obtain ⟨cs, h1, h2⟩ := BdS.cells t b o hb
        exact ⟨cs, h1, fun j u hj => by rw [Go.WideShapes.add_plain]; exact h2 j u hj⟩
    have HF := Lib.hid hcc
    have HCS := Lib.hid hcs
    have HFL : Hid (cs.length = n * 7) := by show _ = _; rw [CellsB.len t cs hcs, hnl]
    rw [← hnl] at hl ⊢
    clear hcc h hnl hcs
    have hq := fun W => Lib.run_eql_slice_nil (P := Try.prog) W 38 50 (some a) n cb 0 0 Try.underlying38
    go_enter Try.func66, Try.ntmps66
    go_wp2_with (first | (at_builtin; refine wpList_append_own_at _ rfl (.tmp 5) (.tmp 6) 38 rfl w.heap.size 50 i0 (.agg #[.int .u8 0, .int .u8 0, .int .i64 0, .int .u8 0, .int .i64 0, .slice none 0 0, .slice none 0 0]) 7 88 Try.underlying38 hi0 hz0 hz1 hz2 rfl (by decide) (.slice (some ⟨w.heap.size, 0, none⟩) 0 0) 0 [] rfl ?d1 a n cb cs rfl ?c1 ?c2 ?c3 ?c4 ?c5 ?c6 ?_))
    case d1 => exact World.ownsRow_made w #[] 0 (Nat.le_refl _) (by unfold maxLen; omega) rfl
    case c1 => exact HFL.out
    case c2 =>
      intro j u hu
      have := HF.out j u hu
      rw [World.cell?_alloc_lt w _ _ (World.block_lt_of_cell? w _ this)]
      exact this
    case c3 => exact CellsB.one t cs HCS.out
    case c4 => unfold maxLen; omega
    case c5 => omega
    case c6 => simp
    intro v' w1 hown hg _ hat
    have hown' : w1.ownsRow w.heap.size 50 7 v' n cs := by simpa using hown
    obtain ⟨A, c, rfl⟩ := own_slice hown'
    have HO := Lib.hid hown'
    have HB := Lib.hid (((Below.refl w.heap.size w).alloc (Nat.le_refl _) (.cells #[] 50)).grown hg (by simp) (fun k hk => by simp [Value.ownBlock] at hk; omega))
    clear hown hown' hg hat
    go_wp2
    go_ret
    exact ⟨A, c, rfl, ⟨cs, HO.out, HCS.out⟩, HB.out⟩
end Go.Proofs.Ytpdebnecfknohaa
namespace Go.Proofs.Ytpdebnecfknohaa
open Go.RowKit
set_option linter.unusedVariables false
set_option maxRecDepth 20000
/-- A slice's first m cells a place are copied, in another world. -/
def Copied (m : Nat) (W W' : World) (A : Option Addr) (n : Nat) (A' : Option Addr) : Prop := 0 < n → ∀ b o, A = some ⟨b, o, none⟩ → ∃ b' o', A' = some ⟨b', o', none⟩ ∧ ∀ j u, j < n * m → W.cell? ⟨b, o + j, none⟩ = some u → W'.cell? ⟨b', o' + j, none⟩ = some u
/-- One statement's two lists are copies now; all else is as it was. -/
structure Swap (W W' : World) (q p : Nat) : Prop where
  ints : ∀ b o k x, W.cell? ⟨b, o, none⟩ = some (.int k x) → W'.cell? ⟨b, o, none⟩ = some (.int k x)
  rest : ∀ b o A n c, W.cell? ⟨b, o, none⟩ = some (.slice A n c) → ¬ (b = q ∧ (o = p + 5 ∨ o = p + 6)) → W'.cell? ⟨b, o, none⟩ = some (.slice A n c)
  args : ∃ A n c A' c' xs, W.cell? ⟨q, p + 5, none⟩ = some (.slice A n c) ∧ W'.cell? ⟨q, p + 5, none⟩ = some (.slice A' n c') ∧ ArgsAt W (.slice A n c) xs ∧ Copied 2 W W' A n A'
  body : ∃ A n c A' c', W.cell? ⟨q, p + 6, none⟩ = some (.slice A n c) ∧ W'.cell? ⟨q, p + 6, none⟩ = some (.slice A' n c') ∧ Copied 7 W W' A n A'
variable {W W' : World} {q p : Nat}
theorem Swap.argsAt (h : Swap W W' q p) {v : Value} {xs : List (Int × Int)} (ha : ArgsAt W v xs) : ArgsAt W' v xs := by
  obtain ⟨A, c, rfl, ha⟩ := ha
  refine ⟨A, c, rfl, fun hp => ?_⟩
  obtain ⟨b, o, hA, hc⟩ := ha hp
  exact ⟨b, o, hA, fun i hi => ⟨h.ints _ _ _ _ (hc i hi).1, h.ints _ _ _ _ (hc i hi).2⟩⟩
theorem copied_args {A A' : Option Addr} {n c c' m : Nat} {xs : List (Int × Int)} (hm : 2 ≤ m) (hc : Copied m W W' A n A') (ha : ArgsAt W (.slice A n c) xs) : ArgsAt W' (.slice A' n c') xs := by
  obtain ⟨A0, c0, hv, ha⟩ := ha
  injection hv with hv1 hv2 hv3
  subst hv1 hv2
  refine ⟨A', c', rfl, fun hp => ?_⟩
  obtain ⟨b, o, hA, hx⟩ := ha hp
  obtain ⟨b', o', hA', hcp⟩ := hc hp b o hA
  refine ⟨b', o', hA', fun i hi => ?_⟩
  have h1 : i * 2 + 1 < xs.length * m := by
    have : xs.length * 2 ≤ xs.length * m := Nat.mul_le_mul_left _ hm
    omega
  refine ⟨hcp (i * 2) _ (by omega) (hx i hi).1, ?_⟩
  rw [Nat.add_assoc]
  exact hcp (i * 2 + 1) _ h1 (by rw [← Nat.add_assoc]; exact (hx i hi).2)
/-- Cells of statements, from one place to another one. -/
def CpB (W W' : World) (q p b o b' o' n : Nat) : Prop := ∀ i, i < n → (∀ j k x, j < 5 → W.cell? ⟨b, o + i * 7 + j, none⟩ = some (.int k x) → W'.cell? ⟨b', o' + i * 7 + j, none⟩ = some (.int k x)) ∧
  (∀ A m c, W.cell? ⟨b, o + i * 7 + 5, none⟩ = some (.slice A m c) → ∃ A' c', W'.cell? ⟨b', o' + i * 7 + 5, none⟩ = some (.slice A' m c') ∧ (A' = A ∧ c' = c ∨ Copied 2 W W' A m A')) ∧
  (∀ A m c, W.cell? ⟨b, o + i * 7 + 6, none⟩ = some (.slice A m c) → ∃ A' c', W'.cell? ⟨b', o' + i * 7 + 6, none⟩ = some (.slice A' m c') ∧ (A' = A ∨ Copied 7 W W' A m A' ∨ ∃ xs, ArgsAt W (.slice A m c) xs))
theorem CpB.shift {b o b' o' n : Nat} (h : CpB W W' q p b o b' o' (n + 1)) : CpB W W' q p b (o + 7) b' (o' + 7) n := fun i hi => by
  have := h (i + 1) (by omega)
  rw [show o + 7 + i * 7 = o + (i + 1) * 7 from by omega, show o' + 7 + i * 7 = o' + (i + 1) * 7 from by omega]
  exact this
theorem Swap.here (h : Swap W W' q p) (b o n : Nat) : CpB W W' q p b o b o n := fun i hi => by
  obtain ⟨A5, n5, c5, A5', c5', xs5, g1, g2, g3, g4⟩ := h.args
  obtain ⟨A6, n6, c6, A6', c6', k1, k2, k3⟩ := h.body
  refine ⟨fun j k x _ hx => h.ints _ _ _ _ hx, fun A m c hx => ?_, fun A m c hx => ?_⟩
  · by_cases hq : b = q ∧ (o + i * 7 + 5 = p + 5 ∨ o + i * 7 + 5 = p + 6)
    · obtain ⟨rfl, hq | hq⟩ := hq
      · rw [hq] at hx ⊢
        rw [hx] at g1
        injection g1 with g1
        injection g1 with e1 e2 e3
        subst e1 e2 e3
        exact ⟨A5', c5', g2, .inr g4⟩
      · rw [hq] at hx ⊢
        rw [hx] at k1
        injection k1 with k1
        injection k1 with e1 e2 e3
        subst e1 e2 e3
        refine ⟨A6', c6', k2, .inr fun hp b2 o2 hA => ?_⟩
        obtain ⟨b', o', hA', hc⟩ := k3 hp b2 o2 hA
        exact ⟨b', o', hA', fun j u hj hu => hc j u (by omega) hu⟩
    · exact ⟨A, c, h.rest _ _ _ _ _ hx hq, .inl ⟨rfl, rfl⟩⟩
  · by_cases hq : b = q ∧ (o + i * 7 + 6 = p + 5 ∨ o + i * 7 + 6 = p + 6)
    · obtain ⟨rfl, hq | hq⟩ := hq
      · rw [hq] at hx ⊢
        rw [hx] at g1
        injection g1 with g1
        injection g1 with e1 e2 e3
        subst e1 e2 e3
        exact ⟨A5', c5', g2, .inr (.inr ⟨xs5, g3⟩)⟩
      · rw [hq] at hx ⊢
        rw [hx] at k1
        injection k1 with k1
        injection k1 with e1 e2 e3
        subst e1 e2 e3
        exact ⟨A6', c6', k2, .inr (.inl k3)⟩
    · exact ⟨A, c, h.rest _ _ _ _ _ hx hq, .inl rfl⟩
theorem Swap.bdAt (h : Swap W W' q p) (N : Nat) : ∀ (t : Bd) (b o b' o' : Nat), t.size ≤ N → BdAt W b o t → CpB W W' q p b o b' o' t.len → BdAt W' b' o' t := by
  induction N with
  | zero =>
    intro t b o b' o' hN _ _
    cases t with
    | nil => trivial
    | cons => simp [Bd.size] at hN
  | succ N ih =>
    intro t b o b' o' hN ht hc
    cases t with
    | nil => trivial
    | cons k a1 a2 b1 b2 xs sub rest =>
      obtain ⟨⟨h0, h1, h2, h3, h4⟩, ⟨va, h5, ha⟩, ⟨A, c, h6, hs⟩, hr⟩ := ht
      simp only [Bd.size] at hN
      obtain ⟨e0, e5, e6⟩ := hc 0 (by simp [Bd.len])
      simp only [Nat.zero_mul, Nat.add_zero] at e0 e5 e6
      obtain ⟨Aa, ca, rfl, ha'⟩ := ha
      have haa : ArgsAt W (.slice Aa xs.length ca) xs := ⟨Aa, ca, rfl, ha'⟩
      obtain ⟨Aa', ca', g5, hg5⟩ := e5 _ _ _ h5
      obtain ⟨A', c', g6, hg6⟩ := e6 _ _ _ h6
      refine ⟨⟨e0 0 _ _ (by omega) h0, e0 1 _ _ (by omega) h1, e0 2 _ _ (by omega) h2, e0 3 _ _ (by omega) h3, e0 4 _ _ (by omega) h4⟩, ⟨_, g5, ?_⟩, ⟨A', c', g6, fun hp => ?_⟩, ih rest b (o + 7) b' (o' + 7) (by omega) hr (CpB.shift hc)⟩
      · rcases hg5 with ⟨rfl, rfl⟩ | hg5
        · exact h.argsAt haa
        · exact copied_args (Nat.le_refl _) hg5 haa
      · obtain ⟨bs, os, hA, hbs⟩ := hs hp
        rcases hg6 with rfl | hg6 | ⟨ys, hys⟩
        · exact ⟨bs, os, hA, ih sub bs os bs os (by omega) hbs (h.here bs os sub.len)⟩
        · obtain ⟨b2, o2, hA2, hcp⟩ := hg6 hp bs os hA
          refine ⟨b2, o2, hA2, ih sub bs os b2 o2 (by omega) hbs fun i hi => ⟨fun j k x hj hx => ?_, fun A m c hx => ⟨A, c, ?_, .inl ⟨rfl, rfl⟩⟩, fun A m c hx => ⟨A, c, ?_, .inl rfl⟩⟩⟩
          · rw [Nat.add_assoc]; exact hcp (i * 7 + j) _ (by omega) (by rw [← Nat.add_assoc]; exact hx)
          · rw [Nat.add_assoc]; exact hcp (i * 7 + 5) _ (by omega) (by rw [← Nat.add_assoc]; exact hx)
          · rw [Nat.add_assoc]; exact hcp (i * 7 + 6) _ (by omega) (by rw [← Nat.add_assoc]; exact hx)
        · exfalso
          obtain ⟨A0, c0, hv, hy⟩ := hys
          injection hv with hv1 hv2 hv3
          subst hv1
          rw [hv2] at hp
          obtain ⟨b2, o2, hA2, hcy⟩ := hy hp
          rw [hA] at hA2
          injection hA2 with hA2
          injection hA2 with e1 e2
          subst e1 e2
          have hi := (hcy 0 hp).2
          cases sub with
          | nil => simp [Bd.len] at hv2; omega
          | cons k2 x1 x2 y1 y2 zs s2 r2 =>
            have hj := hbs.1.2.1
            simp only [Nat.zero_mul, Nat.add_zero] at hi
            rw [hi] at hj
            injection hj with hj
            injection hj with hj
            cases hj
end Go.Proofs.Ytpdebnecfknohaa
namespace Go.Proofs.Ytpdebnecfknohaa
open Go.RowKit
set_option linter.unusedVariables false
set_option maxRecDepth 20000
set_option maxRecDepth 20000 in
set_option maxHeartbeats 1000000 in
theorem cloneS2_any (S : Nat → Prop) (Ab : Option Addr) (cb : Nat) (t : Bd) (w : World) (h : BodyS S w Ab t) (hl : t.len ≤ 1000000000) :
    Calls Try.prog 66 #[.slice Ab t.len cb] w fun e w' => ∃ A c, e = .returned (.slice A t.len c) ∧ (∃ cs, w'.ownsRow w.heap.size 50 7 (.slice A t.len c) t.len cs ∧ CellsB S w cs t ∧ (∀ a, Ab = some a → ∀ j u, cs[j]? = some u → w.cell? (a.add j) = some u)) ∧ Below w.heap.size w w' := by
  obtain ⟨i0, hi0, hz0, hz1, hz2⟩ := info_parts info50
  obtain ⟨n, hnl⟩ : ∃ n, n = t.len := ⟨_, rfl⟩
  have HNL := Lib.hid hnl
  cases Ab with
  | none =>
    have h0 : t.len = 0 := by
      rcases Nat.eq_zero_or_pos t.len with h0 | h0
      · exact h0
      · obtain ⟨b, o, hA, _⟩ := h h0; cases hA
    have ht : t = .nil := by cases t with | nil => rfl | cons => simp [Bd.len] at h0
    subst ht
    clear h
    have hq := fun W => Lib.run_eql_slice_nil (P := Try.prog) W 38 50 none 0 cb 0 0 Try.underlying38
    simp only [Bd.len]
    go_enter Try.func66, Try.ntmps66
    go_wp2
    go_ret
    exact ⟨none, 0, rfl, ⟨[], World.ownsRow_nil _ _ _ _, rfl, fun a h => by cases h⟩, Below.refl _ _⟩
  | some a =>
    obtain ⟨cs, hcs, hcc⟩ : ∃ cs, CellsB S w cs t ∧ ∀ j u, cs[j]? = some u → w.cell? (a.add j) = some u := by
      rcases Nat.eq_zero_or_pos t.len with h0 | h0
      · have ht : t = .nil := by cases t with | nil => rfl | cons => simp [Bd.len] at h0
        subst ht
        exact ⟨[], rfl, fun j u hj => by simp at hj⟩
      · obtain ⟨b, o, hA, hb⟩ := h h0
        injection hA with hA
        subst hA
        obtain ⟨cs, h1, h2⟩ := BdS.cells t b o hb
        exact ⟨cs, h1, fun j u hj => by rw [Go.WideShapes.add_plain]; exact h2 j u hj⟩
    have HF := Lib.hid hcc
    have HCS := Lib.hid hcs
    have HFL : Hid (cs.length = n * 7) := by show _ = _; rw [CellsB.len t cs hcs, hnl]
    rw [← hnl] at hl ⊢
    clear hcc h hnl hcs
    have hq := fun W => Lib.run_eql_slice_nil (P := Try.prog) W 38 50 (some a) n cb 0 0 Try.underlying38
    go_enter Try.func66, Try.ntmps66
    go_wp2_with (first | (at_builtin; refine wpList_append_own_at _ rfl (.tmp 5) (.tmp 6) 38 rfl w.heap.size 50 i0 (.agg #[.int .u8 0, .int .u8 0, .int .i64 0, .int .u8 0, .int .i64 0, .slice none 0 0, .slice none 0 0]) 7 88 Try.underlying38 hi0 hz0 hz1 hz2 rfl (by decide) (.slice (some ⟨w.heap.size, 0, none⟩) 0 0) 0 [] rfl ?d1 a n cb cs rfl ?c1 ?c2 ?c3 ?c4 ?c5 ?c6 ?_))
    case d1 => exact World.ownsRow_made w #[] 0 (Nat.le_refl _) (by unfold maxLen; omega) rfl
    case c1 => exact HFL.out
    case c2 =>
      intro j u hu
      have := HF.out j u hu
      rw [World.cell?_alloc_lt w _ _ (World.block_lt_of_cell? w _ this)]
      exact this
    case c3 => exact CellsB.one t cs HCS.out
    case c4 => unfold maxLen; omega
    case c5 => omega
    case c6 => simp
    intro v' w1 hown hg _ hat
    have hown' : w1.ownsRow w.heap.size 50 7 v' n cs := by simpa using hown
    obtain ⟨A, c, rfl⟩ := own_slice hown'
    have HO := Lib.hid hown'
    have HB := Lib.hid (((Below.refl w.heap.size w).alloc (Nat.le_refl _) (.cells #[] 50)).grown hg (by simp) (fun k hk => by simp [Value.ownBlock] at hk; omega))
    clear hown hown' hg hat
    go_wp2
    go_ret
    exact ⟨A, c, rfl, ⟨cs, HO.out, HCS.out, fun a' h => by injection h with h; subst h; exact HF.out⟩, HB.out⟩
theorem Swap.of {W W5 W' : World} {q p : Nat} {k a1 a2 b1 b2 : Int} {Aa As A1 A4 : Option Addr} {ca cs c1 c4 : Nat} {xs : List (Int × Int)} {sub : Bd} (hb : Below W.heap.size W W5)
    (h0 : W.cell? ⟨q, p, none⟩ = some (.int .u8 k)) (h1 : W.cell? ⟨q, p + 1, none⟩ = some (.int .u8 a1)) (h2 : W.cell? ⟨q, p + 2, none⟩ = some (.int .i64 a2)) (h3 : W.cell? ⟨q, p + 3, none⟩ = some (.int .u8 b1)) (h4 : W.cell? ⟨q, p + 4, none⟩ = some (.int .i64 b2)) (h5 : W.cell? ⟨q, p + 5, none⟩ = some (.slice Aa xs.length ca)) (h6 : W.cell? ⟨q, p + 6, none⟩ = some (.slice As sub.len cs))
    (hfar : ∀ a : Addr, a.block ≠ q → W'.cell? a = W5.cell? a) (hsame : ∀ o, (∀ j, j < 7 → o ≠ p + j) → W'.cell? ⟨q, o, none⟩ = W5.cell? ⟨q, o, none⟩)
    (g0 : W'.cell? ⟨q, p, none⟩ = some (.int .u8 k)) (g1 : W'.cell? ⟨q, p + 1, none⟩ = some (.int .u8 a1)) (g2 : W'.cell? ⟨q, p + 2, none⟩ = some (.int .i64 a2)) (g3 : W'.cell? ⟨q, p + 3, none⟩ = some (.int .u8 b1)) (g4 : W'.cell? ⟨q, p + 4, none⟩ = some (.int .i64 b2)) (g5 : W'.cell? ⟨q, p + 5, none⟩ = some (.slice A1 xs.length c1)) (g6 : W'.cell? ⟨q, p + 6, none⟩ = some (.slice A4 sub.len c4))
    (ha : ArgsAt W (.slice Aa xs.length ca) xs) (hA : ArgsS (fun k => k ≠ q) W5 (.slice A1 xs.length c1) xs)
    {csb : List Value} {base : Nat} (hO : W5.ownsRow base 50 7 (.slice A4 sub.len c4) sub.len csb) (hbase : q < base) (hl : csb.length = sub.len * 7) (hcc : ∀ a, As = some a → ∀ j u, csb[j]? = some u → W.cell? (a.add j) = some u) : Swap W W' q p := by
  have key : ∀ b o u, W.cell? ⟨b, o, none⟩ = some u → ¬ (b = q ∧ (o = p + 5 ∨ o = p + 6)) → W'.cell? ⟨b, o, none⟩ = some u := fun b o u hu hne => by
    have hlt := World.block_lt_of_cell? W ⟨b, o, none⟩ hu
    have hu5 := cell_old hb hlt hu
    by_cases hq : b = q
    · subst hq
      by_cases hj : ∀ j, j < 7 → o ≠ p + j
      · rw [hsame o hj]; exact hu5
      · obtain ⟨j, hj⟩ := Classical.not_forall.1 hj
        obtain ⟨hj7, hoj⟩ := Classical.not_imp.1 hj
        have hoj : o = p + j := Classical.not_not.1 hoj
        subst hoj
        match j, hj7 with
        | 0, _ => rw [Nat.add_zero] at hu ⊢; rw [hu] at h0; injection h0 with e; rw [e]; exact g0
        | 1, _ => rw [hu] at h1; injection h1 with e; rw [e]; exact g1
        | 2, _ => rw [hu] at h2; injection h2 with e; rw [e]; exact g2
        | 3, _ => rw [hu] at h3; injection h3 with e; rw [e]; exact g3
        | 4, _ => rw [hu] at h4; injection h4 with e; rw [e]; exact g4
        | 5, _ => exact absurd ⟨rfl, .inl rfl⟩ hne
        | 6, _ => exact absurd ⟨rfl, .inr rfl⟩ hne
    · rw [hfar _ hq]; exact hu5
  refine ⟨fun b o k' x hx => key b o _ hx (fun ⟨e1, e2⟩ => ?_), fun b o A n c hx hne => key b o _ hx hne, ⟨Aa, xs.length, ca, A1, c1, xs, h5, g5, ha, fun hp b o hA1 => ?_⟩, ⟨As, sub.len, cs, A4, c4, h6, g6, fun hp b o hA4 => ?_⟩⟩
  · subst e1
    rcases e2 with rfl | rfl
    · rw [h5] at hx; cases hx
    · rw [h6] at hx; cases hx
  · obtain ⟨A0, c0, hv, hx⟩ := hA
    injection hv with hv1 hv2 hv3
    subst hv1
    obtain ⟨b', o', hA', hne, hc'⟩ := hx hp
    refine ⟨b', o', hA', fun j u hj hu => ?_⟩
    obtain ⟨A2, c2, hv, hy⟩ := ha
    injection hv with hv1 hv2 hv3
    subst hv1
    obtain ⟨b2, o2, hA2, hc2⟩ := hy hp
    rw [hA1] at hA2
    injection hA2 with hA2
    injection hA2 with e1 e2
    subst e1 e2
    rw [hfar _ hne]
    have hd : ∀ (Z : World) (bz oz : Nat), (∀ i, i < xs.length → Z.cell? ⟨bz, oz + i * 2, none⟩ = some (.int .u8 (xs.getD i (0, 0)).1) ∧ Z.cell? ⟨bz, oz + i * 2 + 1, none⟩ = some (.int .i64 (xs.getD i (0, 0)).2)) → ∃ v, (refV xs)[j]? = some v ∧ Z.cell? ⟨bz, oz + j, none⟩ = some v := fun Z bz oz hz => by
      have hjl : j < (refV xs).length := by rw [refV_len]; exact hj
      exact ⟨_, List.getElem?_eq_getElem hjl, refV_at hz j _ (List.getElem?_eq_getElem hjl)⟩
    obtain ⟨v1, hv1, hz1⟩ := hd W b o hc2
    obtain ⟨v2, hv2, hz2⟩ := hd W5 b' o' hc'
    rw [hv1] at hv2
    injection hv2 with hv2
    rw [hz1] at hu
    injection hu with hu
    rw [hz2, ← hv2, hu]
  · obtain ⟨q4, cap, hv, hb4, _⟩ := own_formM hO hp
    injection hv with hv1 _ hv3
    subst hv1 hv3
    refine ⟨q4, 0, rfl, fun j u hj hu => ?_⟩
    have hjl : j < csb.length := by rw [hl]; exact hj
    have h1 := hcc _ hA4 j _ (List.getElem?_eq_getElem hjl)
    rw [Go.WideShapes.add_plain, hu] at h1
    rw [hfar _ (by show q4 ≠ q; omega), own_cellsM hO j _ (List.getElem?_eq_getElem hjl)]
    exact h1.symm
end Go.Proofs.Ytpdebnecfknohaa
namespace Go.Proofs.Ytpdebnecfknohaa
open Go.RowKit
set_option linter.unusedVariables false
set_option maxRecDepth 20000
theorem BdS.inS {S : Nat → Prop} {W : World} {b o : Nat} {t : Bd} (hp : 0 < t.len) (h : BdS S W b o t) : S b := by
  cases t with
  | nil => simp [Bd.len] at hp
  | cons => exact h.1
/-- A slice's first m cells a place are copied, in another world. -/
def CopiedS (S' : Nat → Prop) (m : Nat) (W W' : World) (A : Option Addr) (n : Nat) (A' : Option Addr) : Prop := 0 < n → ∀ b o, A = some ⟨b, o, none⟩ → ∃ b' o', A' = some ⟨b', o', none⟩ ∧ S' b' ∧ ∀ j u, j < n * m → W.cell? ⟨b, o + j, none⟩ = some u → W'.cell? ⟨b', o' + j, none⟩ = some u
/-- One statement's two lists are copies now; all else is as it was. -/
structure SwapS (S S' : Nat → Prop) (W W' : World) (q p : Nat) : Prop where
  mono : ∀ k, S k → S' k
  ints : ∀ b o k x, W.cell? ⟨b, o, none⟩ = some (.int k x) → W'.cell? ⟨b, o, none⟩ = some (.int k x)
  rest : ∀ b o A n c, W.cell? ⟨b, o, none⟩ = some (.slice A n c) → ¬ (b = q ∧ (o = p + 5 ∨ o = p + 6)) → W'.cell? ⟨b, o, none⟩ = some (.slice A n c)
  args : ∃ A n c A' c' xs, W.cell? ⟨q, p + 5, none⟩ = some (.slice A n c) ∧ W'.cell? ⟨q, p + 5, none⟩ = some (.slice A' n c') ∧ ArgsAt W (.slice A n c) xs ∧ CopiedS S' 2 W W' A n A'
  body : ∃ A n c A' c', W.cell? ⟨q, p + 6, none⟩ = some (.slice A n c) ∧ W'.cell? ⟨q, p + 6, none⟩ = some (.slice A' n c') ∧ CopiedS S' 7 W W' A n A'
variable {S S' : Nat → Prop} {W W' : World} {q p : Nat}
theorem SwapS.argsAt (h : SwapS S S' W W' q p) {v : Value} {xs : List (Int × Int)} (ha : ArgsS S W v xs) : ArgsS S' W' v xs := by
  obtain ⟨A, c, rfl, ha⟩ := ha
  refine ⟨A, c, rfl, fun hp => ?_⟩
  obtain ⟨b, o, hA, hb, hc⟩ := ha hp
  exact ⟨b, o, hA, h.mono _ hb, fun i hi => ⟨h.ints _ _ _ _ (hc i hi).1, h.ints _ _ _ _ (hc i hi).2⟩⟩
theorem copied_argsS {A A' : Option Addr} {n c c' m : Nat} {xs : List (Int × Int)} (hm : 2 ≤ m) (hc : CopiedS S' m W W' A n A') (ha : ArgsS S W (.slice A n c) xs) : ArgsS S' W' (.slice A' n c') xs := by
  obtain ⟨A0, c0, hv, ha⟩ := ha
  injection hv with hv1 hv2 hv3
  subst hv1 hv2
  refine ⟨A', c', rfl, fun hp => ?_⟩
  obtain ⟨b, o, hA, hb, hx⟩ := ha hp
  obtain ⟨b', o', hA', hb', hcp⟩ := hc hp b o hA
  refine ⟨b', o', hA', hb', fun i hi => ?_⟩
  have h1 : i * 2 + 1 < xs.length * m := by
    have : xs.length * 2 ≤ xs.length * m := Nat.mul_le_mul_left _ hm
    omega
  refine ⟨hcp (i * 2) _ (by omega) (hx i hi).1, ?_⟩
  rw [Nat.add_assoc]
  exact hcp (i * 2 + 1) _ h1 (by rw [← Nat.add_assoc]; exact (hx i hi).2)
/-- Cells of statements, from one place to another one. -/
def CpBS (S' : Nat → Prop) (W W' : World) (q p b o b' o' n : Nat) : Prop := ∀ i, i < n → (∀ j k x, j < 5 → W.cell? ⟨b, o + i * 7 + j, none⟩ = some (.int k x) → W'.cell? ⟨b', o' + i * 7 + j, none⟩ = some (.int k x)) ∧
  (∀ A m c, W.cell? ⟨b, o + i * 7 + 5, none⟩ = some (.slice A m c) → ∃ A' c', W'.cell? ⟨b', o' + i * 7 + 5, none⟩ = some (.slice A' m c') ∧ (A' = A ∧ c' = c ∨ CopiedS S' 2 W W' A m A')) ∧
  (∀ A m c, W.cell? ⟨b, o + i * 7 + 6, none⟩ = some (.slice A m c) → ∃ A' c', W'.cell? ⟨b', o' + i * 7 + 6, none⟩ = some (.slice A' m c') ∧ (A' = A ∨ CopiedS S' 7 W W' A m A' ∨ ∃ xs, ArgsAt W (.slice A m c) xs))
theorem CpBS.shift {b o b' o' n : Nat} (h : CpBS S' W W' q p b o b' o' (n + 1)) : CpBS S' W W' q p b (o + 7) b' (o' + 7) n := fun i hi => by
  have := h (i + 1) (by omega)
  rw [show o + 7 + i * 7 = o + (i + 1) * 7 from by omega, show o' + 7 + i * 7 = o' + (i + 1) * 7 from by omega]
  exact this
theorem SwapS.here (h : SwapS S S' W W' q p) (b o n : Nat) : CpBS S' W W' q p b o b o n := fun i hi => by
  obtain ⟨A5, n5, c5, A5', c5', xs5, g1, g2, g3, g4⟩ := h.args
  obtain ⟨A6, n6, c6, A6', c6', k1, k2, k3⟩ := h.body
  refine ⟨fun j k x _ hx => h.ints _ _ _ _ hx, fun A m c hx => ?_, fun A m c hx => ?_⟩
  · by_cases hq : b = q ∧ (o + i * 7 + 5 = p + 5 ∨ o + i * 7 + 5 = p + 6)
    · obtain ⟨rfl, hq | hq⟩ := hq
      · rw [hq] at hx ⊢
        rw [hx] at g1
        injection g1 with g1
        injection g1 with e1 e2 e3
        subst e1 e2 e3
        exact ⟨A5', c5', g2, .inr g4⟩
      · rw [hq] at hx ⊢
        rw [hx] at k1
        injection k1 with k1
        injection k1 with e1 e2 e3
        subst e1 e2 e3
        refine ⟨A6', c6', k2, .inr fun hp b2 o2 hA => ?_⟩
        obtain ⟨b', o', hA', hb', hc⟩ := k3 hp b2 o2 hA
        exact ⟨b', o', hA', hb', fun j u hj hu => hc j u (by omega) hu⟩
    · exact ⟨A, c, h.rest _ _ _ _ _ hx hq, .inl ⟨rfl, rfl⟩⟩
  · by_cases hq : b = q ∧ (o + i * 7 + 6 = p + 5 ∨ o + i * 7 + 6 = p + 6)
    · obtain ⟨rfl, hq | hq⟩ := hq
      · rw [hq] at hx ⊢
        rw [hx] at g1
        injection g1 with g1
        injection g1 with e1 e2 e3
        subst e1 e2 e3
        exact ⟨A5', c5', g2, .inr (.inr ⟨xs5, g3⟩)⟩
      · rw [hq] at hx ⊢
        rw [hx] at k1
        injection k1 with k1
        injection k1 with e1 e2 e3
        subst e1 e2 e3
        exact ⟨A6', c6', k2, .inr (.inl k3)⟩
    · exact ⟨A, c, h.rest _ _ _ _ _ hx hq, .inl rfl⟩
theorem SwapS.bdAt (h : SwapS S S' W W' q p) (N : Nat) : ∀ (t : Bd) (b o b' o' : Nat), t.size ≤ N → BdS S W b o t → S' b' → CpBS S' W W' q p b o b' o' t.len → BdS S' W' b' o' t := by
  induction N with
  | zero =>
    intro t b o b' o' hN _ _ _
    cases t with
    | nil => trivial
    | cons => simp [Bd.size] at hN
  | succ N ih =>
    intro t b o b' o' hN ht hSb hc
    cases t with
    | nil => trivial
    | cons k a1 a2 b1 b2 xs sub rest =>
      obtain ⟨hS0, ⟨h0, h1, h2, h3, h4⟩, ⟨va, h5, ha⟩, ⟨A, c, h6, hs⟩, hr⟩ := ht
      simp only [Bd.size] at hN
      obtain ⟨e0, e5, e6⟩ := hc 0 (by simp [Bd.len])
      simp only [Nat.zero_mul, Nat.add_zero] at e0 e5 e6
      obtain ⟨Aa, ca, rfl, ha'⟩ := ha
      have haa : ArgsS S W (.slice Aa xs.length ca) xs := ⟨Aa, ca, rfl, ha'⟩
      obtain ⟨Aa', ca', g5, hg5⟩ := e5 _ _ _ h5
      obtain ⟨A', c', g6, hg6⟩ := e6 _ _ _ h6
      refine ⟨hSb, ⟨e0 0 _ _ (by omega) h0, e0 1 _ _ (by omega) h1, e0 2 _ _ (by omega) h2, e0 3 _ _ (by omega) h3, e0 4 _ _ (by omega) h4⟩, ⟨_, g5, ?_⟩, ⟨A', c', g6, fun hp => ?_⟩, ih rest b (o + 7) b' (o' + 7) (by omega) hr hSb (CpBS.shift hc)⟩
      · rcases hg5 with ⟨rfl, rfl⟩ | hg5
        · exact h.argsAt haa
        · exact copied_argsS (Nat.le_refl _) hg5 haa
      · obtain ⟨bs, os, hA, hbs⟩ := hs hp
        rcases hg6 with rfl | hg6 | ⟨ys, hys⟩
        · exact ⟨bs, os, hA, ih sub bs os bs os (by omega) hbs (h.mono _ (BdS.inS hp hbs)) (h.here bs os sub.len)⟩
        · obtain ⟨b2, o2, hA2, hb2, hcp⟩ := hg6 hp bs os hA
          refine ⟨b2, o2, hA2, ih sub bs os b2 o2 (by omega) hbs hb2 fun i hi => ⟨fun j k x hj hx => ?_, fun A m c hx => ⟨A, c, ?_, .inl ⟨rfl, rfl⟩⟩, fun A m c hx => ⟨A, c, ?_, .inl rfl⟩⟩⟩
          · rw [Nat.add_assoc]; exact hcp (i * 7 + j) _ (by omega) (by rw [← Nat.add_assoc]; exact hx)
          · rw [Nat.add_assoc]; exact hcp (i * 7 + 5) _ (by omega) (by rw [← Nat.add_assoc]; exact hx)
          · rw [Nat.add_assoc]; exact hcp (i * 7 + 6) _ (by omega) (by rw [← Nat.add_assoc]; exact hx)
        · exfalso
          obtain ⟨A0, c0, hv, hy⟩ := hys
          injection hv with hv1 hv2 hv3
          subst hv1
          rw [hv2] at hp
          obtain ⟨b2, o2, hA2, hcy⟩ := hy hp
          rw [hA] at hA2
          injection hA2 with hA2
          injection hA2 with e1 e2
          subst e1 e2
          have hi := (hcy 0 hp).2
          cases sub with
          | nil => simp [Bd.len] at hv2; omega
          | cons k2 x1 x2 y1 y2 zs s2 r2 =>
            have hj := hbs.2.1.2.1
            simp only [Nat.zero_mul, Nat.add_zero] at hi
            rw [hi] at hj
            injection hj with hj
            injection hj with hj
            cases hj
theorem SwapS.bodyS (h : SwapS S S' W W' q p) {A : Option Addr} {t : Bd} (ht : BodyS S W A t) : BodyS S' W' A t := fun hp => by
  obtain ⟨b, o, hA, hb⟩ := ht hp
  exact ⟨b, o, hA, h.bdAt t.size t b o b o (Nat.le_refl _) hb (h.mono _ (BdS.inS hp hb)) (h.here b o t.len)⟩
/-- One round's stores: a statement with copies of its lists. -/
theorem SwapS.of {W5 : World} {k a1 a2 b1 b2 : Int} {Aa As A1 A4 : Option Addr} {ca cs c1 c4 : Nat} {xs : List (Int × Int)} {sub : Bd} (hb : Below W.heap.size W W5) (hmono : ∀ k, S k → S' k)
    (h0 : W.cell? ⟨q, p, none⟩ = some (.int .u8 k)) (h1 : W.cell? ⟨q, p + 1, none⟩ = some (.int .u8 a1)) (h2 : W.cell? ⟨q, p + 2, none⟩ = some (.int .i64 a2)) (h3 : W.cell? ⟨q, p + 3, none⟩ = some (.int .u8 b1)) (h4 : W.cell? ⟨q, p + 4, none⟩ = some (.int .i64 b2)) (h5 : W.cell? ⟨q, p + 5, none⟩ = some (.slice Aa xs.length ca)) (h6 : W.cell? ⟨q, p + 6, none⟩ = some (.slice As sub.len cs))
    (hfar : ∀ a : Addr, a.block ≠ q → W'.cell? a = W5.cell? a) (hsame : ∀ o, (∀ j, j < 7 → o ≠ p + j) → W'.cell? ⟨q, o, none⟩ = W5.cell? ⟨q, o, none⟩)
    (g0 : W'.cell? ⟨q, p, none⟩ = some (.int .u8 k)) (g1 : W'.cell? ⟨q, p + 1, none⟩ = some (.int .u8 a1)) (g2 : W'.cell? ⟨q, p + 2, none⟩ = some (.int .i64 a2)) (g3 : W'.cell? ⟨q, p + 3, none⟩ = some (.int .u8 b1)) (g4 : W'.cell? ⟨q, p + 4, none⟩ = some (.int .i64 b2)) (g5 : W'.cell? ⟨q, p + 5, none⟩ = some (.slice A1 xs.length c1)) (g6 : W'.cell? ⟨q, p + 6, none⟩ = some (.slice A4 sub.len c4))
    (ha : ArgsAt W (.slice Aa xs.length ca) xs) (hA : ArgsS (fun k => k ≠ q ∧ S' k) W5 (.slice A1 xs.length c1) xs)
    {csb : List Value} {base : Nat} (hO : W5.ownsRow base 50 7 (.slice A4 sub.len c4) sub.len csb) (hbase : q < base) (hS4 : ∀ k, some k = (Value.slice A4 sub.len c4).ownBlock → S' k) (hl : csb.length = sub.len * 7) (hcc : ∀ a, As = some a → ∀ j u, csb[j]? = some u → W.cell? (a.add j) = some u) : SwapS S S' W W' q p := by
  have key : ∀ b o u, W.cell? ⟨b, o, none⟩ = some u → ¬ (b = q ∧ (o = p + 5 ∨ o = p + 6)) → W'.cell? ⟨b, o, none⟩ = some u := fun b o u hu hne => by
    have hlt := World.block_lt_of_cell? W ⟨b, o, none⟩ hu
    have hu5 := cell_old hb hlt hu
    by_cases hq : b = q
    · subst hq
      by_cases hj : ∀ j, j < 7 → o ≠ p + j
      · rw [hsame o hj]; exact hu5
      · obtain ⟨j, hj⟩ := Classical.not_forall.1 hj
        obtain ⟨hj7, hoj⟩ := Classical.not_imp.1 hj
        have hoj : o = p + j := Classical.not_not.1 hoj
        subst hoj
        match j, hj7 with
        | 0, _ => rw [Nat.add_zero] at hu ⊢; rw [hu] at h0; injection h0 with e; rw [e]; exact g0
        | 1, _ => rw [hu] at h1; injection h1 with e; rw [e]; exact g1
        | 2, _ => rw [hu] at h2; injection h2 with e; rw [e]; exact g2
        | 3, _ => rw [hu] at h3; injection h3 with e; rw [e]; exact g3
        | 4, _ => rw [hu] at h4; injection h4 with e; rw [e]; exact g4
        | 5, _ => exact absurd ⟨rfl, .inl rfl⟩ hne
        | 6, _ => exact absurd ⟨rfl, .inr rfl⟩ hne
    · rw [hfar _ hq]; exact hu5
  refine ⟨hmono, fun b o k' x hx => key b o _ hx (fun ⟨e1, e2⟩ => ?_), fun b o A n c hx hne => key b o _ hx hne, ⟨Aa, xs.length, ca, A1, c1, xs, h5, g5, ha, fun hp b o hA1 => ?_⟩, ⟨As, sub.len, cs, A4, c4, h6, g6, fun hp b o hA4 => ?_⟩⟩
  · subst e1
    rcases e2 with rfl | rfl
    · rw [h5] at hx; cases hx
    · rw [h6] at hx; cases hx
  · obtain ⟨A0, c0, hv, hx⟩ := hA
    injection hv with hv1 hv2 hv3
    subst hv1
    obtain ⟨b', o', hA', ⟨hne, hSb⟩, hc'⟩ := hx hp
    refine ⟨b', o', hA', hSb, fun j u hj hu => ?_⟩
    obtain ⟨A2, c2, hv, hy⟩ := ha
    injection hv with hv1 hv2 hv3
    subst hv1
    obtain ⟨b2, o2, hA2, hc2⟩ := hy hp
    rw [hA1] at hA2
    injection hA2 with hA2
    injection hA2 with e1 e2
    subst e1 e2
    rw [hfar _ hne]
    have hd : ∀ (Z : World) (bz oz : Nat), (∀ i, i < xs.length → Z.cell? ⟨bz, oz + i * 2, none⟩ = some (.int .u8 (xs.getD i (0, 0)).1) ∧ Z.cell? ⟨bz, oz + i * 2 + 1, none⟩ = some (.int .i64 (xs.getD i (0, 0)).2)) → ∃ v, (refV xs)[j]? = some v ∧ Z.cell? ⟨bz, oz + j, none⟩ = some v := fun Z bz oz hz => by
      have hjl : j < (refV xs).length := by rw [refV_len]; exact hj
      exact ⟨_, List.getElem?_eq_getElem hjl, refV_at hz j _ (List.getElem?_eq_getElem hjl)⟩
    obtain ⟨v1, hv1, hz1⟩ := hd W b o hc2
    obtain ⟨v2, hv2, hz2⟩ := hd W5 b' o' hc'
    rw [hv1] at hv2
    injection hv2 with hv2
    rw [hz1] at hu
    injection hu with hu
    rw [hz2, ← hv2, hu]
  · obtain ⟨q4, cap, hv, hb4, _⟩ := own_formM hO hp
    injection hv with hv1 _ hv3
    subst hv1 hv3
    refine ⟨q4, 0, rfl, hS4 q4 rfl, fun j u hj hu => ?_⟩
    have hjl : j < csb.length := by rw [hl]; exact hj
    have h1 := hcc _ hA4 j _ (List.getElem?_eq_getElem hjl)
    rw [Go.WideShapes.add_plain, hu] at h1
    rw [hfar _ (by show q4 ≠ q; omega), own_cellsM hO j _ (List.getElem?_eq_getElem hjl)]
    exact h1.symm
end Go.Proofs.Ytpdebnecfknohaa
namespace Go.Proofs.Ytpdebnecfknohaa
open Go.RowKit
set_option linter.unusedVariables false
set_option maxRecDepth 20000
theorem info38 : (Try.prog.info? 38).map (fun i => (i.zero, i.size, i.bytes)) = some (some (.slice none 0 0), 1, 24) := by kernel_rfl
set_option maxRecDepth 20000 in
set_option maxHeartbeats 1000000 in
theorem cloneR2_any (Aa : Option Addr) (ca : Nat) (xs : List (Int × Int)) (w : World) (h : ArgsAt w (.slice Aa xs.length ca) xs) (hl : xs.length ≤ 1000000000) :
    Calls Try.prog 65 #[.slice Aa xs.length ca] w fun e w' => ∃ A c, e = .returned (.slice A xs.length c) ∧ w'.ownsRow w.heap.size 46 2 (.slice A xs.length c) xs.length (refV xs) ∧ Below w.heap.size w w' := by
  obtain ⟨i0, hi0, hz0, hz1, hz2⟩ := info_parts info46
  obtain ⟨A', c', hv, h⟩ := h
  injection hv with hv1 hv2 hv3
  subst hv1 hv3
  clear hv2
  obtain ⟨n, hnl⟩ : ∃ n, n = xs.length := ⟨_, rfl⟩
  have HFL : Hid ((refV xs).length = n * 2) := by show _ = _; rw [refV_len, hnl]
  have HNL := Lib.hid hnl
  cases Aa with
  | none =>
    have h0 : xs = [] := by
      rcases Nat.eq_zero_or_pos xs.length with h0 | h0
      · exact List.eq_nil_of_length_eq_zero h0
      · obtain ⟨b, o, hA, _⟩ := h h0; cases hA
    subst h0
    clear h
    have hq := fun W => Lib.run_eql_slice_nil (P := Try.prog) W 48 46 none 0 ca 0 0 Try.underlying48
    simp only [List.length_nil]
    go_enter Try.func65, Try.ntmps65
    go_wp2
    go_ret
    exact ⟨none, 0, rfl, World.ownsRow_nil _ _ _ _, Below.refl _ _⟩
  | some a =>
    have hcc : ∀ j u, (refV xs)[j]? = some u → w.cell? (a.add j) = some u := by
      intro j u hu
      have hp : 0 < xs.length := by
        rcases Nat.eq_zero_or_pos xs.length with h0 | h0
        · have : xs = [] := List.eq_nil_of_length_eq_zero h0
          subst this; simp [refV] at hu
        · exact h0
      obtain ⟨b, o, hA, hc⟩ := h hp
      injection hA with hA
      subst hA
      rw [Go.WideShapes.add_plain]
      exact refV_at hc j u hu
    have HF := Lib.hid hcc
    rw [← hnl] at hl ⊢
    clear hcc h hnl
    have hq := fun W => Lib.run_eql_slice_nil (P := Try.prog) W 48 46 (some a) n ca 0 0 Try.underlying48
    go_enter Try.func65, Try.ntmps65
    go_wp2_with (first | (at_builtin; refine wpList_append_own_at _ rfl (.tmp 5) (.tmp 6) 48 rfl w.heap.size 46 i0 (.agg #[.int .u8 0, .int .i64 0]) 2 16 Try.underlying48 hi0 hz0 hz1 hz2 rfl (by decide) (.slice (some ⟨w.heap.size, 0, none⟩) 0 0) 0 [] rfl ?d1 a n ca (refV xs) rfl ?c1 ?c2 ?c3 ?c4 ?c5 ?c6 ?_))
    case d1 => exact World.ownsRow_made w #[] 0 (Nat.le_refl _) (by unfold maxLen; omega) rfl
    case c1 => exact HFL.out
    case c2 =>
      intro j u hu
      have := HF.out j u hu
      rw [World.cell?_alloc_lt w _ _ (World.block_lt_of_cell? w _ this)]
      exact this
    case c3 => exact refV_one xs
    case c4 => unfold maxLen; omega
    case c5 => omega
    case c6 => simp
    intro v' w1 hown hg _ hat
    have hown' : w1.ownsRow w.heap.size 46 2 v' n (refV xs) := by simpa using hown
    obtain ⟨A, c, rfl⟩ := own_slice hown'
    have HO := Lib.hid hown'
    have HB := Lib.hid (((Below.refl w.heap.size w).alloc (Nat.le_refl _) (.cells #[] 46)).grown hg (by simp) (fun k hk => by simp [Value.ownBlock] at hk; omega))
    clear hown hown' hg hat
    go_wp2
    go_ret
    exact ⟨A, c, rfl, HO.out, HB.out⟩
/-- A list of statements that is left, with the slice that says it. -/
structure Ln where
  A : Option Addr
  c : Nat
  t : Bd
def flatL (P : List Ln) : List Value := P.map fun p => .slice p.A p.t.len p.c
theorem flatL_len (P : List Ln) : (flatL P).length = P.length * 1 := by simp [flatL]
theorem flatL_append (P Q : List Ln) : flatL (P ++ Q) = flatL P ++ flatL Q := by simp [flatL]
def wtL : List Ln → Nat
  | [] => 0
  | p :: P => p.t.size + 1 + wtL P
theorem wtL_append (P Q : List Ln) : wtL (P ++ Q) = wtL P + wtL Q := by
  induction P with
  | nil => simp [wtL]
  | cons p P ih => simp only [List.cons_append, wtL, ih]; omega
theorem len_wtL (P : List Ln) : P.length ≤ wtL P := by
  induction P with
  | nil => simp [wtL]
  | cons p P ih => simp only [List.length_cons, wtL]; omega
/-- The last list of a row, and the row without it. -/
theorem own_popL {w : World} {base : Nat} {v : Value} {P : List Ln} {p : Ln} (h : w.ownsRow base 38 1 v (P ++ [p]).length (flatL (P ++ [p]))) :
    ∃ q cap, v = .slice (some ⟨q, 0, none⟩) (P.length + 1) cap ∧ P.length + 1 ≤ cap ∧ cap ≤ 9223372036854775807 ∧ w.cell? ⟨q, P.length, none⟩ = some (.slice p.A p.t.len p.c) ∧
      w.ownsRow base 38 1 (.slice (some ⟨q, 0, none⟩) P.length cap) P.length (flatL P) := by
  have hl : (P ++ [p]).length = P.length + 1 := by simp
  rw [hl, flatL_append] at h
  rcases h.2 with ⟨_, hn⟩ | ⟨q, cap, cur, hv, h2, hk, h3, h4, h5, h6⟩
  · omega
  · have hfl := flatL_len P
    have g : ∀ j, j < (P.length + 1) * 1 → cur[j]? = (flatL P ++ flatL [p])[j]? := fun j hj => by
      rw [← h6, List.getElem?_take_of_lt hj, Array.getElem?_toList]
    refine ⟨q, cap, hv, h3, by unfold maxLen at h4; omega, ?_, ⟨hfl, .inr ⟨q, cap, cur, rfl, h2, hk, by omega, h4, h5, ?_⟩⟩⟩
    · rw [cell_of_row w q _ cur 38 (0, 0) hk, g _ (by omega), List.getElem?_append_right (by omega), hfl, Nat.mul_one, Nat.sub_self]; rfl
    · have := congrArg (List.take (P.length * 1)) h6
      rw [List.take_take, show min (P.length * 1) ((P.length + 1) * 1) = P.length * 1 from by omega] at this
      rw [this, ← hfl]
      exact List.take_left
/-- A list more. -/
theorem own_pushL (base : Nat) (v : Value) (P : List Ln) (p : Ln) (w : World) (h : w.ownsRow base 38 1 v P.length (flatL P)) (hl : P.length ≤ 1000000000) (hb : base ≤ w.heap.size) :
    ∃ q c w', (Builtin.append_ #[132, 132] 132 #[v, .slice (some ⟨w.heap.size, 0, none⟩) 1 1]).run Try.prog (w.alloc (.cells #[.slice p.A p.t.len p.c] 38)) = .ok (.slice (some ⟨q, 0, none⟩) (P.length + 1) c) w' ∧ w'.ownsRow base 38 1 (.slice (some ⟨q, 0, none⟩) (P.length + 1) c) (P ++ [p]).length (flatL (P ++ [p])) ∧ (w.alloc (.cells #[.slice p.A p.t.len p.c] 38)).grownBy w' v.ownBlock := by
  obtain ⟨i0, hi0, hz0, hz1, hz2⟩ := info_parts info38
  have hc : ∀ j u, ([.slice p.A p.t.len p.c] : List Value)[j]? = some u → (w.alloc (.cells #[.slice p.A p.t.len p.c] 38)).cell? ((⟨w.heap.size, 0, none⟩ : Addr).add j) = some u := by
    intro j u hj
    rw [Go.WideShapes.add_plain, cell_of_row _ w.heap.size _ _ 38 (0, 0) (heap_alloc_new w _), Nat.zero_add]
    simpa using hj
  obtain ⟨v5, w5, hr5, hO5, hg5, _, hat5⟩ := run_append_own_at (P := Try.prog) (w.alloc (.cells #[.slice p.A p.t.len p.c] 38)) base 132 132 38 i0 (.slice none 0 0) 1 24 Try.underlying132 hi0 hz0 hz1 hz2 rfl (by decide) v P.length (flatL P) (h.alloc _) ⟨w.heap.size, 0, none⟩ 1 1 [.slice p.A p.t.len p.c] rfl hc (by intro u hu; simp at hu; subst hu; rfl) (by unfold maxLen; omega) (by omega) (by simp; omega)
  obtain ⟨q5, c5, rfl⟩ : ∃ q5 c5, v5 = .slice (some ⟨q5, 0, none⟩) (P.length + 1) c5 := by
    rcases hO5.2 with ⟨_, h1⟩ | ⟨k, cap, cur, hv, _⟩
    · omega
    · exact ⟨k, cap, hv⟩
  refine ⟨q5, c5, w5, hr5, ?_, hg5⟩
  rw [flatL_append, List.length_append]; exact hO5
/-- Blocks of the call's own that are rows stay rows. -/
def Stay (W W' : World) : Prop := ∀ b T cs, Blk W b T cs → ∃ cs', Blk W' b T cs'
theorem Stay.refl (W : World) : Stay W W := fun b T cs h => ⟨cs, h⟩
theorem Stay.trans {W W' W2 : World} (h : Stay W W') (h2 : Stay W' W2) : Stay W W2 := fun b T cs hb => by
  obtain ⟨cs', hb'⟩ := h b T cs hb
  exact h2 b T cs' hb'
theorem Stay.set_ (W : World) (p : Addr) (hp : p = ⟨p.block, p.off, none⟩) (u : Value) : Stay W (W.setCell p u) := fun b T cs h => by
  by_cases hb : b = p.block
  · subst hb
    refine ⟨cs.setIfInBounds p.off u, ?_⟩
    rw [hp]
    exact Blk.set_ h p.off u
  · exact ⟨cs, h.far hb u⟩
theorem Stay.old {W W' : World} (hb : Below W.heap.size W W') : Stay W W' := fun b T cs h => ⟨cs, h.old hb⟩
/-- What may be changed of a statement. -/
def LooseAt (base : Nat) (W : World) (q k : Nat) : Prop := (∃ x, W.cell? ⟨q, k * 7, none⟩ = some (.int .u8 x)) ∧
  (∃ A m c, W.cell? ⟨q, k * 7 + 5, none⟩ = some (.slice A m c) ∧ (0 < m → ∃ b x T cs, A = some ⟨b, 0, none⟩ ∧ base ≤ b ∧ Blk W b T cs ∧ (T = 46 ∨ T = 50) ∧ W.cell? ⟨b, 1, none⟩ = some (.int .i64 x))) ∧
  (∃ A m c, W.cell? ⟨q, k * 7 + 6, none⟩ = some (.slice A m c) ∧ (0 < m → ∃ b x T cs, A = some ⟨b, 0, none⟩ ∧ base ≤ b ∧ Blk W b T cs ∧ (T = 46 ∨ T = 50) ∧ W.cell? ⟨b, 0, none⟩ = some (.int .u8 x)))
theorem LooseAt.swap {S S' : Nat → Prop} {base : Nat} {W W' : World} {q k qs ps : Nat} (h : LooseAt base W q k) (hs : SwapS S S' W W' qs ps) (hst : Stay W W') (hne : ¬ (q = qs ∧ (k * 7 + 5 = ps + 5 ∨ k * 7 + 5 = ps + 6))) (hne2 : ¬ (q = qs ∧ (k * 7 + 6 = ps + 5 ∨ k * 7 + 6 = ps + 6))) : LooseAt base W' q k := by
  obtain ⟨⟨x, h0⟩, ⟨A, m, c, h5, ha⟩, ⟨A', m', c', h6, hb⟩⟩ := h
  refine ⟨⟨x, hs.ints _ _ _ _ h0⟩, ⟨A, m, c, hs.rest _ _ _ _ _ h5 hne, fun hp => ?_⟩, ⟨A', m', c', hs.rest _ _ _ _ _ h6 hne2, fun hp => ?_⟩⟩
  · obtain ⟨b, x, T, cs, hA, hb, hB, hT, hc⟩ := ha hp
    obtain ⟨cs', hB'⟩ := hst b T cs hB
    exact ⟨b, x, T, cs', hA, hb, hB', hT, hs.ints _ _ _ _ hc⟩
  · obtain ⟨b, x, T, cs, hA, hb, hB, hT, hc⟩ := hb hp
    obtain ⟨cs', hB'⟩ := hst b T cs hB
    exact ⟨b, x, T, cs', hA, hb, hB', hT, hs.ints _ _ _ _ hc⟩
/-- A block that was there, of a kind, or one of the call's own that is no row of lists. -/
def NR (S0 : Nat → Prop) (base : Nat) (W : World) (k : Nat) : Prop := (k < base ∧ S0 k) ∨ (base ≤ k ∧ ∃ T cs, Blk W k T cs ∧ T ≠ 38)
theorem NR.stay {S0 : Nat → Prop} {base : Nat} {W W' : World} (hs : Stay W W') (k : Nat) (h : NR S0 base W k) : NR S0 base W' k := by
  rcases h with h | ⟨hk, T, cs, h, hT⟩
  · exact .inl h
  · obtain ⟨cs', h'⟩ := hs k T cs h
    exact .inr ⟨hk, T, cs', h', hT⟩
/-- What is left of copyBody's work: a list of statements in a row of the call's own. -/
def OKl (S0 : Nat → Prop) (base : Nat) (W : World) (p : Ln) : Prop := (0 < p.t.len → ∃ q cs, p.A = some ⟨q, 0, none⟩ ∧ base ≤ q ∧ Blk W q 50 cs) ∧ BodyS (NR S0 base W) W p.A p.t ∧ p.t.wide ≤ 1000000000
theorem OKl.swap {S0 : Nat → Prop} {base : Nat} {W W' : World} {qs ps : Nat} {p : Ln} (h : OKl S0 base W p) (hs : SwapS (NR S0 base W) (NR S0 base W') W W' qs ps) (hst : Stay W W') : OKl S0 base W' p := by
  refine ⟨fun hp => ?_, hs.bodyS h.2.1, h.2.2⟩
  obtain ⟨q, cs, hA, hq, hB⟩ := h.1 hp
  obtain ⟨cs', hB'⟩ := hst q 50 cs hB
  exact ⟨q, cs', hA, hq, hB'⟩
theorem own_geB {w : World} {base e size n : Nat} {v : Value} {xs : List Value} (h : w.ownsRow base e size v n xs) : ∀ k, some k = v.ownBlock → base ≤ k := fun k hk => by
  rcases h.2 with ⟨rfl, _⟩ | ⟨q, cap, cur, rfl, hq, hh, _⟩
  · simp [Value.ownBlock] at hk
  · have : k = q := by simpa [Value.ownBlock] using hk
    omega
/-- Behind an append to a row of lists. -/
theorem NR.kept {S0 : Nat → Prop} {base n : Nat} {W W' : World} {v : Value} {xs : List Value} (hO : W.ownsRow base 38 1 v n xs) (hg : W.grownBy W' v.ownBlock) : Kept (NR S0 base W) W W' := fun k hk hlt => by
  refine hg.block k hlt (fun e => ?_)
  rcases hk with ⟨hk, _⟩ | ⟨_, T, cs, hB, hT⟩
  · have := own_geB hO k e; omega
  · exact own_ne hO hB (fun x => hT x.symm) e
theorem NR.still {S0 : Nat → Prop} {base n : Nat} {W W' : World} {v : Value} {xs : List Value} (hO : W.ownsRow base 38 1 v n xs) (hg : W.grownBy W' v.ownBlock) (k : Nat) (hk : NR S0 base W k) (hlt : k < W.heap.size) : NR S0 base W' k := by
  rcases hk with hk | ⟨hk, T, cs, hB, hT⟩
  · exact .inl hk
  · exact .inr ⟨hk, T, cs, hB.grown hg (own_ne hO hB (fun x => hT x.symm)), hT⟩
theorem OKl.grown {S0 : Nat → Prop} {base n : Nat} {W W' : World} {v : Value} {xs : List Value} {p : Ln} (h : OKl S0 base W p) (hO : W.ownsRow base 38 1 v n xs) (hg : W.grownBy W' v.ownBlock) : OKl S0 base W' p := by
  refine ⟨fun hp => ?_, h.2.1.kept (NR.kept hO hg) (fun k hk hlt => NR.still hO hg k hk hlt), h.2.2⟩
  obtain ⟨q, cs, hA, hq, hB⟩ := h.1 hp
  exact ⟨q, cs, hA, hq, hB.grown hg (own_ne hO hB (by decide))⟩
theorem LooseAt.grown {base n : Nat} {W W' : World} {v : Value} {xs : List Value} {q k : Nat} {cs : Array Value} (h : LooseAt base W q k) (hq : Blk W q 50 cs) (hO : W.ownsRow base 38 1 v n xs) (hg : W.grownBy W' v.ownBlock) : LooseAt base W' q k := by
  have kc : ∀ (b T : Nat) (ds : Array Value), Blk W b T ds → ∀ (o : Nat) (u : Value), W.cell? ⟨b, o, none⟩ = some u → T ≠ 38 → W'.cell? ⟨b, o, none⟩ = some u := fun b T ds hB o u hu hT =>
    (World.cell?_of_block (hg.block b hB.lt (own_ne hO hB (fun x => hT x.symm)))).trans hu
  obtain ⟨⟨x, h0⟩, ⟨A, m, c, h5, ha⟩, ⟨A', m', c', h6, hb⟩⟩ := h
  refine ⟨⟨x, kc q 50 cs hq _ _ h0 (by decide)⟩, ⟨A, m, c, kc q 50 cs hq _ _ h5 (by decide), fun hp => ?_⟩, ⟨A', m', c', kc q 50 cs hq _ _ h6 (by decide), fun hp => ?_⟩⟩
  · obtain ⟨b, x, T, ds, hA, hb, hB, hT, hc⟩ := ha hp
    exact ⟨b, x, T, ds, hA, hb, hB.grown hg (own_ne hO hB (fun e => by rcases hT with rfl | rfl <;> cases e)), hT, kc b T ds hB _ _ hc (fun e => by rcases hT with rfl | rfl <;> cases e)⟩
  · obtain ⟨b, x, T, ds, hA, hb, hB, hT, hc⟩ := hb hp
    exact ⟨b, x, T, ds, hA, hb, hB.grown hg (own_ne hO hB (fun e => by rcases hT with rfl | rfl <;> cases e)), hT, kc b T ds hB _ _ hc (fun e => by rcases hT with rfl | rfl <;> cases e)⟩
/-- Statements in a row of the call's own, whose block is of the kind. -/
theorem own_bodyB {S : Nat → Prop} {w : World} {base e n c : Nat} {A : Option Addr} {cs : List Value} {t : Bd} (hn : n = t.len) (h : w.ownsRow base e 7 (.slice A n c) n cs) (hc : CellsB S w cs t) (hS : ∀ k, some k = (Value.slice A n c).ownBlock → S k) : BodyS S w A t := by
  subst hn
  intro hp
  obtain ⟨q, cap, hv, hb, _⟩ := own_formM h hp
  injection hv with hv1 hv2 hv3
  subst hv1 hv3
  exact ⟨q, 0, rfl, CellsB.body t cs q 0 hc (hS q rfl) fun j u hj => own_cellsM h j u hj⟩
theorem own_blk {w : World} {base e size n : Nat} {v : Value} {xs : List Value} (h : w.ownsRow base e size v n xs) (k : Nat) (hk : some k = v.ownBlock) : base ≤ k ∧ ∃ cur, Blk w k e cur := by
  rcases h.2 with ⟨rfl, _⟩ | ⟨q, cap, cur, rfl, hq, hh, _⟩
  · simp [Value.ownBlock] at hk
  · have : k = q := by simpa [Value.ownBlock] using hk
    subst this
    exact ⟨hq, cur, hh⟩
/-- Seven cells of a row. -/
def put7 (w : World) (q p : Nat) (v0 v1 v2 v3 v4 v5 v6 : Value) : World := ((((((w.setCell ⟨q, p, none⟩ v0).setCell ⟨q, p + 1, none⟩ v1).setCell ⟨q, p + 2, none⟩ v2).setCell ⟨q, p + 3, none⟩ v3).setCell ⟨q, p + 4, none⟩ v4).setCell ⟨q, p + 5, none⟩ v5).setCell ⟨q, p + 6, none⟩ v6
section
variable {w : World} {q p : Nat} {v0 v1 v2 v3 v4 v5 v6 : Value}
theorem put7_heap {k : Nat} (h : k ≠ q) : (put7 w q p v0 v1 v2 v3 v4 v5 v6).heap[k]? = w.heap[k]? := by
  unfold put7
  rw [Below.heap_setCell _ _ _ _ h, Below.heap_setCell _ _ _ _ h, Below.heap_setCell _ _ _ _ h, Below.heap_setCell _ _ _ _ h, Below.heap_setCell _ _ _ _ h, Below.heap_setCell _ _ _ _ h, Below.heap_setCell _ _ _ _ h]
theorem put7_far (a : Addr) (h : a.block ≠ q) : (put7 w q p v0 v1 v2 v3 v4 v5 v6).cell? a = w.cell? a := World.cell?_of_block (put7_heap h)
theorem put7_same (o : Nat) (h : ∀ j, j < 7 → o ≠ p + j) : (put7 w q p v0 v1 v2 v3 v4 v5 v6).cell? ⟨q, o, none⟩ = w.cell? ⟨q, o, none⟩ := by
  have hn : ∀ j, j < 7 → (⟨q, p + j, none⟩ : Addr) ≠ ⟨q, o, none⟩ := fun j hj e => by
    injection e with _ e2
    exact h j hj e2.symm
  unfold put7
  rw [World.cell?_setCell_other _ _ _ _ (hn 6 (by omega)), World.cell?_setCell_other _ _ _ _ (hn 5 (by omega)), World.cell?_setCell_other _ _ _ _ (hn 4 (by omega)), World.cell?_setCell_other _ _ _ _ (hn 3 (by omega)), World.cell?_setCell_other _ _ _ _ (hn 2 (by omega)), World.cell?_setCell_other _ _ _ _ (hn 1 (by omega)), World.cell?_setCell_other _ _ _ _ (show (⟨q, p, none⟩ : Addr) ≠ ⟨q, o, none⟩ from hn 0 (by omega))]
theorem put7_stay : Stay w (put7 w q p v0 v1 v2 v3 v4 v5 v6) :=
  ((((((Stay.set_ _ ⟨q, p, none⟩ rfl v0).trans (Stay.set_ _ ⟨q, p + 1, none⟩ rfl v1)).trans (Stay.set_ _ ⟨q, p + 2, none⟩ rfl v2)).trans (Stay.set_ _ ⟨q, p + 3, none⟩ rfl v3)).trans (Stay.set_ _ ⟨q, p + 4, none⟩ rfl v4)).trans (Stay.set_ _ ⟨q, p + 5, none⟩ rfl v5)).trans (Stay.set_ _ ⟨q, p + 6, none⟩ rfl v6)
theorem put7_below {B : Nat} {a : World} (h : Below B a w) (hq : B ≤ q) : Below B a (put7 w q p v0 v1 v2 v3 v4 v5 v6) :=
  ((((((h.setCell (p := ⟨q, p, none⟩) hq _).setCell (p := ⟨q, p + 1, none⟩) hq _).setCell (p := ⟨q, p + 2, none⟩) hq _).setCell (p := ⟨q, p + 3, none⟩) hq _).setCell (p := ⟨q, p + 4, none⟩) hq _).setCell (p := ⟨q, p + 5, none⟩) hq _).setCell (p := ⟨q, p + 6, none⟩) hq _
theorem put7_at {T : Nat} {cs : Array Value} (hB : Blk w q T cs) (h : p + 7 ≤ cs.size) : (put7 w q p v0 v1 v2 v3 v4 v5 v6).cell? ⟨q, p, none⟩ = some v0 ∧ (put7 w q p v0 v1 v2 v3 v4 v5 v6).cell? ⟨q, p + 1, none⟩ = some v1 ∧ (put7 w q p v0 v1 v2 v3 v4 v5 v6).cell? ⟨q, p + 2, none⟩ = some v2 ∧ (put7 w q p v0 v1 v2 v3 v4 v5 v6).cell? ⟨q, p + 3, none⟩ = some v3 ∧ (put7 w q p v0 v1 v2 v3 v4 v5 v6).cell? ⟨q, p + 4, none⟩ = some v4 ∧ (put7 w q p v0 v1 v2 v3 v4 v5 v6).cell? ⟨q, p + 5, none⟩ = some v5 ∧ (put7 w q p v0 v1 v2 v3 v4 v5 v6).cell? ⟨q, p + 6, none⟩ = some v6 := by
  have hB' : Blk (put7 w q p v0 v1 v2 v3 v4 v5 v6) q T (((((((cs.setIfInBounds p v0).setIfInBounds (p + 1) v1).setIfInBounds (p + 2) v2).setIfInBounds (p + 3) v3).setIfInBounds (p + 4) v4).setIfInBounds (p + 5) v5).setIfInBounds (p + 6) v6) := ((((((hB.set_ p v0).set_ (p + 1) v1).set_ (p + 2) v2).set_ (p + 3) v3).set_ (p + 4) v4).set_ (p + 5) v5).set_ (p + 6) v6
  refine ⟨?_, ?_, ?_, ?_, ?_, ?_, ?_⟩ <;> rw [hB'.cell] <;> simp [Array.getElem?_setIfInBounds] <;> omega
end
/-- What the round's stores leave of what may be changed. -/
theorem loose_new {base Bo : Nat} {W5 W' : World} {q k : Nat} {kk : Int} {A1 A4 : Option Addr} {n1 n4 c1 c4 : Nat} {xs : List (Int × Int)} {csb : List Value} {sub : Bd} {S : Nat → Prop} {Wx : World} (hbo : base ≤ Bo) (hq : q < Bo) (hfar : ∀ k, k ≠ q → W'.heap[k]? = W5.heap[k]?)
    (g0 : W'.cell? ⟨q, k * 7, none⟩ = some (.int .u8 kk)) (g5 : W'.cell? ⟨q, k * 7 + 5, none⟩ = some (.slice A1 n1 c1)) (g6 : W'.cell? ⟨q, k * 7 + 6, none⟩ = some (.slice A4 n4 c4))
    (h1 : W5.ownsRow Bo 46 2 (.slice A1 n1 c1) n1 (refV xs)) (h4 : W5.ownsRow Bo 50 7 (.slice A4 n4 c4) n4 csb) (hn1 : n1 = xs.length) (hn4 : n4 = sub.len) (hcs : CellsB S Wx csb sub) : LooseAt base W' q k := by
  refine ⟨⟨kk, g0⟩, ⟨A1, n1, c1, g5, fun hp => ?_⟩, ⟨A4, n4, c4, g6, fun hp => ?_⟩⟩
  · obtain ⟨b, cap, hv, hb, _⟩ := own_formM h1 hp
    obtain ⟨_, cur, hB⟩ := own_blk h1 b (by rw [hv]; rfl)
    injection hv with hv1 hv2 hv3
    subst hv1 hv3
    have hb' : W'.heap[b]? = W5.heap[b]? := hfar b (by omega)
    cases xs with
    | nil => simp at hn1; omega
    | cons x l => exact ⟨b, x.2, 46, cur, rfl, by omega, hb'.trans hB, .inl rfl, (World.cell?_of_block hb').trans (own_cellsM h1 1 _ rfl)⟩
  · obtain ⟨b, cap, hv, hb, _⟩ := own_formM h4 hp
    obtain ⟨_, cur, hB⟩ := own_blk h4 b (by rw [hv]; rfl)
    injection hv with hv1 hv2 hv3
    subst hv1 hv3
    have hb' : W'.heap[b]? = W5.heap[b]? := hfar b (by omega)
    cases sub with
    | nil => simp [Bd.len] at hn4; omega
    | cons k0 a1 a2 b1 b2 ys s r =>
      obtain ⟨va, A, c, cr, rfl, _⟩ := hcs
      exact ⟨b, k0, 50, cur, rfl, by omega, hb'.trans hB, .inr rfl, (World.cell?_of_block hb').trans (own_cellsM h4 0 _ rfl)⟩
end Go.Proofs.Ytpdebnecfknohaa
namespace Go.Proofs.Ytpdebnecfknohaa
open Go.RowKit
set_option linter.unusedVariables false
set_option maxRecDepth 20000
theorem BdS.drop {S : Nat → Prop} {w : World} : ∀ (t : Bd) (b o i : Nat), BdS S w b o t → BdS S w b (o + i * 7) (t.drop i)
  | t, b, o, 0, h => by simpa [Bd.drop] using h
  | .nil, b, o, i + 1, h => by simp [Bd.drop, BdS]
  | .cons _ _ _ _ _ _ _ rest, b, o, i + 1, h => by
    have := BdS.drop rest b (o + 7) i h.2.2.2.2
    rw [show o + (i + 1) * 7 = o + 7 + i * 7 from by omega]
    exact this
theorem loose_step {base : Nat} {wr W' : World} {A Ap : Option Addr} {c cp : Nat} {t tp : Bd} {dn : Nat → Nat} {qp i : Nat} {S S' : Nat → Prop} (hAp : Ap = some ⟨qp, 0, none⟩) (hi : i < tp.len)
    (hd : (dn = id ∧ (⟨Ap, cp, tp⟩ : Ln) = ⟨A, c, t⟩) ∨ ((∀ i, dn i = t.len) ∧ (0 < tp.len → 0 < t.len → Ap ≠ A))) (h : ∀ q, A = some ⟨q, 0, none⟩ → ∀ k, k < dn i → LooseAt base wr q k) (hs : SwapS S S' wr W' qp (i * 7)) (hst : Stay wr W') (hn : LooseAt base W' qp i) :
    ∀ q, A = some ⟨q, 0, none⟩ → ∀ k, k < dn (i + 1) → LooseAt base W' q k := by
  intro q hA k hk
  rcases hd with ⟨rfl, he⟩ | ⟨h1, h2⟩
  · have e1 : Ap = A := congrArg Ln.A he
    have e2 : q = qp := by
      rw [hAp, hA] at e1
      injection e1 with e1
      injection e1 with e1
      exact e1.symm
    subst e2
    simp only [id_eq] at hk
    by_cases hki : k = i
    · subst hki; exact hn
    · exact (h q hA k (by simp only [id_eq]; omega)).swap hs hst (by omega) (by omega)
  · rw [h1] at hk
    have hne : q ≠ qp := fun e => by
      subst e
      exact h2 (by omega) (by omega) (hAp.trans hA.symm)
    exact (h q hA k (by rw [h1]; exact hk)).swap hs hst (fun e => hne e.1) (fun e => hne e.1)
/-- What one round leaves. -/
structure Round (S0 : Nat → Prop) (base : Nat) (wr W' : World) (qp i : Nat) (A4 : Option Addr) (c4 : Nat) (sub : Bd) : Prop where
  swap : SwapS (NR S0 base wr) (NR S0 base W') wr W' qp (i * 7)
  stay : Stay wr W'
  loose : LooseAt base W' qp i
  sub : ∀ (Ap : Option Addr) (cp : Nat) (tp : Bd) (k a1 a2 b1 b2 : Int) (xs : List (Int × Int)) (rest : Bd), Ap = some ⟨qp, 0, none⟩ → i < tp.len → tp.drop i = .cons k a1 a2 b1 b2 xs sub rest → OKl S0 base wr ⟨Ap, cp, tp⟩ → OKl S0 base W' ⟨A4, c4, sub⟩
  bel : ∀ w : World, base = w.heap.size → Below w.heap.size w wr → Below w.heap.size w W'
  own : ∀ (v : Value) (n : Nat) (xs : List Value), wr.ownsRow base 38 1 v n xs → W'.ownsRow base 38 1 v n xs
theorem round_all {S0 : Nat → Prop} {base Bo i qp : Nat} {wr w5 w3 : World} {k a1 a2 b1 b2 : Int} {Aa As A1 A4 : Option Addr} {ca cs c1 c4 lx lsb : Nat} {xs : List (Int × Int)} {sub : Bd} {csp : Array Value} {csb : List Value} {S : Nat → Prop} (hbase : base ≤ qp)
    (hb5 : Below wr.heap.size wr w5) (hb3 : Below wr.heap.size wr w3) (hBp : Blk wr qp 50 csp)
    (hx : wr.cell? ⟨qp, i * 7, none⟩ = some (.int .u8 k) ∧ wr.cell? ⟨qp, i * 7 + 1, none⟩ = some (.int .u8 a1) ∧ wr.cell? ⟨qp, i * 7 + 2, none⟩ = some (.int .i64 a2) ∧ wr.cell? ⟨qp, i * 7 + 3, none⟩ = some (.int .u8 b1) ∧ wr.cell? ⟨qp, i * 7 + 4, none⟩ = some (.int .i64 b2) ∧ wr.cell? ⟨qp, i * 7 + 5, none⟩ = some (.slice Aa xs.length ca) ∧ wr.cell? ⟨qp, i * 7 + 6, none⟩ = some (.slice As sub.len cs))
    (ha : ArgsAt wr (.slice Aa xs.length ca) xs) (hS : BodyV wr As sub) (hlx : lx = xs.length) (hls : lsb = sub.len)
    (hBo : wr.heap.size ≤ Bo) (hO1 : w5.ownsRow Bo 46 2 (.slice A1 lx c1) lx (refV xs)) (hO4 : w5.ownsRow Bo 50 7 (.slice A4 lsb c4) lsb csb)
    (hcs : CellsB S w3 csb sub) (hcc : ∀ a, As = some a → ∀ j u, csb[j]? = some u → w3.cell? (a.add j) = some u) :
    Round S0 base wr (put7 w5 qp (i * 7) (.int .u8 k) (.int .u8 a1) (.int .i64 a2) (.int .u8 b1) (.int .i64 b2) (.slice A1 lx c1) (.slice A4 lsb c4)) qp i A4 c4 sub := by
  obtain ⟨x0, x1, x2, x3, x4, x5, x6⟩ := hx
  have hqp : qp < wr.heap.size := hBp.lt
  have hB5 := hBp.old hb5
  have hsz : i * 7 + 7 ≤ csp.size := by
    have h1 := hBp.cell (i * 7 + 6)
    rw [x6] at h1
    rcases Nat.lt_or_ge (i * 7 + 6) csp.size with h | h
    · omega
    · rw [Array.getElem?_eq_none h] at h1; cases h1
  obtain ⟨g0, g1, g2, g3, g4, g5, g6⟩ := put7_at (v0 := .int .u8 k) (v1 := .int .u8 a1) (v2 := .int .i64 a2) (v3 := .int .u8 b1) (v4 := .int .i64 b2) (v5 := .slice A1 lx c1) (v6 := .slice A4 lsb c4) hB5 hsz
  have hst5 := @put7_stay w5 qp (i * 7) (.int .u8 k) (.int .u8 a1) (.int .i64 a2) (.int .u8 b1) (.int .i64 b2) (.slice A1 lx c1) (.slice A4 lsb c4)
  have hfar := @put7_far w5 qp (i * 7) (.int .u8 k) (.int .u8 a1) (.int .i64 a2) (.int .u8 b1) (.int .i64 b2) (.slice A1 lx c1) (.slice A4 lsb c4)
  have hsame := @put7_same w5 qp (i * 7) (.int .u8 k) (.int .u8 a1) (.int .i64 a2) (.int .u8 b1) (.int .i64 b2) (.slice A1 lx c1) (.slice A4 lsb c4)
  have hheap := @put7_heap w5 qp (i * 7) (.int .u8 k) (.int .u8 a1) (.int .i64 a2) (.int .u8 b1) (.int .i64 b2) (.slice A1 lx c1) (.slice A4 lsb c4)
  have hbel := fun (B : Nat) (a : World) => @put7_below w5 qp (i * 7) (.int .u8 k) (.int .u8 a1) (.int .i64 a2) (.int .u8 b1) (.int .i64 b2) (.slice A1 lx c1) (.slice A4 lsb c4) B a
  generalize put7 w5 qp (i * 7) (.int .u8 k) (.int .u8 a1) (.int .i64 a2) (.int .u8 b1) (.int .i64 b2) (.slice A1 lx c1) (.slice A4 lsb c4) = W' at *
  have hst : Stay wr W' := (Stay.old hb5).trans hst5
  have hnr : ∀ T k, T ≠ 38 → base ≤ k → (∃ cur, Blk w5 k T cur) → NR S0 base W' k := fun T k hT hbk ⟨cur, h⟩ => by
    obtain ⟨cs', h'⟩ := hst5 k T cur h
    exact .inr ⟨hbk, T, cs', h', hT⟩
  subst hlx hls
  have hcc' : ∀ a, As = some a → ∀ j u, csb[j]? = some u → wr.cell? (a.add j) = some u := fun a hA j u hj => by
    have hl := CellsB.len sub csb hcs
    have hjl : j < csb.length := by
      rcases Nat.lt_or_ge j csb.length with h | h
      · exact h
      · rw [List.getElem?_eq_none h] at hj; cases hj
    obtain ⟨b, o, hA', hb⟩ := hS (by omega)
    rw [hA] at hA'
    injection hA' with hA'
    subst hA'
    have hlt : b < wr.heap.size := by
      cases sub with
      | nil => have h0 : Bd.nil.len = 0 := rfl; omega
      | cons => exact World.block_lt_of_cell? wr ⟨b, o, none⟩ hb.1.1
    have := hcc _ hA j u hj
    rw [Go.WideShapes.add_plain] at this ⊢
    exact (World.cell?_of_block (hb3.block b hlt)).symm.trans this
  have hA : ArgsS (fun k => k ≠ qp ∧ NR S0 base W' k) w5 (.slice A1 xs.length c1) xs := by
    obtain ⟨A, c, hv, f⟩ := own_argsF rfl hO1
    refine ⟨A, c, hv, fun hp => ?_⟩
    obtain ⟨b, o, hA, hb, hc⟩ := f hp
    refine ⟨b, o, hA, ⟨by omega, hnr 46 b (by decide) (by omega) (own_blk hO1 b ?_).2⟩, hc⟩
    injection hv with hv1
    rw [hv1, hA]
    rfl
  have hsw := SwapS.of hb5 (NR.stay (S0 := S0) (base := base) hst) x0 x1 x2 x3 x4 x5 x6 hfar hsame g0 g1 g2 g3 g4 g5 g6 ha hA hO4 (by omega) (fun k hk => hnr 50 k (by decide) (by have := (own_blk hO4 k hk).1; omega) (own_blk hO4 k hk).2) (CellsB.len sub csb hcs) hcc'
  refine ⟨hsw, hst, loose_new (Bo := Bo) (by omega) (by omega) (fun k hk => hheap hk) g0 g5 g6 hO1 hO4 rfl rfl hcs, fun Ap cp tp k a1 a2 b1 b2 xs rest hAp hi hd hOK => ?_, fun w hw hb => ?_, fun v n xs h => ?_⟩
  · have h' := hOK.swap hsw hst
    refine ⟨fun hp => ?_, fun hp => ?_, by have := Bd.sub_wide tp i hd; have := hOK.2.2; simp only at this ⊢; omega⟩
    · obtain ⟨q, cap, hv, hb, _⟩ := own_formM hO4 hp
      obtain ⟨_, cur, hB⟩ := own_blk hO4 q (by rw [hv]; rfl)
      obtain ⟨cs', hB'⟩ := hst5 q 50 cur hB
      injection hv with hv1 hv2 hv3
      exact ⟨q, cs', hv1, by omega, hB'⟩
    · obtain ⟨b, o, hA, hbd⟩ := h'.2.1 (by simp only; omega)
      simp only at hA
      rw [hAp] at hA
      injection hA with hA
      injection hA with e1 e2
      subst e1 e2
      have h2 := BdS.drop tp _ _ i hbd
      rw [hd] at h2
      simp only [Nat.zero_add] at h2
      obtain ⟨_, _, _, ⟨A, c, h6, hs⟩, _⟩ := h2
      rw [g6] at h6
      injection h6 with h6
      injection h6 with h6
      subst h6
      exact hs hp
  · subst hw
    exact hbel _ _ (hb.trans (hb5.mono hb.size)) hbase
  · have h5 := own_old h hb5
    refine own_blocks h5 (fun k hk => hheap (fun e => ?_))
    subst e
    exact own_ne h5 hB5 (by decide) hk
theorem OKl.old {S0 : Nat → Prop} {base : Nat} {W W' : World} {p : Ln} (h : OKl S0 base W p) (hb : Below W.heap.size W W') : OKl S0 base W' p := by
  refine ⟨fun hp => ?_, h.2.1.kept (Below.keptS hb) (fun k hk _ => NR.stay (Stay.old hb) k hk), h.2.2⟩
  obtain ⟨q, cs, h1, h2, h3⟩ := h.1 hp
  exact ⟨q, cs, h1, h2, h3.old hb⟩
theorem LooseAt.old {base : Nat} {W W' : World} {q k : Nat} (h : LooseAt base W q k) (hb : Below W.heap.size W W') : LooseAt base W' q k := by
  have kc : ∀ (b o : Nat) (u : Value), W.cell? ⟨b, o, none⟩ = some u → W'.cell? ⟨b, o, none⟩ = some u := fun b o u hu => cell_old hb (World.block_lt_of_cell? W ⟨b, o, none⟩ hu) hu
  obtain ⟨⟨x, h0⟩, ⟨A, m, c, h5, ha⟩, ⟨A', m', c', h6, hb'⟩⟩ := h
  refine ⟨⟨x, kc _ _ _ h0⟩, ⟨A, m, c, kc _ _ _ h5, fun hp => ?_⟩, ⟨A', m', c', kc _ _ _ h6, fun hp => ?_⟩⟩
  · obtain ⟨b, x, T, ds, hA, hbb, hB, hT, hc⟩ := ha hp
    exact ⟨b, x, T, ds, hA, hbb, hB.old hb, hT, kc _ _ _ hc⟩
  · obtain ⟨b, x, T, ds, hA, hbb, hB, hT, hc⟩ := hb' hp
    exact ⟨b, x, T, ds, hA, hbb, hB.old hb, hT, kc _ _ _ hc⟩
end Go.Proofs.Ytpdebnecfknohaa
