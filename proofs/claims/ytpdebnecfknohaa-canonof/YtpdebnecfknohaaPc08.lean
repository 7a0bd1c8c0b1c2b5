/-
  Parts: Ce Xm Xn.
-/
import Derived.Test.YtpdebnecfknohaaPc00
import Derived.Test.YtpdebnecfknohaaPc01
import Derived.Test.YtpdebnecfknohaaPc02
import Derived.Test.YtpdebnecfknohaaPc03
import Derived.Test.YtpdebnecfknohaaPc04
import Derived.Test.YtpdebnecfknohaaPc05
import Derived.Test.YtpdebnecfknohaaPc06
import Derived.Test.YtpdebnecfknohaaPc07
import Derived.Deep.DeepCutAuto
import Derived.Deep.CutBlock
import Derived.Deep.RegionHeld
namespace Go.Proofs.Ytpdebnecfknohaa
open Go.RowKit
set_option linter.unusedVariables false
set_option maxRecDepth 20000
/-- The cells of functions. -/
def FnCells (S : Nat → Prop) (w : World) (cs : List Value) (L : List Fn) : Prop := cs.length = L.length * 5 ∧ (∀ u ∈ cs, u.oneCell' = true) ∧ ∀ i (h : i < L.length), ∃ fs, FnS S w fs L[i] ∧ ∀ j u, fs[j]? = some u → cs[i * 5 + j]? = some u
theorem fnS_len {S : Nat → Prop} {w : World} {fs : List Value} {f : Fn} (h : FnS S w fs f) : fs.length = 5 := by
  obtain ⟨Al, cl, As, cs', Ab, cb, rfl, _⟩ := h
  rfl
theorem fns_cells {S : Nat → Prop} {w : World} {b : Nat} : ∀ (L : List Fn) (o : Nat), (∀ i (h : i < L.length), ∃ fs, FnS S w fs L[i] ∧ ∀ j u, fs[j]? = some u → w.cell? ⟨b, o + i * 5 + j, none⟩ = some u) → ∃ cs, FnCells S w cs L ∧ ∀ j u, cs[j]? = some u → w.cell? ⟨b, o + j, none⟩ = some u
  | [], o, h => ⟨[], ⟨rfl, fun u hu => by simp at hu, fun i hi => by simp at hi⟩, fun j u hj => by simp at hj⟩
  | f :: L, o, h => by
    obtain ⟨fs, hf, hc⟩ := h 0 (by simp)
    have hl := fnS_len hf
    obtain ⟨cr, ⟨h1, h2, h3⟩, h4⟩ := fns_cells L (o + 5) (fun i hi => by
      obtain ⟨fs', hf', hc'⟩ := h (i + 1) (by simpa using hi)
      refine ⟨fs', hf', fun j u hj => ?_⟩
      rw [show o + 5 + i * 5 + j = o + (i + 1) * 5 + j from by omega]
      exact hc' j u hj)
    refine ⟨fs ++ cr, ⟨by simp [hl, h1]; omega, fun u hu => ?_, fun i hi => ?_⟩, fun j u hj => ?_⟩
    · rcases List.mem_append.1 hu with hu | hu
      · obtain ⟨Al, cl, As, cs', Ab, cb, rfl, _⟩ := hf
        simp only [List.mem_cons, List.not_mem_nil, or_false] at hu
        rcases hu with rfl | rfl | rfl | rfl | rfl <;> rfl
      · exact h2 u hu
    · cases i with
      | zero =>
        refine ⟨fs, hf, fun j u hj => ?_⟩
        have hjl : j < fs.length := by
          rcases Nat.lt_or_ge j fs.length with h | h
          · exact h
          · rw [List.getElem?_eq_none h] at hj; cases hj
        rw [show 0 * 5 + j = j from by omega, List.getElem?_append_left hjl]
        exact hj
      | succ i =>
        obtain ⟨fs', hf', hc'⟩ := h3 i (by simpa using hi)
        refine ⟨fs', hf', fun j u hj => ?_⟩
        rw [List.getElem?_append_right (by omega), hl, show (i + 1) * 5 + j - 5 = i * 5 + j from by omega]
        exact hc' j u hj
    · rcases Nat.lt_or_ge j fs.length with hjl | hjl
      · rw [List.getElem?_append_left hjl] at hj
        have := hc j u hj
        rwa [show o + 0 * 5 + j = o + j from by omega] at this
      · rw [List.getElem?_append_right hjl] at hj
        have := h4 _ u hj
        rwa [show o + 5 + (j - fs.length) = o + j from by omega] at this
theorem RdS.low {S : Nat → Prop} {w : World} {A : Option Addr} {n : Nat} {xs : List Value} (r : RdS S w A n 1 xs) : RdS (fun k => k < w.heap.size ∧ S k) w A n 1 xs := by
  refine ⟨r.1, fun hp => ?_⟩
  obtain ⟨b, o, hA, hS, hc⟩ := r.2 hp
  have hx : 0 < xs.length := by rw [r.1]; omega
  exact ⟨b, o, hA, ⟨World.block_lt_of_cell? w ⟨b, o + 0, none⟩ (hc 0 _ (List.getElem?_eq_getElem hx)), hS⟩, hc⟩
theorem FnsS.low {S : Nat → Prop} {w : World} {A : Option Addr} {L : List Fn} (h : FnsS S w A L) : FnsS (fun k => k < w.heap.size ∧ S k) w A L := fun hp => by
  obtain ⟨b, o, hA, hS, hb⟩ := h hp
  obtain ⟨fs0, hf0, hc0⟩ := hb 0 hp
  have hl0 := fnS_len hf0
  have hlt : b < w.heap.size := World.block_lt_of_cell? w ⟨b, o + 0 * 5 + 0, none⟩ (hc0 0 _ (List.getElem?_eq_getElem (by omega)))
  refine ⟨b, o, hA, ⟨hlt, hS⟩, fun i hi => ?_⟩
  obtain ⟨fs, ⟨Al, cl, As, cs', Ab, cb, e, r1, r2, r3⟩, hc⟩ := hb i hi
  exact ⟨fs, ⟨Al, cl, As, cs', Ab, cb, e, r1.low, r2.low, r3.low⟩, hc⟩
theorem FnCells.kept {S S' : Nat → Prop} {w w' : World} {cs : List Value} {L : List Fn} (h : FnCells S w cs L) (hk : Kept S w w') (hS : ∀ k, S k → k < w.heap.size → S' k) : FnCells S' w' cs L := ⟨h.1, h.2.1, fun i hi => by
  obtain ⟨fs, hf, hc⟩ := h.2.2 i hi
  exact ⟨fs, hf.kept hk hS, hc⟩⟩
set_option maxRecDepth 20000 in
set_option maxHeartbeats 1000000 in
theorem cloneF_any (S : Nat → Prop) (Af : Option Addr) (cf : Nat) (L : List Fn) (w : World) (h : FnsS S w Af L) (hl : L.length ≤ 1000000) :
    Calls Try.prog 78 #[.slice Af L.length cf] w fun e w' => ∃ A c, e = .returned (.slice A L.length c) ∧ (∃ cs, w'.ownsRow w.heap.size 40 5 (.slice A L.length c) L.length cs ∧ FnCells S w cs L) ∧ Below w.heap.size w w' := by
  obtain ⟨i0, hi0, hz0, hz1, hz2⟩ := info_parts info40
  obtain ⟨n, hnl⟩ : ∃ n, n = L.length := ⟨_, rfl⟩
  have HNL := Lib.hid hnl
  cases Af with
  | none =>
    have h0 : L = [] := by
      rcases Nat.eq_zero_or_pos L.length with h0 | h0
      · exact List.eq_nil_of_length_eq_zero h0
      · obtain ⟨b, o, hA, _⟩ := h h0; cases hA
    subst h0
    clear h
    have hq := fun W => Lib.run_eql_slice_nil (P := Try.prog) W 28 40 none 0 cf 0 0 Try.underlying28
    simp only [List.length_nil]
    go_enter Try.func78, Try.ntmps78
    go_wp2
    go_ret
    exact ⟨none, 0, rfl, ⟨[], World.ownsRow_nil _ _ _ _, rfl, fun u hu => by simp at hu, fun i hi => by simp at hi⟩, Below.refl _ _⟩
  | some a =>
    obtain ⟨cs, hcs, hcc⟩ : ∃ cs, FnCells S w cs L ∧ ∀ j u, cs[j]? = some u → w.cell? (a.add j) = some u := by
      rcases Nat.eq_zero_or_pos L.length with h0 | h0
      · have ht : L = [] := List.eq_nil_of_length_eq_zero h0
        subst ht
        exact ⟨[], ⟨rfl, fun u hu => by simp at hu, fun i hi => by simp at hi⟩, fun j u hj => by simp at hj⟩
      · obtain ⟨b, o, hA, _, hb⟩ := h h0
        injection hA with hA
        subst hA
        obtain ⟨cs, h1, h2⟩ := fns_cells L o hb
        exact ⟨cs, h1, fun j u hj => by rw [Go.WideShapes.add_plain]; exact h2 j u hj⟩
    have HF := Lib.hid hcc
    have HCS := Lib.hid hcs
    have HFL : Hid (cs.length = n * 5) := by show _ = _; rw [hcs.1, hnl]
    rw [← hnl] at hl ⊢
    clear hcc h hnl hcs
    have hq := fun W => Lib.run_eql_slice_nil (P := Try.prog) W 28 40 (some a) n cf 0 0 Try.underlying28
    go_enter Try.func78, Try.ntmps78
    go_wp2_with (first | (at_builtin; refine wpList_append_own_at _ rfl (.tmp 5) (.tmp 6) 28 rfl w.heap.size 40 i0 (.agg #[.int .i64 0, .int .i64 0, .slice none 0 0, .slice none 0 0, .slice none 0 0]) 5 88 Try.underlying28 hi0 hz0 hz1 hz2 rfl (by decide) (.slice (some ⟨w.heap.size, 0, none⟩) 0 0) 0 [] rfl ?d1 a n cf cs rfl ?c1 ?c2 ?c3 ?c4 ?c5 ?c6 ?_))
    case d1 => exact World.ownsRow_made w #[] 0 (Nat.le_refl _) (by unfold maxLen; omega) rfl
    case c1 => exact HFL.out
    case c2 =>
      intro j u hu
      have := HF.out j u hu
      rw [World.cell?_alloc_lt w _ _ (World.block_lt_of_cell? w _ this)]
      exact this
    case c3 => exact HCS.out.2.1
    case c4 => unfold maxLen; omega
    case c5 => omega
    case c6 => simp
    intro v' w1 hown hg _ hat
    have hown' : w1.ownsRow w.heap.size 40 5 v' n cs := by simpa using hown
    obtain ⟨A, c, rfl⟩ := own_slice hown'
    have HO := Lib.hid hown'
    have HB := Lib.hid (((Below.refl w.heap.size w).alloc (Nat.le_refl _) (.cells #[] 40)).grown hg (by simp) (fun k hk => by simp [Value.ownBlock] at hk; omega))
    clear hown hown' hg hat
    go_wp2
    go_ret
    exact ⟨A, c, rfl, ⟨cs, HO.out, HCS.out⟩, HB.out⟩
/-- What may be changed of a function of a copy. -/
def FMut (base : Nat) (W : World) (qf j : Nat) : Prop := ∃ x Al ll cl Ab lb cb, W.cell? ⟨qf, j * 5, none⟩ = some (.int .i64 x) ∧ W.cell? ⟨qf, j * 5 + 2, none⟩ = some (.slice Al ll cl) ∧ W.cell? ⟨qf, j * 5 + 4, none⟩ = some (.slice Ab lb cb) ∧
  (0 < ll → ∃ ql y cs, Al = some ⟨ql, 0, none⟩ ∧ base ≤ ql ∧ Blk W ql 3 cs ∧ W.cell? ⟨ql, 0, none⟩ = some (.int .i64 y)) ∧
  (0 < lb → ∃ qb cs, Ab = some ⟨qb, 0, none⟩ ∧ base ≤ qb ∧ Blk W qb 50 cs ∧ ∀ k, k < lb → LooseAt base W qb k)
theorem LooseAt.far {base qf T0 : Nat} {cs0 : Array Value} {W W' : World} {q k : Nat} {cs : Array Value} (h : LooseAt base W q k) (hq : Blk W q 50 cs) (hf : Blk W qf T0 cs0) (h43 : T0 ≠ 46) (h46 : T0 ≠ 50) (hk : ∀ k, k < W.heap.size → k ≠ qf → W'.heap[k]? = W.heap[k]?) : LooseAt base W' q k := by
  have ne : ∀ b T (ds : Array Value), Blk W b T ds → (T = 46 ∨ T = 50) → b ≠ qf := fun b T ds hb hT e => by
    subst e
    have := hb.uniq hf
    rcases hT with rfl | rfl
    · exact h43 this.symm
    · exact h46 this.symm
  have kc : ∀ (b T : Nat) (ds : Array Value), Blk W b T ds → (T = 46 ∨ T = 50) → ∀ (o : Nat) (u : Value), W.cell? ⟨b, o, none⟩ = some u → W'.cell? ⟨b, o, none⟩ = some u := fun b T ds hB hT o u hu => (World.cell?_of_block (hk b hB.lt (ne b T ds hB hT))).trans hu
  have kb : ∀ (b T : Nat) (ds : Array Value), Blk W b T ds → (T = 46 ∨ T = 50) → Blk W' b T ds := fun b T ds hB hT => (hk b hB.lt (ne b T ds hB hT)).trans hB
  obtain ⟨⟨x, h0⟩, ⟨A, m, c, h5, ha⟩, ⟨A', m', c', h6, hb'⟩⟩ := h
  refine ⟨⟨x, kc _ _ _ hq (.inr rfl) _ _ h0⟩, ⟨A, m, c, kc _ _ _ hq (.inr rfl) _ _ h5, fun hp => ?_⟩, ⟨A', m', c', kc _ _ _ hq (.inr rfl) _ _ h6, fun hp => ?_⟩⟩
  · obtain ⟨b, x, T, ds, hA, hbb, hB, hT, hc⟩ := ha hp
    exact ⟨b, x, T, ds, hA, hbb, kb _ _ _ hB hT, hT, kc _ _ _ hB hT _ _ hc⟩
  · obtain ⟨b, x, T, ds, hA, hbb, hB, hT, hc⟩ := hb' hp
    exact ⟨b, x, T, ds, hA, hbb, kb _ _ _ hB hT, hT, kc _ _ _ hB hT _ _ hc⟩
theorem LooseAt.base {base base' : Nat} {W : World} {q k : Nat} (h : LooseAt base' W q k) (hb : base ≤ base') : LooseAt base W q k := by
  obtain ⟨h0, ⟨A, m, c, h5, ha⟩, ⟨A', m', c', h6, hb'⟩⟩ := h
  refine ⟨h0, ⟨A, m, c, h5, fun hp => ?_⟩, ⟨A', m', c', h6, fun hp => ?_⟩⟩
  · obtain ⟨b, x, T, ds, hA, hbb, r⟩ := ha hp
    exact ⟨b, x, T, ds, hA, by omega, r⟩
  · obtain ⟨b, x, T, ds, hA, hbb, r⟩ := hb' hp
    exact ⟨b, x, T, ds, hA, by omega, r⟩
/-- Behind changes of the functions' row that leave this function's cells. -/
theorem FMut.far {base qf j : Nat} {cs0 : Array Value} {W W' : World} (h : FMut base W qf j) (hf : Blk W qf 40 cs0) (hk : ∀ k, k < W.heap.size → k ≠ qf → W'.heap[k]? = W.heap[k]?) (hc : ∀ t, t < 5 → W'.cell? ⟨qf, j * 5 + t, none⟩ = W.cell? ⟨qf, j * 5 + t, none⟩) : FMut base W' qf j := by
  obtain ⟨x, Al, ll, cl, Ab, lb, cb, e0, e2, e4, h1, h2⟩ := h
  refine ⟨x, Al, ll, cl, Ab, lb, cb, (hc 0 (by omega)).trans e0, (hc 2 (by omega)).trans e2, (hc 4 (by omega)).trans e4, fun hp => ?_, fun hp => ?_⟩
  · obtain ⟨ql, y, cs, hA, hb, hB, hy⟩ := h1 hp
    have hh := hk ql hB.lt (fun e => by subst e; exact absurd (hB.uniq hf) (by decide))
    exact ⟨ql, y, cs, hA, hb, hh.trans hB, (World.cell?_of_block hh).trans hy⟩
  · obtain ⟨qb, cs, hA, hb, hB, hL⟩ := h2 hp
    have hh := hk qb hB.lt (fun e => by subst e; exact absurd (hB.uniq hf) (by decide))
    exact ⟨qb, cs, hA, hb, hh.trans hB, fun k hkk => (hL k hkk).far hB hf (by decide) (by decide) hk⟩
theorem FMut.base {base base' : Nat} {W : World} {qf j : Nat} (h : FMut base' W qf j) (hb : base ≤ base') : FMut base W qf j := by
  obtain ⟨x, Al, ll, cl, Ab, lb, cb, e0, e2, e4, h1, h2⟩ := h
  refine ⟨x, Al, ll, cl, Ab, lb, cb, e0, e2, e4, fun hp => ?_, fun hp => ?_⟩
  · obtain ⟨ql, y, cs, hA, hbb, r⟩ := h1 hp
    exact ⟨ql, y, cs, hA, by omega, r⟩
  · obtain ⟨qb, cs, hA, hbb, hB, hL⟩ := h2 hp
    exact ⟨qb, cs, hA, by omega, hB, fun k hk => (hL k hk).base hb⟩
theorem FMut.old {base qf j : Nat} {W W' : World} (h : FMut base W qf j) (hb : Below W.heap.size W W') : FMut base W' qf j := by
  have kc : ∀ (b o : Nat) (u : Value), W.cell? ⟨b, o, none⟩ = some u → W'.cell? ⟨b, o, none⟩ = some u := fun b o u hu => cell_old hb (World.block_lt_of_cell? W ⟨b, o, none⟩ hu) hu
  obtain ⟨x, Al, ll, cl, Ab, lb, cb, e0, e2, e4, h1, h2⟩ := h
  refine ⟨x, Al, ll, cl, Ab, lb, cb, kc _ _ _ e0, kc _ _ _ e2, kc _ _ _ e4, fun hp => ?_, fun hp => ?_⟩
  · obtain ⟨ql, y, cs, hA, hbb, hB, hy⟩ := h1 hp
    exact ⟨ql, y, cs, hA, hbb, hB.old hb, kc _ _ _ hy⟩
  · obtain ⟨qb, cs, hA, hbb, hB, hL⟩ := h2 hp
    exact ⟨qb, cs, hA, hbb, hB.old hb, fun k hk => (hL k hk).old hb⟩
/-- A body like that, in rows of the call's own. -/
def CbV (S0 : Nat → Prop) (B : Nat) (w' : World) (A : Option Addr) (t : Bd) : Prop := (0 < t.len → ∃ q cs, A = some ⟨q, 0, none⟩ ∧ B ≤ q ∧ Blk w' q 50 cs ∧ ∀ k, k < t.len → LooseAt B w' q k) ∧ BodyS (fun k => B ≤ k ∨ S0 k) w' A t
theorem CbV.far {S0 : Nat → Prop} {B g : Nat} {cs0 : Array Value} {w W' : World} {A : Option Addr} {t : Bd} (h : CbV S0 B w A t) (hf : Blk w g 40 cs0) (hg : g < B) (hS : ¬ S0 g) (hk : ∀ k, k < w.heap.size → k ≠ g → W'.heap[k]? = w.heap[k]?) : CbV S0 B W' A t := by
  refine ⟨fun hp => ?_, h.2.kept (fun k hk' hlt => hk k hlt (fun e => ?_)) (fun _ h _ => h)⟩
  · obtain ⟨q, cs, hA, hq, hB, hL⟩ := h.1 hp
    exact ⟨q, cs, hA, hq, (hk q hB.lt (by omega)).trans hB, fun k hkk => (hL k hkk).far hB hf (by decide) (by decide) hk⟩
  · subst e
    rcases hk' with h1 | h1
    · omega
    · exact hS h1
/-- What Copy's loop keeps. -/
structure CpF (S1 : Nat → Prop) (base : Nat) (wr : World) (qf : Nat) (L : List Fn) (i : Nat) : Prop where
  row : ∃ cs, Blk wr qf 40 cs ∧ L.length * 5 ≤ cs.size
  qb : base ≤ qf
  fns : ∀ j (h : j < L.length), ∃ fs, FnS S1 wr fs L[j] ∧ ∀ t u, fs[t]? = some u → wr.cell? ⟨qf, j * 5 + t, none⟩ = some u
  muts : ∀ j, j < i → FMut base wr qf j
theorem CpF.reads {S1 : Nat → Prop} {base : Nat} {wr : World} {qf i : Nat} {L : List Fn} (h : CpF S1 base wr qf L i) : FnsS (fun _ => True) wr (some ⟨qf, 0, none⟩) L := fun hp => by
  refine ⟨qf, 0, rfl, trivial, fun j hj => ?_⟩
  obtain ⟨fs, hf, hc⟩ := h.fns j hj
  refine ⟨fs, hf.kept (fun _ _ _ => rfl) (fun _ _ _ => trivial), fun t u ht => ?_⟩
  rw [Nat.zero_add]
  exact hc t u ht
theorem CpF.old {S1 : Nat → Prop} {base : Nat} {wr w' : World} {qf i : Nat} {L : List Fn} (h : CpF S1 base wr qf L i) (hb : Below wr.heap.size wr w') : CpF S1 base w' qf L i := by
  obtain ⟨cs, h1, h2⟩ := h.row
  refine ⟨⟨cs, h1.old hb, h2⟩, h.qb, fun j hj => ?_, fun j hj => (h.muts j hj).old hb⟩
  obtain ⟨fs, hf, hc⟩ := h.fns j hj
  exact ⟨fs, hf.kept (Below.keptS hb) (fun _ h _ => h), fun t u ht => cell_old hb h1.lt (hc t u ht)⟩
/-- Five cells of a row. -/
def put5 (w : World) (q p : Nat) (v0 v1 v2 v3 v4 : Value) : World := ((((w.setCell ⟨q, p, none⟩ v0).setCell ⟨q, p + 1, none⟩ v1).setCell ⟨q, p + 2, none⟩ v2).setCell ⟨q, p + 3, none⟩ v3).setCell ⟨q, p + 4, none⟩ v4
section
variable {w : World} {q p : Nat} {v0 v1 v2 v3 v4 : Value}
theorem put5_heap {k : Nat} (h : k ≠ q) : (put5 w q p v0 v1 v2 v3 v4).heap[k]? = w.heap[k]? := by
  unfold put5
  rw [Below.heap_setCell _ _ _ _ h, Below.heap_setCell _ _ _ _ h, Below.heap_setCell _ _ _ _ h, Below.heap_setCell _ _ _ _ h, Below.heap_setCell _ _ _ _ h]
theorem put5_same (o : Nat) (h : ∀ j, j < 5 → o ≠ p + j) : (put5 w q p v0 v1 v2 v3 v4).cell? ⟨q, o, none⟩ = w.cell? ⟨q, o, none⟩ := by
  have hn : ∀ j, j < 5 → (⟨q, p + j, none⟩ : Addr) ≠ ⟨q, o, none⟩ := fun j hj e => by
    injection e with _ e2
    exact h j hj e2.symm
  unfold put5
  rw [World.cell?_setCell_other _ _ _ _ (hn 4 (by omega)), World.cell?_setCell_other _ _ _ _ (hn 3 (by omega)), World.cell?_setCell_other _ _ _ _ (hn 2 (by omega)), World.cell?_setCell_other _ _ _ _ (hn 1 (by omega)), World.cell?_setCell_other _ _ _ _ (show (⟨q, p, none⟩ : Addr) ≠ ⟨q, o, none⟩ from hn 0 (by omega))]
theorem put5_below {B : Nat} {a : World} (h : Below B a w) (hq : B ≤ q) : Below B a (put5 w q p v0 v1 v2 v3 v4) :=
  ((((h.setCell (p := ⟨q, p, none⟩) hq _).setCell (p := ⟨q, p + 1, none⟩) hq _).setCell (p := ⟨q, p + 2, none⟩) hq _).setCell (p := ⟨q, p + 3, none⟩) hq _).setCell (p := ⟨q, p + 4, none⟩) hq _
theorem put5_blk {T : Nat} {cs : Array Value} (hB : Blk w q T cs) : ∃ cs', Blk (put5 w q p v0 v1 v2 v3 v4) q T cs' ∧ cs'.size = cs.size ∧ (p + 5 ≤ cs.size → cs'[p]? = some v0 ∧ cs'[p + 1]? = some v1 ∧ cs'[p + 2]? = some v2 ∧ cs'[p + 3]? = some v3 ∧ cs'[p + 4]? = some v4) := by
  refine ⟨((((cs.setIfInBounds p v0).setIfInBounds (p + 1) v1).setIfInBounds (p + 2) v2).setIfInBounds (p + 3) v3).setIfInBounds (p + 4) v4, ((((hB.set_ p v0).set_ (p + 1) v1).set_ (p + 2) v2).set_ (p + 3) v3).set_ (p + 4) v4, by simp, fun h => ?_⟩
  refine ⟨?_, ?_, ?_, ?_, ?_⟩ <;> simp [Array.getElem?_setIfInBounds] <;> omega
end
/-- One round of Copy's loop. -/
theorem CpF.step {S1 S0 : Nat → Prop} {base : Nat} {wr w5 : World} {qf i : Nat} {L : List Fn} (h : CpF S1 base wr qf L i) (hi : i < L.length) (hb : Below wr.heap.size wr w5) {Al As Ab : Option Addr} {ll cl ls cs' lb cb Bl Bs : Nat} (hll : ll = L[i].locals.length) (hls : ls = L[i].sites.length) (hlb : lb = L[i].body.len) (hBl : wr.heap.size ≤ Bl) (hBs : wr.heap.size ≤ Bs)
    (h1 : w5.ownsRow Bl 3 1 (.slice Al ll cl) ll (intV L[i].locals)) (h2 : w5.ownsRow Bs 3 1 (.slice As ls cs') ls (intV L[i].sites)) {B0 : Nat} (hw0 : wr.heap.size ≤ B0) (hS1 : ∀ k, S1 k → k ≠ qf) (hS2 : ∀ k, wr.heap.size ≤ k → S1 k) (hS3 : ∀ k, S0 k → S1 k) (h3 : CbV S0 B0 w5 Ab L[i].body) :
    CpF S1 base (put5 w5 qf (i * 5) (.int .i64 L[i].name) (.int .i64 L[i].params) (.slice Al ll cl) (.slice As ls cs') (.slice Ab lb cb)) qf L (i + 1) := by
  obtain ⟨csr, hR, hRs⟩ := h.row
  have hR5 := hR.old hb
  obtain ⟨cs2, hR', hsz, hat⟩ := put5_blk (p := i * 5) (v0 := .int .i64 L[i].name) (v1 := .int .i64 L[i].params) (v2 := .slice Al ll cl) (v3 := .slice As ls cs') (v4 := .slice Ab lb cb) hR5
  have hsame := @put5_same w5 qf (i * 5) (.int .i64 L[i].name) (.int .i64 L[i].params) (.slice Al ll cl) (.slice As ls cs') (.slice Ab lb cb)
  have hheap := @put5_heap w5 qf (i * 5) (.int .i64 L[i].name) (.int .i64 L[i].params) (.slice Al ll cl) (.slice As ls cs') (.slice Ab lb cb)
  generalize put5 w5 qf (i * 5) (.int .i64 L[i].name) (.int .i64 L[i].params) (.slice Al ll cl) (.slice As ls cs') (.slice Ab lb cb) = W' at *
  obtain ⟨g0, g1, g2, g3, g4⟩ := hat (by omega)
  have hkk : ∀ k, k ≠ qf → W'.heap[k]? = w5.heap[k]? := fun k hk => hheap hk
  have hne : ∀ {B e s n c : Nat} {A : Option Addr} {xs : List Value}, w5.ownsRow B e s (.slice A n c) n xs → e ≠ 40 → ∀ k, some k = (Value.slice A n c).ownBlock → k ≠ qf := fun ho he k hk e => by
    subst e
    exact own_ne ho hR5 he hk
  have hs : ∀ {n c B : Nat} {A : Option Addr} {xs : List Value}, w5.ownsRow B 3 1 (.slice A n c) n xs → wr.heap.size ≤ B → RdS S1 W' A n 1 xs := fun {n c B A xs} ho hB => by
    refine ⟨ho.1, fun hp => ?_⟩
    obtain ⟨q, cap, hv, hBq, _⟩ := own_formM ho hp
    have hq := hne ho (by decide) q (by rw [hv]; rfl)
    injection hv with hv1 hv2 hv3
    subst hv1 hv3
    exact ⟨q, 0, rfl, hS2 q (by omega), fun j u hj => (World.cell?_of_block (hkk q hq)).trans (own_cellsM ho j u hj)⟩
  have hS5 : ∀ k, (B0 ≤ k ∨ S0 k) → S1 k := fun k hk => by
    rcases hk with hk | hk
    · exact hS2 k (by omega)
    · exact hS3 k hk
  have hcold : ∀ j, j ≠ i → ∀ t, t < 5 → W'.cell? ⟨qf, j * 5 + t, none⟩ = wr.cell? ⟨qf, j * 5 + t, none⟩ := fun j hj t ht => (hsame (j * 5 + t) (fun s hs => by omega)).trans (World.cell?_of_block (hb.block qf hR.lt))
  refine ⟨⟨cs2, hR', by rw [hsz]; exact hRs⟩, h.qb, fun j hj => ?_, fun j hj => ?_⟩
  · by_cases hji : j = i
    · subst hji
      subst hll hls hlb
      refine ⟨[.int .i64 L[j].name, .int .i64 L[j].params, .slice Al L[j].locals.length cl, .slice As L[j].sites.length cs', .slice Ab L[j].body.len cb], ⟨Al, cl, As, cs', Ab, cb, rfl, hs h1 hBl, hs h2 hBs, h3.2.kept (S' := S1) (fun k hk _ => hkk k (hS1 k (hS5 k hk))) (fun k hk _ => hS5 k hk)⟩, fun t u ht => ?_⟩
      rw [hR'.cell]
      match t, ht with
      | 0, ht => simp at ht; subst ht; exact g0
      | 1, ht => simp at ht; subst ht; exact g1
      | 2, ht => simp at ht; subst ht; exact g2
      | 3, ht => simp at ht; subst ht; exact g3
      | 4, ht => simp at ht; subst ht; exact g4
      | t + 5, ht => simp at ht
    · obtain ⟨fs, hf, hc⟩ := h.fns j hj
      refine ⟨fs, hf.kept (fun k hk hlt => (hkk k (hS1 k hk)).trans (hb.block k hlt)) (fun _ h _ => h), fun t u ht => ?_⟩
      have hl := fnS_len hf
      have htl : t < 5 := by
        rcases Nat.lt_or_ge t fs.length with h | h
        · omega
        · rw [List.getElem?_eq_none h] at ht; cases ht
      exact (hcold j hji t htl).trans (hc t u ht)
  · by_cases hji : j = i
    · subst hji
      refine ⟨_, Al, ll, cl, Ab, lb, cb, by rw [hR'.cell]; exact g0, by rw [hR'.cell]; exact g2, by rw [hR'.cell]; exact g4, fun hp => ?_, fun hp => ?_⟩
      · obtain ⟨q, cap, hv, hbq, _⟩ := own_formM h1 hp
        have hq := hne h1 (by decide) q (by rw [hv]; rfl)
        obtain ⟨_, cur, hB⟩ := own_blk h1 q (by rw [hv]; rfl)
        injection hv with hv1 hv2 hv3
        subst hv1 hv3
        have hx : 0 < (intV L[j].locals).length := by rw [intV_len]; omega
        have hx' : 0 < L[j].locals.length := by omega
        refine ⟨q, L[j].locals[0], cur, rfl, ?_, (hkk q hq).trans hB, (World.cell?_of_block (hkk q hq)).trans (own_cellsM h1 0 _ (intV_get L[j].locals 0 hx'))⟩
        have := h.qb
        have := hR.lt
        omega
      · subst hlb
        obtain ⟨q, cs, hA, hbq, hB, hL⟩ := h3.1 hp
        have hq : q ≠ qf := fun e => by
          subst e
          exact absurd (hB.uniq hR5) (by decide)
        have hbase : base ≤ B0 := by have := h.qb; have := hR.lt; omega
        refine ⟨q, cs, hA, by omega, (hkk q hq).trans hB, fun k hk => ?_⟩
        have h6 := (hL k hk).far hB hR5 (by decide) (by decide) (fun k _ hk => hkk k hk)
        exact h6.base hbase
    · exact ((h.muts j (by omega)).old hb).far hR5 (fun k _ hk => hkk k hk) (fun t ht => hsame (j * 5 + t) (fun s hs => by omega))
theorem CpF.first {S1 : Nat → Prop} {base : Nat} {wz : World} {n c : Nat} {A : Option Addr} {cs : List Value} {L : List Fn} {S : Nat → Prop} (hn : n = L.length) (ho : wz.ownsRow base 40 5 (.slice A n c) n cs) (hf : FnCells S wz cs L) (hS : ∀ k, S k → S1 k) (hp : 0 < n) : ∃ qf, A = some ⟨qf, 0, none⟩ ∧ CpF S1 base wz qf L 0 := by
  obtain ⟨q, cap, hv, hb, _⟩ := own_formM ho hp
  injection hv with hv1 hv2 hv3
  subst hv1 hv3
  rcases ho.2 with ⟨h0, _⟩ | ⟨q', cap', cur, hv, h2, hk, h3, h4, h5, h6⟩
  · cases h0
  · injection hv with e1 e2 e3
    injection e1 with e1
    injection e1 with e1
    subst e1
    refine ⟨q, rfl, ⟨cur, hk, ?_⟩, hb, fun j hj => ?_, fun j hj => by omega⟩
    · have := congrArg List.length h6
      rw [hf.1, List.length_take] at this
      simp only [Array.length_toList] at this
      omega
    · obtain ⟨fs, hfs, hc⟩ := hf.2.2 j hj
      refine ⟨fs, hfs.kept (fun _ _ _ => rfl) (fun k hk _ => hS k hk), fun t u ht => ?_⟩
      have := own_cellsM ho _ _ (hc t u ht)
      rwa [Nat.zero_add] at this
/-- A copy's own lists, in a box: nothing copied of the functions yet. -/
def CpCut (B0 : Nat) (w1 wz : World) (q3 ls lg lf le : Nat) (M : Md) : Prop := ∃ A1 c1 A2 c2 A3 c3 A4 c4, Below w1.heap.size w1 wz ∧ w1.heap.size ≤ q3 ∧ Blk wz q3 30 #[.slice A1 ls c1, .slice A2 lg c2, .slice A3 lf c3, .slice A4 le c4] ∧ wz.ownsRow w1.heap.size 9 1 (.slice A1 ls c1) ls (strV M.strs) ∧ wz.ownsRow w1.heap.size 3 1 (.slice A2 lg c2) lg (intV M.globs) ∧ (∃ cs, wz.ownsRow w1.heap.size 40 5 (.slice A3 lf c3) lf cs ∧ FnCells (fun k => k < B0) wz cs M.funcs) ∧ wz.ownsRow w1.heap.size 3 1 (.slice A4 le c4) le (intV M.ents)
end Go.Proofs.Ytpdebnecfknohaa
namespace Go.Proofs.Ytpdebnecfknohaa
open Go.RowKit
set_option linter.unusedVariables false
set_option linter.unusedSimpArgs false
set_option maxRecDepth 20000
/-- A function that is copied: its names between a and b, its sites between b and c, its body old or between c and d. -/
def FnG (w0 : Nat) (W : World) (qf j : Nat) (f : Fn) (a d : Nat) : Prop := ∃ Al cl As cs' Ab cb b c, b ≤ c ∧ c ≤ d ∧ a ≤ b ∧
  (∀ t u, ([.int .i64 f.name, .int .i64 f.params, .slice Al f.locals.length cl, .slice As f.sites.length cs', .slice Ab f.body.len cb] : List Value)[t]? = some u → W.cell? ⟨qf, j * 5 + t, none⟩ = some u) ∧
  W.ownsRow a 3 1 (.slice Al f.locals.length cl) f.locals.length (intV f.locals) ∧ (∀ k, some k = (Value.slice Al f.locals.length cl).ownBlock → k < b) ∧
  W.ownsRow b 3 1 (.slice As f.sites.length cs') f.sites.length (intV f.sites) ∧ (∀ k, some k = (Value.slice As f.sites.length cs').ownBlock → k < c) ∧
  BodyS (fun k => k < w0 ∨ (c ≤ k ∧ k < d)) W Ab f.body
theorem FnG.kept {w0 : Nat} {W W' : World} {qf j a d : Nat} {f : Fn} (h : FnG w0 W qf j f a d) (hq : W'.heap[qf]? = W.heap[qf]?) (hk : ∀ k, (k < w0 ∨ (a ≤ k ∧ k < d)) → k < W.heap.size → W'.heap[k]? = W.heap[k]?) : FnG w0 W' qf j f a d := by
  obtain ⟨Al, cl, As, cs', Ab, cb, b, c, h1, h2, h3, h4, h5, h6, h7, h8, h9⟩ := h
  refine ⟨Al, cl, As, cs', Ab, cb, b, c, h1, h2, h3, fun t u ht => (World.cell?_of_block hq).trans (h4 t u ht), own_blocks h5 (fun k hk' => ?_), h6, own_blocks h7 (fun k hk' => ?_), h8, h9.kept (fun k hk' hlt => hk k ?_ hlt) (fun _ h _ => h)⟩
  · have h10 := h5.lt k hk'.symm
    have h11 := h6 k hk'
    exact hk k (.inr ⟨h10.1, by omega⟩) h10.2
  · have h10 := h7.lt k hk'.symm
    have h11 := h8 k hk'
    exact hk k (.inr ⟨by omega, by omega⟩) h10.2
  · rcases hk' with h | h
    · exact .inl h
    · exact .inr ⟨by omega, h.2⟩
/-- What Copy's loop keeps, with the rows. -/
structure CpG (w0 lo : Nat) (wr : World) (qf : Nat) (L : List Fn) (i : Nat) : Prop where
  row : ∃ cs, Blk wr qf 40 cs ∧ L.length * 5 ≤ cs.size
  qb : w0 ≤ qf ∧ qf < lo
  todo : ∀ j (h : j < L.length), i ≤ j → ∃ fs, FnS (fun k => k < w0) wr fs L[j] ∧ ∀ t u, fs[t]? = some u → wr.cell? ⟨qf, j * 5 + t, none⟩ = some u
  done : ∃ T : Nat → Nat, lo ≤ T 0 ∧ (∀ j, T j ≤ T (j + 1)) ∧ T i ≤ wr.heap.size ∧ ∀ j (h : j < L.length), j < i → FnG w0 wr qf j L[j] (T j) (T (j + 1))
theorem mono_le {T : Nat → Nat} (h : ∀ j, T j ≤ T (j + 1)) : ∀ j, T 0 ≤ T j
  | 0 => Nat.le_refl _
  | j + 1 => Nat.le_trans (mono_le h j) (h j)
theorem CpG.kept {w0 lo : Nat} {wr w' : World} {qf i : Nat} {L : List Fn} (h : CpG w0 lo wr qf L i) (hs : wr.heap.size ≤ w'.heap.size) (hk : ∀ k, (k < w0 ∨ lo ≤ k ∨ k = qf) → k < wr.heap.size → w'.heap[k]? = wr.heap[k]?) : CpG w0 lo w' qf L i := by
  obtain ⟨cs, h1, h2⟩ := h.row
  have hq := hk qf (.inr (.inr rfl)) h1.lt
  refine ⟨⟨cs, hq.trans h1, h2⟩, h.qb, fun j hj hij => ?_, ?_⟩
  · obtain ⟨fs, hf, hc⟩ := h.todo j hj hij
    exact ⟨fs, hf.kept (fun k hk' hlt => hk k (.inl hk') hlt) (fun _ h _ => h), fun t u ht => (World.cell?_of_block hq).trans (hc t u ht)⟩
  · obtain ⟨T, t0, t1, t2, t3⟩ := h.done
    refine ⟨T, t0, t1, by omega, fun j hj hji => (t3 j hj hji).kept hq (fun k hk' hlt => hk k ?_ hlt)⟩
    rcases hk' with h | h
    · exact .inl h
    · have := mono_le t1 j
      exact .inr (.inl (by omega))
theorem CpG.old {w0 lo : Nat} {wr w' : World} {qf i : Nat} {L : List Fn} (h : CpG w0 lo wr qf L i) (hb : Below wr.heap.size wr w') : CpG w0 lo w' qf L i :=
  h.kept hb.size (fun k _ hlt => hb.block k hlt)
/-- The beginning of the loop. -/
theorem CpG.first {w0 lo : Nat} {wz : World} {n c base : Nat} {A : Option Addr} {cs : List Value} {L : List Fn} (hn : n = L.length) (ho : wz.ownsRow base 40 5 (.slice A n c) n cs) (hb0 : w0 ≤ base) (hlo : lo = wz.heap.size) (hf : FnCells (fun k => k < w0) wz cs L) (hp : 0 < n) : ∃ qf, A = some ⟨qf, 0, none⟩ ∧ CpG w0 lo wz qf L 0 ∧ base ≤ qf := by
  obtain ⟨q, cap, hv, hb, _⟩ := own_formM ho hp
  injection hv with hv1 hv2 hv3
  subst hv1 hv3
  rcases ho.2 with ⟨h0, _⟩ | ⟨q', cap', cur, hv, h2, hk, h3, h4, h5, h6⟩
  · cases h0
  · injection hv with e1 e2 e3
    injection e1 with e1
    injection e1 with e1
    subst e1
    have hB : Blk wz q 40 cur := hk
    refine ⟨q, rfl, ⟨⟨cur, hk, ?_⟩, ⟨by omega, by have := hB.lt; omega⟩, fun j hj _ => ?_, ⟨fun _ => lo, Nat.le_refl _, fun _ => Nat.le_refl _, by show lo ≤ _; omega, fun j hj hji => by omega⟩⟩, hb⟩
    · have := congrArg List.length h6
      rw [hf.1, List.length_take] at this
      simp only [Array.length_toList] at this
      omega
    · obtain ⟨fs, hfs, hc⟩ := hf.2.2 j hj
      refine ⟨fs, hfs, fun t u ht => ?_⟩
      have := own_cellsM ho _ _ (hc t u ht)
      rwa [Nat.zero_add] at this
/-- One round of Copy's loop. -/
theorem CpG.step {w0 lo : Nat} {wr w5 : World} {qf i : Nat} {L : List Fn} (h : CpG w0 lo wr qf L i) (hi : i < L.length) (hb : Below wr.heap.size wr w5) {Al As Ab : Option Addr} {ll cl ls cs' lb cb Bl Bs B0 : Nat} (hll : ll = L[i].locals.length) (hls : ls = L[i].sites.length) (hlb : lb = L[i].body.len) (hBl : wr.heap.size ≤ Bl) (hBs : Bl ≤ Bs) (hB0 : Bs ≤ B0) (hB5 : B0 ≤ w5.heap.size) (hw : w0 ≤ wr.heap.size) (hlw : lo ≤ wr.heap.size)
    (h1 : w5.ownsRow Bl 3 1 (.slice Al ll cl) ll (intV L[i].locals)) (l1 : ∀ k, some k = (Value.slice Al ll cl).ownBlock → k < Bs) (h2 : w5.ownsRow Bs 3 1 (.slice As ls cs') ls (intV L[i].sites)) (l2 : ∀ k, some k = (Value.slice As ls cs').ownBlock → k < B0) (h3 : BodyS (fun k => B0 ≤ k ∨ k < w0) w5 Ab L[i].body) :
    CpG w0 lo (put5 w5 qf (i * 5) (.int .i64 L[i].name) (.int .i64 L[i].params) (.slice Al ll cl) (.slice As ls cs') (.slice Ab lb cb)) qf L (i + 1) := by
  have h5 := h.old hb
  obtain ⟨csr, hR5, hRs⟩ := h5.row
  obtain ⟨cs2, hR', hsz, hat⟩ := put5_blk (p := i * 5) (v0 := .int .i64 L[i].name) (v1 := .int .i64 L[i].params) (v2 := .slice Al ll cl) (v3 := .slice As ls cs') (v4 := .slice Ab lb cb) hR5
  have hsame := @put5_same w5 qf (i * 5) (.int .i64 L[i].name) (.int .i64 L[i].params) (.slice Al ll cl) (.slice As ls cs') (.slice Ab lb cb)
  have hheap := @put5_heap w5 qf (i * 5) (.int .i64 L[i].name) (.int .i64 L[i].params) (.slice Al ll cl) (.slice As ls cs') (.slice Ab lb cb)
  have hsize : (put5 w5 qf (i * 5) (.int .i64 L[i].name) (.int .i64 L[i].params) (.slice Al ll cl) (.slice As ls cs') (.slice Ab lb cb)).heap.size = w5.heap.size := by simp [put5, World.setCell]
  generalize put5 w5 qf (i * 5) (.int .i64 L[i].name) (.int .i64 L[i].params) (.slice Al ll cl) (.slice As ls cs') (.slice Ab lb cb) = W' at *
  obtain ⟨g0, g1, g2, g3, g4⟩ := hat (by omega)
  have hqb := h.qb
  obtain ⟨T, t0, t1, t2, t3⟩ := h.done
  obtain ⟨T5, s0, s1, s2, s3⟩ := h5.done
  have hcold : ∀ j, j ≠ i → ∀ t, t < 5 → W'.cell? ⟨qf, j * 5 + t, none⟩ = w5.cell? ⟨qf, j * 5 + t, none⟩ := fun j hj t ht => hsame (j * 5 + t) (fun s hs => by omega)
  refine ⟨⟨cs2, hR', by rw [hsz]; exact hRs⟩, h.qb, fun j hj hij => ?_, ⟨fun j => if j ≤ i then T j else w5.heap.size, by simpa using t0, fun j => ?_, by simp only [show ¬ i + 1 ≤ i from by omega, if_false]; rw [hsize]; exact Nat.le_refl _, fun j hj hji => ?_⟩⟩
  · obtain ⟨fs, hf, hc⟩ := h5.todo j hj (by omega)
    refine ⟨fs, hf.kept (fun k hk hlt => hheap (by omega)) (fun _ h _ => h), fun t u ht => ?_⟩
    have hl := fnS_len hf
    have htl : t < 5 := by
      rcases Nat.lt_or_ge t fs.length with h | h
      · omega
      · rw [List.getElem?_eq_none h] at ht; cases ht
    exact (hcold j (by omega) t htl).trans (hc t u ht)
  · have hs := hb.size
    by_cases h1 : j + 1 ≤ i
    · simp only [h1, if_true, show j ≤ i from by omega]; exact t1 j
    · by_cases h2 : j ≤ i
      · obtain rfl : j = i := by omega
        simp only [Nat.le_refl, if_true, h1, if_false]
        omega
      · simp only [h1, h2, if_false]; exact Nat.le_refl _
  · by_cases hje : j = i
    · subst hje
      subst hll hls hlb
      simp only [Nat.le_refl, if_true, show ¬ j + 1 ≤ j from by omega, if_false]
      have hne : ∀ {B n c : Nat} {A : Option Addr} {xs : List Value}, w5.ownsRow B 3 1 (.slice A n c) n xs → W'.ownsRow B 3 1 (.slice A n c) n xs := fun ho => own_blocks ho (fun k hk => hheap (fun e => by subst e; exact own_ne ho hR5 (by decide) hk))
      refine ⟨Al, cl, As, cs', Ab, cb, Bs, B0, hB0, hB5, by omega, fun t u ht => ?_, own_mono (hne h1) (by omega), l1, hne h2, l2, h3.kept (fun k hk hlt => hheap ?_) (fun k hk hlt => ?_)⟩
      · rw [hR'.cell]
        match t, ht with
        | 0, ht => simp at ht; subst ht; exact g0
        | 1, ht => simp at ht; subst ht; exact g1
        | 2, ht => simp at ht; subst ht; exact g2
        | 3, ht => simp at ht; subst ht; exact g3
        | 4, ht => simp at ht; subst ht; exact g4
        | t + 5, ht => simp at ht
      · rcases hk with hk | hk <;> omega
      · rcases hk with hk | hk
        · exact .inr ⟨hk, hlt⟩
        · exact .inl hk
    · have hjl : j < i := by omega
      simp only [show j ≤ i from by omega, show j + 1 ≤ i from by omega, if_true]
      have hG := t3 j hj hjl
      have hG5 : FnG w0 w5 qf j L[j] (T j) (T (j + 1)) := hG.kept (hb.block qf (by have := hqb; omega)) (fun k _ hlt => hb.block k hlt)
      obtain ⟨Al, cl, As, cs', Ab, cb, b, c, x1, x2, x3, x4, x5, x6, x7, x8, x9⟩ := hG5
      have hm := mono_le t1 j
      refine ⟨Al, cl, As, cs', Ab, cb, b, c, x1, x2, x3, fun t u ht => ?_, own_blocks x5 (fun k hk => hheap ?_), x6, own_blocks x7 (fun k hk => hheap ?_), x8, x9.kept (fun k hk hlt => hheap ?_) (fun _ h _ => h)⟩
      · have htl : t < 5 := by
          rcases Nat.lt_or_ge t 5 with h | h
          · exact h
          · rw [List.getElem?_eq_none (by simpa using h)] at ht; cases ht
        exact (hcold j hje t htl).trans (x4 t u ht)
      · have := (x5.lt k hk.symm).1; omega
      · have := (x7.lt k hk.symm).1; omega
      · rcases hk with hk | hk <;> omega
theorem CpG.lo_le {w0 lo : Nat} {wr : World} {qf i : Nat} {L : List Fn} (h : CpG w0 lo wr qf L i) : lo ≤ wr.heap.size := by
  obtain ⟨T, t0, t1, t2, _⟩ := h.done
  have := mono_le t1 i
  omega
theorem CpG.reads {w0 lo : Nat} {wr : World} {qf : Nat} {L : List Fn} (h : CpG w0 lo wr qf L L.length) : FnsS (fun _ => True) wr (some ⟨qf, 0, none⟩) L := fun hp => by
  refine ⟨qf, 0, rfl, trivial, fun j hj => ?_⟩
  obtain ⟨T, t0, t1, t2, t3⟩ := h.done
  obtain ⟨Al, cl, As, cs', Ab, cb, b, c, x1, x2, x3, x4, x5, x6, x7, x8, x9⟩ := t3 j hj hj
  refine ⟨_, ⟨Al, cl, As, cs', Ab, cb, rfl, (RdS.own x5).below (fun _ _ => trivial), (RdS.own x7).below (fun _ _ => trivial), x9.kept (fun _ _ _ => rfl) (fun _ _ _ => trivial)⟩, fun t u ht => ?_⟩
  rw [Nat.zero_add]
  exact x4 t u ht
end Go.Proofs.Ytpdebnecfknohaa
namespace Go.Proofs.Ytpdebnecfknohaa
open Go.RowKit
set_option linter.unusedVariables false
set_option maxRecDepth 20000
set_option linter.unusedSimpArgs false
/-- A copy's own lists, in a box, those of numbers apart. -/
def CpCut2 (B0 : Nat) (w1 wz : World) (q3 ls lg lf le : Nat) (M : Md) : Prop := ∃ A1 c1 A2 c2 A3 c3 A4 c4, Below w1.heap.size w1 wz ∧ w1.heap.size ≤ q3 ∧ Blk wz q3 30 #[.slice A1 ls c1, .slice A2 lg c2, .slice A3 lf c3, .slice A4 le c4] ∧ wz.ownsRow w1.heap.size 9 1 (.slice A1 ls c1) ls (strV M.strs) ∧ wz.ownsRow w1.heap.size 3 1 (.slice A2 lg c2) lg (intV M.globs) ∧ (∃ cs, wz.ownsRow w1.heap.size 40 5 (.slice A3 lf c3) lf cs ∧ FnCells (fun k => k < B0) wz cs M.funcs) ∧ wz.ownsRow w1.heap.size 3 1 (.slice A4 le c4) le (intV M.ents) ∧ (∀ k, some k = (Value.slice A2 lg c2).ownBlock → some k ≠ (Value.slice A4 le c4).ownBlock)
theorem cpcut2_set {B0 : Nat} {w1 w5 : World} {q3 ls lg lf le c1 c2 c3 c4 : Nat} {A1 A2 A3 A4 : Option Addr} {M : Md} {cs : List Value} {zs : Array Value} (hB0 : B0 ≤ w1.heap.size) (hb : Below w1.heap.size w1 w5) (hq : w1.heap.size ≤ q3) (hB : Blk w5 q3 30 zs) (hz : zs.size = 4) (h1 : w5.ownsRow w1.heap.size 9 1 (.slice A1 ls c1) ls (strV M.strs)) (h2 : w5.ownsRow w1.heap.size 3 1 (.slice A2 lg c2) lg (intV M.globs)) (h3 : w5.ownsRow w1.heap.size 40 5 (.slice A3 lf c3) lf cs) (hf : FnCells (fun k => k < B0) w5 cs M.funcs) (h4 : w5.ownsRow w1.heap.size 3 1 (.slice A4 le c4) le (intV M.ents)) (hAp : (∀ k, some k = (Value.slice A2 lg c2).ownBlock → some k ≠ (Value.slice A4 le c4).ownBlock)) :
    CpCut2 B0 w1 ((((w5.setCell ⟨q3, 0, none⟩ (.slice A1 ls c1)).setCell ⟨q3, 1, none⟩ (.slice A2 lg c2)).setCell ⟨q3, 2, none⟩ (.slice A3 lf c3)).setCell ⟨q3, 3, none⟩ (.slice A4 le c4)) q3 ls lg lf le M := by
  have hk : ∀ k, k ≠ q3 → ((((w5.setCell ⟨q3, 0, none⟩ (.slice A1 ls c1)).setCell ⟨q3, 1, none⟩ (.slice A2 lg c2)).setCell ⟨q3, 2, none⟩ (.slice A3 lf c3)).setCell ⟨q3, 3, none⟩ (.slice A4 le c4)).heap[k]? = w5.heap[k]? := fun k hk => set4_far _ _ _ _ hk
  have ho : ∀ {B e s n c : Nat} {A : Option Addr} {xs : List Value}, w5.ownsRow B e s (.slice A n c) n xs → e ≠ 30 → ((((w5.setCell ⟨q3, 0, none⟩ (.slice A1 ls c1)).setCell ⟨q3, 1, none⟩ (.slice A2 lg c2)).setCell ⟨q3, 2, none⟩ (.slice A3 lf c3)).setCell ⟨q3, 3, none⟩ (.slice A4 le c4)).ownsRow B e s (.slice A n c) n xs := fun h he => own_blocks h (fun k hk' => hk k (fun e => by subst e; exact own_ne h hB he hk'))
  refine ⟨A1, c1, A2, c2, A3, c3, A4, c4, set4 hb hq _ _ _ _, hq, ?_, ho h1 (by decide), ho h2 (by decide), ⟨cs, ho h3 (by decide), hf.kept (fun k hk' _ => hk k (by omega)) (fun _ h _ => h)⟩, ho h4 (by decide), hAp⟩
  have := (((hB.set_ 0 (.slice A1 ls c1)).set_ 1 (.slice A2 lg c2)).set_ 2 (.slice A3 lf c3)).set_ 3 (.slice A4 le c4)
  obtain ⟨l⟩ := zs
  match l, hz with
  | [a, b, c, d], _ => exact this
theorem cpcut2_new {B0 : Nat} {w1 w5 : World} {ls lg lf le c1 c2 c3 c4 : Nat} {A1 A2 A3 A4 : Option Addr} {M : Md} {cs : List Value} (hb : Below w1.heap.size w1 w5) (h1 : w5.ownsRow w1.heap.size 9 1 (.slice A1 ls c1) ls (strV M.strs)) (h2 : w5.ownsRow w1.heap.size 3 1 (.slice A2 lg c2) lg (intV M.globs)) (h3 : w5.ownsRow w1.heap.size 40 5 (.slice A3 lf c3) lf cs) (hf : FnCells (fun k => k < B0) w5 cs M.funcs) (h4 : w5.ownsRow w1.heap.size 3 1 (.slice A4 le c4) le (intV M.ents)) (hAp : (∀ k, some k = (Value.slice A2 lg c2).ownBlock → some k ≠ (Value.slice A4 le c4).ownBlock)) :
    CpCut2 B0 w1 (w5.alloc (.cells #[.slice A1 ls c1, .slice A2 lg c2, .slice A3 lf c3, .slice A4 le c4] 30)) w5.heap.size ls lg lf le M := by
  have hA : Below w5.heap.size w5 (w5.alloc (.cells #[.slice A1 ls c1, .slice A2 lg c2, .slice A3 lf c3, .slice A4 le c4] 30)) := (Below.refl _ _).alloc (Nat.le_refl _) _
  exact ⟨A1, c1, A2, c2, A3, c3, A4, c4, hb.trans (hA.mono hb.size), hb.size, Blk.new w5 30 _, own_old h1 hA, own_old h2 hA, ⟨cs, own_old h3 hA, hf.kept (Below.keptS hA) (fun _ h _ => h)⟩, own_old h4 hA, hAp⟩
/-- What Copy leaves: a module that reads the same, in rows of the call's own. -/
def CopyPostR (w0 : Nat) (w : World) (M : Md) (e : Ending) (w' : World) : Prop := ∃ As cs Ag cg Af cf Ae ce, e = .returned (.agg #[.slice As M.strs.length cs, .slice Ag M.globs.length cg, .slice Af M.funcs.length cf, .slice Ae M.ents.length ce]) ∧ MdR w' As Ag Af Ae M ∧ Below w.heap.size w w' ∧
  w'.ownsRow w.heap.size 3 1 (.slice Ag M.globs.length cg) M.globs.length (intV M.globs) ∧
  w'.ownsRow w.heap.size 3 1 (.slice Ae M.ents.length ce) M.ents.length (intV M.ents) ∧ (∀ k, some k = (Value.slice Ag M.globs.length cg).ownBlock → some k ≠ (Value.slice Ae M.ents.length ce).ownBlock) ∧
  (0 < M.funcs.length → ∃ q lo, Af = some ⟨q, 0, none⟩ ∧ CpG w0 lo w' q M.funcs M.funcs.length ∧ (∀ k, some k = (Value.slice Ag M.globs.length cg).ownBlock ∨ some k = (Value.slice Ae M.ents.length ce).ownBlock → k < lo) ∧ w.heap.size ≤ q ∧ w.heap.size ≤ lo)
set_option maxRecDepth 20000 in
set_option maxHeartbeats 4000000 in
theorem copyR_any (M : Md) (As Ag Af Ae : Option Addr) (cs cg cf ce : Nat) (w : World) (hM : M.Fit) (hs : ∀ f ∈ M.funcs, f.body.size ≤ 1000 ∧ f.body.wide ≤ 1000) (h : MdR w As Ag Af Ae M) (w0 : Nat) (hw0 : w0 ≤ w.heap.size) (hF0 : FnsS (fun k => k < w0) w Af M.funcs) :
    Calls Try.prog 49 #[.agg #[.slice As M.strs.length cs, .slice Ag M.globs.length cg, .slice Af M.funcs.length cf, .slice Ae M.ents.length ce]] w (CopyPostR w0 w M) := by
  obtain ⟨m1, m2, m3, m4, m5⟩ := hM
  have HM := Lib.hid h
  have HF0 := Lib.hid hF0
  clear hF0
  have H5 := Lib.hid m5
  have HS := Lib.hid hs
  obtain ⟨ls, hls⟩ : ∃ ls, ls = M.strs.length := ⟨_, rfl⟩
  obtain ⟨lg, hlg⟩ : ∃ lg, lg = M.globs.length := ⟨_, rfl⟩
  obtain ⟨lf, hlf⟩ : ∃ lf, lf = M.funcs.length := ⟨_, rfl⟩
  obtain ⟨le, hle⟩ : ∃ le, le = M.ents.length := ⟨_, rfl⟩
  have HL : Hid (ls = M.strs.length ∧ lg = M.globs.length ∧ lf = M.funcs.length ∧ le = M.ents.length) := ⟨hls, hlg, hlf, hle⟩
  rw [← hls, ← hlg, ← hlf, ← hle]
  clear h hs m5
  obtain ⟨w1, hw1⟩ : ∃ w1, w1 = (w.alloc (.cells #[.slice As ls cs, .slice Ag lg cg, .slice Af lf cf, .slice Ae le ce] 30)).alloc (.cells #[.slice none 0 0, .slice none 0 0, .slice none 0 0, .slice none 0 0] 30) := ⟨_, rfl⟩
  have HB1 : Hid (Below w.heap.size w w1) := by rw [hw1]; exact ((Below.refl _ _).alloc (Nat.le_refl _) _).alloc (by simp) _
  have KX : Hid (Blk w1 w.heap.size 30 #[.slice As ls cs, .slice Ag lg cg, .slice Af lf cf, .slice Ae le ce]) := by rw [hw1]; exact (Blk.new w 30 _).alloc _
  have KR : Hid (Blk w1 (w.heap.size + 1) 30 #[.slice none 0 0, .slice none 0 0, .slice none 0 0, .slice none 0 0]) := by rw [hw1]; exact Blk.new' _ 30 _ _ (by simp)
  have h36 := fun W (hW : Below w1.heap.size w1 W) => cloneStr_any As cs M.strs W ((HM.out.strs.old HB1.out (by omega)).old hW (by omega)) (by omega)
  have h37g := fun W (hW : Below w1.heap.size w1 W) => cloneInt_any Ag cg M.globs W ((HM.out.globs.old HB1.out (by omega)).old hW (by omega)) (by omega)
  have h38 := fun W (hW : Below w1.heap.size w1 W) => cloneF_any (fun k => k < w0) Af cf M.funcs W ((HF0.out.kept (Below.keptS HB1.out) (fun _ h _ => h)).kept (fun k hk _ => hW.block k (by have h1 := HB1.out.size; have h2 : k < w0 := hk; omega)) (fun _ h _ => h)) (by omega)
  have h37e := fun W (hW : Below w1.heap.size w1 W) => cloneInt_any Ae ce M.ents W ((HM.out.ents.old HB1.out (by omega)).old hW (by omega)) (by omega)
  rw [← hls] at h36
  rw [← hlg] at h37g
  rw [← hlf] at h38
  rw [← hle] at h37e
  have H36 := Lib.hid h36
  have H37g := Lib.hid h37g
  have H38 := Lib.hid h38
  have H37e := Lib.hid h37e
  clear h36 h37g h38 h37e
  rw [← hls] at m1
  rw [← hlg] at m2
  rw [← hlf] at m3
  rw [← hle] at m4
  clear hls hlg hlf hle
  go_enter Try.func49, Try.ntmps49
  go_upto_region 1 with (fail)
  rw [← hw1]
  clear hw1
  obtain ⟨x0, x1, x2, x3⟩ := KX.out.c4
  have hz1 : w.heap.size < w1.heap.size := KX.out.lt
  go_cut [3] (fun s3 wz => ∃ q3, s3 = .pointer (some ⟨q3, 0, none⟩) ∧ Hid (CpCut2 w0 w1 wz q3 ls lg lf le M))
  case first =>
    refine wp_region_held_drew (S := (fun W => Below w1.heap.size w1 W)) (by kernel_rfl) (Below.refl _ _).drew (fun hHeld => ?_)
    refine wpAnyH_take (i := 0) (oi := ⟨_, _, _, _, _, _⟩) (v := ?_) rfl (by kernel_rfl) (by kernel_rfl) (by kernel_rfl) (fun _ _ _ h => h) (Or.inl ⟨by rfl, ?_⟩) (by assumption) ?_
    rotate_left
    · (intro W hSW; (try dsimp only at hSW); go_simp; first | done | with_reducible rfl)
    try simp only [Act.put, List.setIfInBounds_toArray, List.set_cons_zero, List.set_cons_succ]
    refine wpAnyH_take (i := 1) (oi := ⟨_, _, _, _, _, _⟩) (v := ?_) rfl (by kernel_rfl) (by kernel_rfl) (by kernel_rfl) (fun _ _ _ h => h) (Or.inl ⟨by rfl, ?_⟩) (by assumption) ?_
    rotate_left
    · (intro W hSW; (try dsimp only at hSW); have q0 := cell_old hSW hz1 x0; have q1 := cell_old hSW hz1 x1; have q2 := cell_old hSW hz1 x2; have q3 := cell_old hSW hz1 x3; go_simp; first | done | with_reducible rfl)
    try simp only [Act.put, List.setIfInBounds_toArray, List.set_cons_zero, List.set_cons_succ]
    refine wpAnyH_take (i := 3) (oi := ⟨_, _, _, _, _, _⟩) (v := ?_) rfl (by kernel_rfl) (by kernel_rfl) (by kernel_rfl) (fun _ _ _ h => h) (Or.inl ⟨by rfl, ?_⟩) (by assumption) ?_
    rotate_left
    · (intro W hSW; (try dsimp only at hSW); go_simp; first | done | with_reducible rfl)
    try simp only [Act.put, List.setIfInBounds_toArray, List.set_cons_zero, List.set_cons_succ]
    refine wpAnyH_take (i := 4) (oi := ⟨_, _, _, _, _, _⟩) (v := ?_) rfl (by kernel_rfl) (by kernel_rfl) (by kernel_rfl) (fun _ _ _ h => h) (Or.inl ⟨by rfl, ?_⟩) (by assumption) ?_
    rotate_left
    · (intro W hSW; (try dsimp only at hSW); have q0 := cell_old hSW hz1 x0; have q1 := cell_old hSW hz1 x1; have q2 := cell_old hSW hz1 x2; have q3 := cell_old hSW hz1 x3; go_simp; first | done | with_reducible rfl)
    try simp only [Act.put, List.setIfInBounds_toArray, List.set_cons_zero, List.set_cons_succ]
    refine wpAnyH_take (i := 6) (oi := ⟨_, _, _, _, _, _⟩) (v := ?_) rfl (by kernel_rfl) (by kernel_rfl) (by kernel_rfl) (fun _ _ _ h => h) (Or.inl ⟨by rfl, ?_⟩) (by assumption) ?_
    rotate_left
    · (intro W hSW; (try dsimp only at hSW); go_simp; first | done | with_reducible rfl)
    try simp only [Act.put, List.setIfInBounds_toArray, List.set_cons_zero, List.set_cons_succ]
    refine wpAnyH_take (i := 7) (oi := ⟨_, _, _, _, _, _⟩) (v := ?_) rfl (by kernel_rfl) (by kernel_rfl) (by kernel_rfl) (fun _ _ _ h => h) (Or.inl ⟨by rfl, ?_⟩) (by assumption) ?_
    rotate_left
    · (intro W hSW; (try dsimp only at hSW); have q0 := cell_old hSW hz1 x0; have q1 := cell_old hSW hz1 x1; have q2 := cell_old hSW hz1 x2; have q3 := cell_old hSW hz1 x3; go_simp; first | done | with_reducible rfl)
    try simp only [Act.put, List.setIfInBounds_toArray, List.set_cons_zero, List.set_cons_succ]
    refine wpAnyH_take (i := 9) (oi := ⟨_, _, _, _, _, _⟩) (v := ?_) rfl (by kernel_rfl) (by kernel_rfl) (by kernel_rfl) (fun _ _ _ h => h) (Or.inl ⟨by rfl, ?_⟩) (by assumption) ?_
    rotate_left
    · (intro W hSW; (try dsimp only at hSW); go_simp; first | done | with_reducible rfl)
    try simp only [Act.put, List.setIfInBounds_toArray, List.set_cons_zero, List.set_cons_succ]
    refine wpAnyH_take (i := 10) (oi := ⟨_, _, _, _, _, _⟩) (v := ?_) rfl (by kernel_rfl) (by kernel_rfl) (by kernel_rfl) (fun _ _ _ h => h) (Or.inl ⟨by rfl, ?_⟩) (by assumption) ?_
    rotate_left
    · (intro W hSW; (try dsimp only at hSW); have q0 := cell_old hSW hz1 x0; have q1 := cell_old hSW hz1 x1; have q2 := cell_old hSW hz1 x2; have q3 := cell_old hSW hz1 x3; go_simp; first | done | with_reducible rfl)
    try simp only [Act.put, List.setIfInBounds_toArray, List.set_cons_zero, List.set_cons_succ]
    refine wpAnyH_ready (rs := [2, 13]) (by kernel_rfl) (by simp) ?_
    refine AllReadyH.cons (o := ⟨_, _, _, _, _, _⟩) rfl (fun KQ hKQ => ?_) (AllReadyH.cons (o := ⟨_, _, _, _, _, _⟩) rfl (fun KQ hKQ => ?_) AllReadyH.nil)
    · go_simp
      refine (H36.out _ hHeld).mono ?_
      rintro e v1 ⟨A1, c1, rfl, hO1, hb⟩
      have hO1 := own_mono hO1 hHeld.size
      have hS1 : Below w1.heap.size w1 v1 := hHeld.trans (hb.mono hHeld.size)
      refine hKQ.out _ _ hS1 (fun _ => ?_)
      clear hKQ KQ hb
      try simp only [Act.put, List.setIfInBounds_toArray, List.set_cons_zero, List.set_cons_succ]
      refine wpAnyH_ready (rs := [5, 13]) (by kernel_rfl) (by simp) ?_
      refine AllReadyH.cons (o := ⟨_, _, _, _, _, _⟩) rfl (fun KQ hKQ => ?_) (AllReadyH.cons (o := ⟨_, _, _, _, _, _⟩) rfl (fun KQ hKQ => ?_) AllReadyH.nil)
      · go_simp
        refine (H37g.out _ hS1).mono ?_
        rintro e v2 ⟨A2, c2, rfl, hO2, hb⟩
        have hO1 := own_old hO1 hb
        have hO2 := own_mono hO2 hS1.size
        have hS2 : Below w1.heap.size w1 v2 := hS1.trans (hb.mono hS1.size)
        refine hKQ.out _ _ hS2 (fun _ => ?_)
        clear hKQ KQ hb
        try simp only [Act.put, List.setIfInBounds_toArray, List.set_cons_zero, List.set_cons_succ]
        refine wpAnyH_ready (rs := [8, 13]) (by kernel_rfl) (by simp) ?_
        refine AllReadyH.cons (o := ⟨_, _, _, _, _, _⟩) rfl (fun KQ hKQ => ?_) (AllReadyH.cons (o := ⟨_, _, _, _, _, _⟩) rfl (fun KQ hKQ => ?_) AllReadyH.nil)
        · go_simp
          refine (H38.out _ hS2).mono ?_
          rintro e v3 ⟨A3, c3, rfl, ⟨csf, hO3, hFC⟩, hb⟩
          have hO1 := own_old hO1 hb
          have hO2 := own_old hO2 hb
          have hO3 := own_mono hO3 hS2.size
          have hFC := hFC.kept (fun k hk _ => hb.block k (by have := hS2.size; omega)) (fun _ h _ => h)
          have hS3 : Below w1.heap.size w1 v3 := hS2.trans (hb.mono hS2.size)
          refine hKQ.out _ _ hS3 (fun _ => ?_)
          clear hKQ KQ hb
          try simp only [Act.put, List.setIfInBounds_toArray, List.set_cons_zero, List.set_cons_succ]
          refine wpAnyH_ready (rs := [11, 13]) (by kernel_rfl) (by simp) ?_
          refine AllReadyH.cons (o := ⟨_, _, _, _, _, _⟩) rfl (fun KQ hKQ => ?_) (AllReadyH.cons (o := ⟨_, _, _, _, _, _⟩) rfl (fun KQ hKQ => ?_) AllReadyH.nil)
          · go_simp
            refine (H37e.out _ hS3).mono ?_
            rintro e v4 ⟨A4, c4, rfl, hO4, hb⟩
            have hAp : (∀ k, some k = (Value.slice A2 lg c2).ownBlock → some k ≠ (Value.slice A4 le c4).ownBlock) := fun k e1 e2 => by have e3 := (hO2.lt k e1.symm).2; have e4 := (hO4.lt k e2.symm).1; omega
            have hO1 := own_old hO1 hb
            have hO2 := own_old hO2 hb
            have hO3 := own_old hO3 hb
            have hO4 := own_mono hO4 hS3.size
            have hFC := hFC.kept (fun k hk _ => hb.block k (by have := hS3.size; omega)) (fun _ h _ => h)
            have hS4 : Below w1.heap.size w1 v4 := hS3.trans (hb.mono hS3.size)
            refine hKQ.out _ _ hS4 (fun _ => ?_)
            clear hKQ KQ hb
            try simp only [Act.put, List.setIfInBounds_toArray, List.set_cons_zero, List.set_cons_succ]
            refine wpAnyH_take (i := 12) (oi := ⟨_, _, _, _, _, _⟩) (v := ?_) rfl (by kernel_rfl) (by kernel_rfl) (by kernel_rfl) (fun _ _ _ h => h) (Or.inl ⟨by rfl, ?_⟩) (by assumption) ?_
            rotate_left
            · (intro W hSW; (try dsimp only at hSW); go_simp; first | done | with_reducible rfl)
            try simp only [Act.put, List.setIfInBounds_toArray, List.set_cons_zero, List.set_cons_succ]
            refine wpAnyH_ready (rs := [13]) (by kernel_rfl) (by simp) ?_
            refine AllReadyH.cons (o := ⟨_, _, _, _, _, _⟩) rfl (fun KQ hKQ => ?_) AllReadyH.nil
            go_simp
            refine hKQ.out _ _ (Below.alloc hS4 hS4.size _) (fun _ => ?_)
            clear hKQ KQ
            try simp only [Act.put, List.setIfInBounds_toArray, List.set_cons_zero, List.set_cons_succ]
            refine wpAnyH_ready (rs := [14]) (by kernel_rfl) (by simp) ?_
            refine AllReadyH.cons (o := ⟨_, _, _, _, _, _⟩) rfl (fun KQ hKQ => ?_) AllReadyH.nil
            go_simp
            refine hKQ.out _ _ (Below.alloc hS4 hS4.size _) (fun _ => ?_)
            clear hKQ KQ
            try simp only [Act.put, List.setIfInBounds_toArray, List.set_cons_zero, List.set_cons_succ]
            have HC := Lib.hid (cpcut2_new hS4 hO1 hO2 hO3 hFC hO4 hAp)
            refine wpAnyH_done (by kernel_rfl) ?_ _
            clear hO1 hO2 hO3 hFC hO4
            go_wp2_with fail
            go_meet
            case rel => exact ⟨_, rfl, HC⟩
          · go_simp
            have hA : Below v3.heap.size v3 (v3.alloc (.cells #[.slice none 0 0, .slice none 0 0, .slice none 0 0, .slice none 0 0] 30)) := (Below.refl _ _).alloc (Nat.le_refl _) _
            have hSA : Below w1.heap.size w1 (v3.alloc (.cells #[.slice none 0 0, .slice none 0 0, .slice none 0 0, .slice none 0 0] 30)) := hS3.alloc hS3.size _
            have hq3 : w1.heap.size ≤ v3.heap.size := hS3.size
            have K3 : Blk (v3.alloc (.cells #[.slice none 0 0, .slice none 0 0, .slice none 0 0, .slice none 0 0] 30)) v3.heap.size 30 #[.slice none 0 0, .slice none 0 0, .slice none 0 0, .slice none 0 0] := Blk.new v3 30 _
            have hO1 := own_old hO1 hA
            have hO2 := own_old hO2 hA
            have hO3 := own_old hO3 hA
            have hFC := hFC.kept (Below.keptS hA) (fun _ h _ => h)
            refine hKQ.out _ _ hSA (fun _ => ?_)
            clear hKQ KQ hA
            try simp only [Act.put, List.setIfInBounds_toArray, List.set_cons_zero, List.set_cons_succ]
            refine wpAnyH_ready (rs := [11]) (by kernel_rfl) (by simp) ?_
            refine AllReadyH.cons (o := ⟨_, _, _, _, _, _⟩) rfl (fun KQ hKQ => ?_) AllReadyH.nil
            go_simp
            refine (H37e.out _ hSA).mono ?_
            rintro e v4 ⟨A4, c4, rfl, hO4, hb⟩
            have hAp : (∀ k, some k = (Value.slice A2 lg c2).ownBlock → some k ≠ (Value.slice A4 le c4).ownBlock) := fun k e1 e2 => by have e3 := (hO2.lt k e1.symm).2; have e4 := (hO4.lt k e2.symm).1; omega
            have hO1 := own_old hO1 hb
            have hO2 := own_old hO2 hb
            have hO3 := own_old hO3 hb
            have hO4 := own_mono hO4 hSA.size
            have hFC := hFC.kept (fun k hk _ => hb.block k (by have := hSA.size; omega)) (fun _ h _ => h)
            have K3 := K3.old hb
            have hS4 : Below w1.heap.size w1 v4 := hSA.trans (hb.mono hSA.size)
            refine hKQ.out _ _ hS4 (fun _ => ?_)
            clear hKQ KQ hb
            try simp only [Act.put, List.setIfInBounds_toArray, List.set_cons_zero, List.set_cons_succ]
            refine wpAnyH_take (i := 12) (oi := ⟨_, _, _, _, _, _⟩) (v := ?_) rfl (by kernel_rfl) (by kernel_rfl) (by kernel_rfl) (fun _ _ _ h => h) (Or.inl ⟨by rfl, ?_⟩) (by assumption) ?_
            rotate_left
            · (intro W hSW; (try dsimp only at hSW); go_simp; first | done | with_reducible rfl)
            try simp only [Act.put, List.setIfInBounds_toArray, List.set_cons_zero, List.set_cons_succ]
            have hq3z : v3.heap.size < v4.heap.size := K3.lt
            obtain ⟨r0, r1, r2, r3⟩ := K3.c4
            have f0 := K3.frozen 0
            have f1 := K3.frozen 1
            have f2 := K3.frozen 2
            have f3 := K3.frozen 3
            refine wpAnyH_ready (rs := [14]) (by kernel_rfl) (by simp) ?_
            refine AllReadyH.cons (o := ⟨_, _, _, _, _, _⟩) rfl (fun KQ hKQ => ?_) AllReadyH.nil
            go_simp
            refine hKQ.out _ _ (set4 hS4 hq3 _ _ _ _) (fun _ => ?_)
            clear hKQ KQ
            try simp only [Act.put, List.setIfInBounds_toArray, List.set_cons_zero, List.set_cons_succ]
            have HC := Lib.hid (cpcut2_set (Nat.le_trans hw0 (Nat.le_of_lt hz1)) hS4 hq3 K3 rfl hO1 hO2 hO3 hFC hO4 hAp)
            refine wpAnyH_done (by kernel_rfl) ?_ _
            clear hO1 hO2 hO3 hFC hO4 r0 r1 r2 r3 f0 f1 f2 f3 K3
            go_wp2_with fail
            go_meet
            case rel => exact ⟨_, rfl, HC⟩
        · go_simp
          have hA : Below v2.heap.size v2 (v2.alloc (.cells #[.slice none 0 0, .slice none 0 0, .slice none 0 0, .slice none 0 0] 30)) := (Below.refl _ _).alloc (Nat.le_refl _) _
          have hSA : Below w1.heap.size w1 (v2.alloc (.cells #[.slice none 0 0, .slice none 0 0, .slice none 0 0, .slice none 0 0] 30)) := hS2.alloc hS2.size _
          have hq3 : w1.heap.size ≤ v2.heap.size := hS2.size
          have K3 : Blk (v2.alloc (.cells #[.slice none 0 0, .slice none 0 0, .slice none 0 0, .slice none 0 0] 30)) v2.heap.size 30 #[.slice none 0 0, .slice none 0 0, .slice none 0 0, .slice none 0 0] := Blk.new v2 30 _
          have hO1 := own_old hO1 hA
          have hO2 := own_old hO2 hA
          refine hKQ.out _ _ hSA (fun _ => ?_)
          clear hKQ KQ hA
          try simp only [Act.put, List.setIfInBounds_toArray, List.set_cons_zero, List.set_cons_succ]
          refine wpAnyH_ready (rs := [8]) (by kernel_rfl) (by simp) ?_
          refine AllReadyH.cons (o := ⟨_, _, _, _, _, _⟩) rfl (fun KQ hKQ => ?_) AllReadyH.nil
          go_simp
          refine (H38.out _ hSA).mono ?_
          rintro e v3 ⟨A3, c3, rfl, ⟨csf, hO3, hFC⟩, hb⟩
          have hO1 := own_old hO1 hb
          have hO2 := own_old hO2 hb
          have hO3 := own_mono hO3 hSA.size
          have hFC := hFC.kept (fun k hk _ => hb.block k (by have := hSA.size; omega)) (fun _ h _ => h)
          have K3 := K3.old hb
          have hS3 : Below w1.heap.size w1 v3 := hSA.trans (hb.mono hSA.size)
          refine hKQ.out _ _ hS3 (fun _ => ?_)
          clear hKQ KQ hb
          try simp only [Act.put, List.setIfInBounds_toArray, List.set_cons_zero, List.set_cons_succ]
          refine wpAnyH_ready (rs := [11]) (by kernel_rfl) (by simp) ?_
          refine AllReadyH.cons (o := ⟨_, _, _, _, _, _⟩) rfl (fun KQ hKQ => ?_) AllReadyH.nil
          go_simp
          refine (H37e.out _ hS3).mono ?_
          rintro e v4 ⟨A4, c4, rfl, hO4, hb⟩
          have hAp : (∀ k, some k = (Value.slice A2 lg c2).ownBlock → some k ≠ (Value.slice A4 le c4).ownBlock) := fun k e1 e2 => by have e3 := (hO2.lt k e1.symm).2; have e4 := (hO4.lt k e2.symm).1; omega
          have hO1 := own_old hO1 hb
          have hO2 := own_old hO2 hb
          have hO3 := own_old hO3 hb
          have hO4 := own_mono hO4 hS3.size
          have hFC := hFC.kept (fun k hk _ => hb.block k (by have := hS3.size; omega)) (fun _ h _ => h)
          have K3 := K3.old hb
          have hS4 : Below w1.heap.size w1 v4 := hS3.trans (hb.mono hS3.size)
          refine hKQ.out _ _ hS4 (fun _ => ?_)
          clear hKQ KQ hb
          try simp only [Act.put, List.setIfInBounds_toArray, List.set_cons_zero, List.set_cons_succ]
          refine wpAnyH_take (i := 12) (oi := ⟨_, _, _, _, _, _⟩) (v := ?_) rfl (by kernel_rfl) (by kernel_rfl) (by kernel_rfl) (fun _ _ _ h => h) (Or.inl ⟨by rfl, ?_⟩) (by assumption) ?_
          rotate_left
          · (intro W hSW; (try dsimp only at hSW); go_simp; first | done | with_reducible rfl)
          try simp only [Act.put, List.setIfInBounds_toArray, List.set_cons_zero, List.set_cons_succ]
          have hq3z : v2.heap.size < v4.heap.size := K3.lt
          obtain ⟨r0, r1, r2, r3⟩ := K3.c4
          have f0 := K3.frozen 0
          have f1 := K3.frozen 1
          have f2 := K3.frozen 2
          have f3 := K3.frozen 3
          refine wpAnyH_ready (rs := [14]) (by kernel_rfl) (by simp) ?_
          refine AllReadyH.cons (o := ⟨_, _, _, _, _, _⟩) rfl (fun KQ hKQ => ?_) AllReadyH.nil
          go_simp
          refine hKQ.out _ _ (set4 hS4 hq3 _ _ _ _) (fun _ => ?_)
          clear hKQ KQ
          try simp only [Act.put, List.setIfInBounds_toArray, List.set_cons_zero, List.set_cons_succ]
          have HC := Lib.hid (cpcut2_set (Nat.le_trans hw0 (Nat.le_of_lt hz1)) hS4 hq3 K3 rfl hO1 hO2 hO3 hFC hO4 hAp)
          refine wpAnyH_done (by kernel_rfl) ?_ _
          clear hO1 hO2 hO3 hFC hO4 r0 r1 r2 r3 f0 f1 f2 f3 K3
          go_wp2_with fail
          go_meet
          case rel => exact ⟨_, rfl, HC⟩
      · go_simp
        have hA : Below v1.heap.size v1 (v1.alloc (.cells #[.slice none 0 0, .slice none 0 0, .slice none 0 0, .slice none 0 0] 30)) := (Below.refl _ _).alloc (Nat.le_refl _) _
        have hSA : Below w1.heap.size w1 (v1.alloc (.cells #[.slice none 0 0, .slice none 0 0, .slice none 0 0, .slice none 0 0] 30)) := hS1.alloc hS1.size _
        have hq3 : w1.heap.size ≤ v1.heap.size := hS1.size
        have K3 : Blk (v1.alloc (.cells #[.slice none 0 0, .slice none 0 0, .slice none 0 0, .slice none 0 0] 30)) v1.heap.size 30 #[.slice none 0 0, .slice none 0 0, .slice none 0 0, .slice none 0 0] := Blk.new v1 30 _
        have hO1 := own_old hO1 hA
        refine hKQ.out _ _ hSA (fun _ => ?_)
        clear hKQ KQ hA
        try simp only [Act.put, List.setIfInBounds_toArray, List.set_cons_zero, List.set_cons_succ]
        refine wpAnyH_ready (rs := [5]) (by kernel_rfl) (by simp) ?_
        refine AllReadyH.cons (o := ⟨_, _, _, _, _, _⟩) rfl (fun KQ hKQ => ?_) AllReadyH.nil
        go_simp
        refine (H37g.out _ hSA).mono ?_
        rintro e v2 ⟨A2, c2, rfl, hO2, hb⟩
        have hO1 := own_old hO1 hb
        have hO2 := own_mono hO2 hSA.size
        have K3 := K3.old hb
        have hS2 : Below w1.heap.size w1 v2 := hSA.trans (hb.mono hSA.size)
        refine hKQ.out _ _ hS2 (fun _ => ?_)
        clear hKQ KQ hb
        try simp only [Act.put, List.setIfInBounds_toArray, List.set_cons_zero, List.set_cons_succ]
        refine wpAnyH_ready (rs := [8]) (by kernel_rfl) (by simp) ?_
        refine AllReadyH.cons (o := ⟨_, _, _, _, _, _⟩) rfl (fun KQ hKQ => ?_) AllReadyH.nil
        go_simp
        refine (H38.out _ hS2).mono ?_
        rintro e v3 ⟨A3, c3, rfl, ⟨csf, hO3, hFC⟩, hb⟩
        have hO1 := own_old hO1 hb
        have hO2 := own_old hO2 hb
        have hO3 := own_mono hO3 hS2.size
        have hFC := hFC.kept (fun k hk _ => hb.block k (by have := hS2.size; omega)) (fun _ h _ => h)
        have K3 := K3.old hb
        have hS3 : Below w1.heap.size w1 v3 := hS2.trans (hb.mono hS2.size)
        refine hKQ.out _ _ hS3 (fun _ => ?_)
        clear hKQ KQ hb
        try simp only [Act.put, List.setIfInBounds_toArray, List.set_cons_zero, List.set_cons_succ]
        refine wpAnyH_ready (rs := [11]) (by kernel_rfl) (by simp) ?_
        refine AllReadyH.cons (o := ⟨_, _, _, _, _, _⟩) rfl (fun KQ hKQ => ?_) AllReadyH.nil
        go_simp
        refine (H37e.out _ hS3).mono ?_
        rintro e v4 ⟨A4, c4, rfl, hO4, hb⟩
        have hAp : (∀ k, some k = (Value.slice A2 lg c2).ownBlock → some k ≠ (Value.slice A4 le c4).ownBlock) := fun k e1 e2 => by have e3 := (hO2.lt k e1.symm).2; have e4 := (hO4.lt k e2.symm).1; omega
        have hO1 := own_old hO1 hb
        have hO2 := own_old hO2 hb
        have hO3 := own_old hO3 hb
        have hO4 := own_mono hO4 hS3.size
        have hFC := hFC.kept (fun k hk _ => hb.block k (by have := hS3.size; omega)) (fun _ h _ => h)
        have K3 := K3.old hb
        have hS4 : Below w1.heap.size w1 v4 := hS3.trans (hb.mono hS3.size)
        refine hKQ.out _ _ hS4 (fun _ => ?_)
        clear hKQ KQ hb
        try simp only [Act.put, List.setIfInBounds_toArray, List.set_cons_zero, List.set_cons_succ]
        refine wpAnyH_take (i := 12) (oi := ⟨_, _, _, _, _, _⟩) (v := ?_) rfl (by kernel_rfl) (by kernel_rfl) (by kernel_rfl) (fun _ _ _ h => h) (Or.inl ⟨by rfl, ?_⟩) (by assumption) ?_
        rotate_left
        · (intro W hSW; (try dsimp only at hSW); go_simp; first | done | with_reducible rfl)
        try simp only [Act.put, List.setIfInBounds_toArray, List.set_cons_zero, List.set_cons_succ]
        have hq3z : v1.heap.size < v4.heap.size := K3.lt
        obtain ⟨r0, r1, r2, r3⟩ := K3.c4
        have f0 := K3.frozen 0
        have f1 := K3.frozen 1
        have f2 := K3.frozen 2
        have f3 := K3.frozen 3
        refine wpAnyH_ready (rs := [14]) (by kernel_rfl) (by simp) ?_
        refine AllReadyH.cons (o := ⟨_, _, _, _, _, _⟩) rfl (fun KQ hKQ => ?_) AllReadyH.nil
        go_simp
        refine hKQ.out _ _ (set4 hS4 hq3 _ _ _ _) (fun _ => ?_)
        clear hKQ KQ
        try simp only [Act.put, List.setIfInBounds_toArray, List.set_cons_zero, List.set_cons_succ]
        have HC := Lib.hid (cpcut2_set (Nat.le_trans hw0 (Nat.le_of_lt hz1)) hS4 hq3 K3 rfl hO1 hO2 hO3 hFC hO4 hAp)
        refine wpAnyH_done (by kernel_rfl) ?_ _
        clear hO1 hO2 hO3 hFC hO4 r0 r1 r2 r3 f0 f1 f2 f3 K3
        go_wp2_with fail
        go_meet
        case rel => exact ⟨_, rfl, HC⟩
    · go_simp
      have hA : Below w1.drew.heap.size w1.drew (w1.drew.alloc (.cells #[.slice none 0 0, .slice none 0 0, .slice none 0 0, .slice none 0 0] 30)) := (Below.refl _ _).alloc (Nat.le_refl _) _
      have hSA : Below w1.heap.size w1 (w1.drew.alloc (.cells #[.slice none 0 0, .slice none 0 0, .slice none 0 0, .slice none 0 0] 30)) := hHeld.alloc hHeld.size _
      have hq3 : w1.heap.size ≤ w1.heap.size := hHeld.size
      have K3 : Blk (w1.drew.alloc (.cells #[.slice none 0 0, .slice none 0 0, .slice none 0 0, .slice none 0 0] 30)) w1.heap.size 30 #[.slice none 0 0, .slice none 0 0, .slice none 0 0, .slice none 0 0] := Blk.new w1.drew 30 _
      refine hKQ.out _ _ hSA (fun _ => ?_)
      clear hKQ KQ hA
      try simp only [Act.put, List.setIfInBounds_toArray, List.set_cons_zero, List.set_cons_succ]
      refine wpAnyH_ready (rs := [2]) (by kernel_rfl) (by simp) ?_
      refine AllReadyH.cons (o := ⟨_, _, _, _, _, _⟩) rfl (fun KQ hKQ => ?_) AllReadyH.nil
      go_simp
      refine (H36.out _ hSA).mono ?_
      rintro e v1 ⟨A1, c1, rfl, hO1, hb⟩
      have hO1 := own_mono hO1 hSA.size
      have K3 := K3.old hb
      have hS1 : Below w1.heap.size w1 v1 := hSA.trans (hb.mono hSA.size)
      refine hKQ.out _ _ hS1 (fun _ => ?_)
      clear hKQ KQ hb
      try simp only [Act.put, List.setIfInBounds_toArray, List.set_cons_zero, List.set_cons_succ]
      refine wpAnyH_ready (rs := [5]) (by kernel_rfl) (by simp) ?_
      refine AllReadyH.cons (o := ⟨_, _, _, _, _, _⟩) rfl (fun KQ hKQ => ?_) AllReadyH.nil
      go_simp
      refine (H37g.out _ hS1).mono ?_
      rintro e v2 ⟨A2, c2, rfl, hO2, hb⟩
      have hO1 := own_old hO1 hb
      have hO2 := own_mono hO2 hS1.size
      have K3 := K3.old hb
      have hS2 : Below w1.heap.size w1 v2 := hS1.trans (hb.mono hS1.size)
      refine hKQ.out _ _ hS2 (fun _ => ?_)
      clear hKQ KQ hb
      try simp only [Act.put, List.setIfInBounds_toArray, List.set_cons_zero, List.set_cons_succ]
      refine wpAnyH_ready (rs := [8]) (by kernel_rfl) (by simp) ?_
      refine AllReadyH.cons (o := ⟨_, _, _, _, _, _⟩) rfl (fun KQ hKQ => ?_) AllReadyH.nil
      go_simp
      refine (H38.out _ hS2).mono ?_
      rintro e v3 ⟨A3, c3, rfl, ⟨csf, hO3, hFC⟩, hb⟩
      have hO1 := own_old hO1 hb
      have hO2 := own_old hO2 hb
      have hO3 := own_mono hO3 hS2.size
      have hFC := hFC.kept (fun k hk _ => hb.block k (by have := hS2.size; omega)) (fun _ h _ => h)
      have K3 := K3.old hb
      have hS3 : Below w1.heap.size w1 v3 := hS2.trans (hb.mono hS2.size)
      refine hKQ.out _ _ hS3 (fun _ => ?_)
      clear hKQ KQ hb
      try simp only [Act.put, List.setIfInBounds_toArray, List.set_cons_zero, List.set_cons_succ]
      refine wpAnyH_ready (rs := [11]) (by kernel_rfl) (by simp) ?_
      refine AllReadyH.cons (o := ⟨_, _, _, _, _, _⟩) rfl (fun KQ hKQ => ?_) AllReadyH.nil
      go_simp
      refine (H37e.out _ hS3).mono ?_
      rintro e v4 ⟨A4, c4, rfl, hO4, hb⟩
      have hAp : (∀ k, some k = (Value.slice A2 lg c2).ownBlock → some k ≠ (Value.slice A4 le c4).ownBlock) := fun k e1 e2 => by have e3 := (hO2.lt k e1.symm).2; have e4 := (hO4.lt k e2.symm).1; omega
      have hO1 := own_old hO1 hb
      have hO2 := own_old hO2 hb
      have hO3 := own_old hO3 hb
      have hO4 := own_mono hO4 hS3.size
      have hFC := hFC.kept (fun k hk _ => hb.block k (by have := hS3.size; omega)) (fun _ h _ => h)
      have K3 := K3.old hb
      have hS4 : Below w1.heap.size w1 v4 := hS3.trans (hb.mono hS3.size)
      refine hKQ.out _ _ hS4 (fun _ => ?_)
      clear hKQ KQ hb
      try simp only [Act.put, List.setIfInBounds_toArray, List.set_cons_zero, List.set_cons_succ]
      refine wpAnyH_take (i := 12) (oi := ⟨_, _, _, _, _, _⟩) (v := ?_) rfl (by kernel_rfl) (by kernel_rfl) (by kernel_rfl) (fun _ _ _ h => h) (Or.inl ⟨by rfl, ?_⟩) (by assumption) ?_
      rotate_left
      · (intro W hSW; (try dsimp only at hSW); go_simp; first | done | with_reducible rfl)
      try simp only [Act.put, List.setIfInBounds_toArray, List.set_cons_zero, List.set_cons_succ]
      have hq3z : w1.heap.size < v4.heap.size := K3.lt
      obtain ⟨r0, r1, r2, r3⟩ := K3.c4
      have f0 := K3.frozen 0
      have f1 := K3.frozen 1
      have f2 := K3.frozen 2
      have f3 := K3.frozen 3
      refine wpAnyH_ready (rs := [14]) (by kernel_rfl) (by simp) ?_
      refine AllReadyH.cons (o := ⟨_, _, _, _, _, _⟩) rfl (fun KQ hKQ => ?_) AllReadyH.nil
      go_simp
      refine hKQ.out _ _ (set4 hS4 hq3 _ _ _ _) (fun _ => ?_)
      clear hKQ KQ
      try simp only [Act.put, List.setIfInBounds_toArray, List.set_cons_zero, List.set_cons_succ]
      have HC := Lib.hid (cpcut2_set (Nat.le_trans hw0 (Nat.le_of_lt hz1)) hS4 hq3 K3 rfl hO1 hO2 hO3 hFC hO4 hAp)
      refine wpAnyH_done (by kernel_rfl) ?_ _
      clear hO1 hO2 hO3 hFC hO4 r0 r1 r2 r3 f0 f1 f2 f3 K3
      go_wp2_with fail
      go_meet
      case rel => exact ⟨_, rfl, HC⟩
  case rest =>
    obtain ⟨q3, rfl, hC⟩ := hcut
    obtain ⟨A1, c1, A2, c2, A3, c3, A4, c4, hb, hq3, K3, hO1, hO2, ⟨csf, hO3, hFC⟩, hO4, hAp⟩ := hC.out
    have HAp := Lib.hid hAp
    clear hAp
    obtain ⟨lo, hlo⟩ : ∃ n, n = wc.heap.size := ⟨_, rfl⟩
    obtain ⟨qf, hqf⟩ : ∃ qf, 0 < lf → A3 = some ⟨qf, 0, none⟩ ∧ CpG w0 lo wc qf M.funcs 0 ∧ w1.heap.size ≤ qf := by
      rcases Nat.eq_zero_or_pos lf with h0 | h0
      · exact ⟨0, fun h => by omega⟩
      · obtain ⟨qf, hA, hF, hb1⟩ := CpG.first HL.out.2.2.1 hO3 (Nat.le_trans hw0 (Nat.le_of_lt hz1)) hlo hFC h0
        exact ⟨qf, fun _ => ⟨hA, hF, hb1⟩⟩
    have HLO : Hid (w.heap.size + 1 < lo ∧ ∀ k, some k = (Value.slice A2 lg c2).ownBlock ∨ some k = (Value.slice A4 le c4).ownBlock → k < lo) := ⟨by have h1 := KR.out.lt; have h2 := hb.size; omega, fun k hk => by rw [hlo]; exact hk.elim (fun hk => (hO2.lt k hk.symm).2) (fun hk => (hO4.lt k hk.symm).2)⟩
    have HI0 : Hid (Below w1.heap.size w1 wc ∧ Blk wc q3 30 #[.slice A1 ls c1, .slice A2 lg c2, .slice A3 lf c3, .slice A4 le c4] ∧ wc.ownsRow w1.heap.size 9 1 (.slice A1 ls c1) ls (strV M.strs) ∧ wc.ownsRow w1.heap.size 3 1 (.slice A2 lg c2) lg (intV M.globs) ∧ wc.ownsRow w1.heap.size 3 1 (.slice A4 le c4) le (intV M.ents) ∧ (0 < lf → A3 = some ⟨qf, 0, none⟩ ∧ CpG w0 lo wc qf M.funcs 0 ∧ w1.heap.size ≤ qf)) := ⟨hb, K3, hO1, hO2, hO4, hqf⟩
    have HQ3 := Lib.hid hq3
    clear hb hO1 hO2 hO3 hFC hO4 hlo hqf hC x0 x1 x2 x3 H36 H37g H38 H37e
    obtain ⟨k0, k1, k2, k3⟩ := K3.c4
    have zq3 : q3 < wc.heap.size := K3.lt
    go_upto_block 0 with (fail)
    clear k0 k1 k2 k3 zq3 K3
    go_wp2_with fail
    go_loopw [22] (fun s22 wr => ∃ (i : Nat), i ≤ lf ∧ s22 = .int .i64 (i : Int) ∧ Hid (Below w1.heap.size w1 wr ∧ Blk wr q3 30 #[.slice A1 ls c1, .slice A2 lg c2, .slice A3 lf c3, .slice A4 le c4] ∧ wr.ownsRow w1.heap.size 9 1 (.slice A1 ls c1) ls (strV M.strs) ∧ wr.ownsRow w1.heap.size 3 1 (.slice A2 lg c2) lg (intV M.globs) ∧ wr.ownsRow w1.heap.size 3 1 (.slice A4 le c4) le (intV M.ents) ∧ (0 < lf → A3 = some ⟨qf, 0, none⟩ ∧ CpG w0 lo wr qf M.funcs i ∧ w1.heap.size ≤ qf))) (fun s22 _ => lf - (intOf s22).toNat)
    case atStart => exact ⟨0, Nat.zero_le _, rfl, HI0⟩
    case round =>
      clear HI0
      obtain ⟨i, hi, rfl, hI⟩ := hrel
      have HBr := Lib.hid hI.out.1
      by_cases hlt : i < lf
      · obtain ⟨rfl, hCF, hqfb⟩ := hI.out.2.2.2.2.2 (by omega)
        have HQB := Lib.hid hqfb
        clear hqfb
        have hiM : i < M.funcs.length := by rw [← HL.out.2.2.1]; exact hlt
        obtain ⟨csr, hRow, hRsz⟩ := hCF.row
        obtain ⟨fs, ⟨Al, cl, At, ct, Ab, cb, rfl, r1, r2, r3⟩, hc⟩ := hCF.todo i hiM (Nat.le_refl _)
        have d0 := hc 0 _ rfl
        have d1 := hc 1 _ rfl
        have d2 := hc 2 _ rfl
        have d3 := hc 3 _ rfl
        have d4 := hc 4 _ rfl
        simp only [Nat.add_zero] at d0
        have HD : Hid (wr.cell? ⟨qf, i * 5, none⟩ = some (.int .i64 M.funcs[i].name) ∧ wr.cell? ⟨qf, i * 5 + 1, none⟩ = some (.int .i64 M.funcs[i].params) ∧ wr.cell? ⟨qf, i * 5 + 2, none⟩ = some (.slice Al M.funcs[i].locals.length cl) ∧ wr.cell? ⟨qf, i * 5 + 3, none⟩ = some (.slice At M.funcs[i].sites.length ct) ∧ wr.cell? ⟨qf, i * 5 + 4, none⟩ = some (.slice Ab M.funcs[i].body.len cb)) := ⟨d0, d1, d2, d3, d4⟩
        have HCF := Lib.hid hCF
        have HRow := Lib.hid hRow
        obtain ⟨f1, f2, f3, f4⟩ := H5.out _ (List.getElem_mem hiM)
        obtain ⟨s1, s2⟩ := HS.out _ (List.getElem_mem hiM)
        have hD1 := fun wx (hx : Below wr.heap.size wr wx) => cloneInt_any Al cl M.funcs[i].locals wx ((r1.old hx (by omega)).below (fun _ _ => trivial)) f1
        have hD2 := fun wx (hx : Below wr.heap.size wr wx) => cloneInt_any At ct M.funcs[i].sites wx ((r2.old hx (by omega)).below (fun _ _ => trivial)) f2
        have hD3 := fun wx (hx : Below wr.heap.size wr wx) => copyB_any (fun k => k < w0) Ab cb M.funcs[i].body wx (r3.kept (fun k hk _ => hx.block k (by have h1 := HBr.out.size; have h2 : k < w0 := hk; omega)) (fun _ h _ => h)) (by omega) (by omega)
        have HIM := Lib.hid hiM
        generalize hf : M.funcs[i] = f at *
        obtain ⟨fn, hfn⟩ : ∃ x, x = f.name := ⟨_, rfl⟩
        obtain ⟨fp, hfp⟩ : ∃ x, x = f.params := ⟨_, rfl⟩
        obtain ⟨ll, hll⟩ : ∃ x, x = f.locals.length := ⟨_, rfl⟩
        obtain ⟨lt, hlt2⟩ : ∃ x, x = f.sites.length := ⟨_, rfl⟩
        obtain ⟨lb, hlb⟩ : ∃ x, x = f.body.len := ⟨_, rfl⟩
        rw [← hll] at hD1 d2
        rw [← hlt2] at hD2 d3
        rw [← hlb] at hD3 d4
        rw [← hfn] at d0
        rw [← hfp] at d1
        have HF : Hid (M.funcs[i] = f) := hf
        have HFl : Hid (fn = f.name ∧ fp = f.params ∧ ll = f.locals.length ∧ lt = f.sites.length ∧ lb = f.body.len) := ⟨hfn, hfp, hll, hlt2, hlb⟩
        have HD1 := Lib.hid hD1
        have HD2 := Lib.hid hD2
        have HD3 := Lib.hid hD3
        have zqf : qf < wr.heap.size := hRow.lt
        have hil : (i : Int) < (lf : Int) := by omega
        have HBA : Hid (Below wr.heap.size wr (wr.alloc (.cells #[.int .i64 fn, .int .i64 fp, .slice Al ll cl, .slice At lt ct, .slice Ab lb cb] 40))) := (Below.refl _ _).alloc (Nat.le_refl _) _
        have KB : Hid (Blk (wr.alloc (.cells #[.int .i64 fn, .int .i64 fp, .slice Al ll cl, .slice At lt ct, .slice Ab lb cb] 40)) wr.heap.size 40 #[.int .i64 fn, .int .i64 fp, .slice Al ll cl, .slice At lt ct, .slice Ab lb cb]) := Blk.new wr 40 _
        clear hCF hc hRow r1 r2 r3 hD1 hD2 hD3 hf hfn hfp hll hlt2 hlb f1 f2 f3 f4 s1 s2
        go_upto_region 5 with (fail)
        obtain ⟨g, hgd⟩ : ∃ g, g = wr.heap.size := ⟨_, rfl⟩
        rw [← hgd] at KB ⊢
        generalize wr.alloc (.cells #[.int .i64 fn, .int .i64 fp, .slice Al ll cl, .slice At lt ct, .slice Ab lb cb] 40) = wa at *
        have HGD := Lib.hid hgd
        clear d0 d1 d2 d3 d4 hgd zqf
        obtain ⟨c0, c1', c2', c3', c4'⟩ := KB.out.c5
        have zg : g < wa.heap.size := KB.out.lt
        go_wp2_with fail
        refine (HD1.out wa HBA.out).mono ?_
        rintro e w2 ⟨B1, b1, rfl, hP1, hb2⟩
        have HB2 := Lib.hid ((HBA.out.trans (hb2.mono HBA.out.size)).setCell (p := ⟨g, 2, none⟩) (by rw [HGD.out]; exact Nat.le_refl _) (.slice B1 ll b1))
        have KB2 := Lib.hid (KB.out.old hb2)
        have KB2' : Hid (Blk (w2.setCell ⟨g, 2, none⟩ (.slice B1 ll b1)) g 40 #[.int .i64 fn, .int .i64 fp, .slice B1 ll b1, .slice At lt ct, .slice Ab lb cb]) := KB2.out.set_ 2 _
        have HP1 : Hid ((w2.setCell ⟨g, 2, none⟩ (.slice B1 ll b1)).ownsRow wa.heap.size 3 1 (.slice B1 ll b1) ll (intV f.locals)) := own_blocks hP1 (fun k hk => Below.heap_setCell _ _ _ _ (fun e => own_ne hP1 KB2.out (by decide) (by have e' : k = g := e; subst e'; exact hk)))
        have HLt1 : Hid (∀ k, some k = (Value.slice B1 ll b1).ownBlock → k < (w2.setCell ⟨g, 2, none⟩ (.slice B1 ll b1)).heap.size) := fun k hk => (HP1.out.lt k hk.symm).2
        have HGa : Hid (g < wa.heap.size) := zg
        have HW2 : Hid (wa.heap.size ≤ (w2.setCell ⟨g, 2, none⟩ (.slice B1 ll b1)).heap.size) := by show _ ≤ _; have := hb2.size; simp [World.setCell]; exact this
        clear hP1 hb2 c0 c1' c2' c3' c4' zg
        obtain ⟨c0, c1', c2', c3', c4'⟩ := KB2.out.c5
        have zg : g < w2.heap.size := KB2.out.lt
        have zf := KB2.out.frozen 2
        go_upto_region 6 with (fail)
        generalize w2.setCell ⟨g, 2, none⟩ (.slice B1 ll b1) = w3 at *
        clear c0 c1' c2' c3' c4' zg zf KB2 KB HBA
        obtain ⟨c0, c1', c2', c3', c4'⟩ := KB2'.out.c5
        have zg : g < w3.heap.size := KB2'.out.lt
        go_wp2_with fail
        refine (HD2.out w3 HB2.out).mono ?_
        rintro e w4 ⟨B2, b2, rfl, hP2, hb4⟩
        have HB4 := Lib.hid ((HB2.out.trans (hb4.mono HB2.out.size)).setCell (p := ⟨g, 3, none⟩) (by rw [HGD.out]; exact Nat.le_refl _) (.slice B2 lt b2))
        have KB4 := Lib.hid (KB2'.out.old hb4)
        have KB4' : Hid (Blk (w4.setCell ⟨g, 3, none⟩ (.slice B2 lt b2)) g 40 #[.int .i64 fn, .int .i64 fp, .slice B1 ll b1, .slice B2 lt b2, .slice Ab lb cb]) := KB4.out.set_ 3 _
        have HP1b : Hid ((w4.setCell ⟨g, 3, none⟩ (.slice B2 lt b2)).ownsRow wa.heap.size 3 1 (.slice B1 ll b1) ll (intV f.locals)) := own_blocks (own_old HP1.out hb4) (fun k hk => Below.heap_setCell _ _ _ _ (fun e => own_ne (own_old HP1.out hb4) KB4.out (by decide) (by have e' : k = g := e; subst e'; exact hk)))
        have HP2 : Hid ((w4.setCell ⟨g, 3, none⟩ (.slice B2 lt b2)).ownsRow w3.heap.size 3 1 (.slice B2 lt b2) lt (intV f.sites)) := own_blocks hP2 (fun k hk => Below.heap_setCell _ _ _ _ (fun e => own_ne hP2 KB4.out (by decide) (by have e' : k = g := e; subst e'; exact hk)))
        have HLt2 : Hid (∀ k, some k = (Value.slice B2 lt b2).ownBlock → k < (w4.setCell ⟨g, 3, none⟩ (.slice B2 lt b2)).heap.size) := fun k hk => (HP2.out.lt k hk.symm).2
        have HW4 : Hid (w3.heap.size ≤ (w4.setCell ⟨g, 3, none⟩ (.slice B2 lt b2)).heap.size) := by show _ ≤ _; have := hb4.size; simp [World.setCell]; exact this
        clear hP2 hb4 c0 c1' c2' c3' c4' zg HP1
        obtain ⟨c0, c1', c2', c3', c4'⟩ := KB4.out.c5
        have zg : g < w4.heap.size := KB4.out.lt
        have zf := KB4.out.frozen 3
        go_upto_region 7 with (fail)
        generalize w4.setCell ⟨g, 3, none⟩ (.slice B2 lt b2) = w5 at *
        clear c0 c1' c2' c3' c4' zg zf KB4 KB2' HB2
        obtain ⟨c0, c1', c2', c3', c4'⟩ := KB4'.out.c5
        have zg : g < w5.heap.size := KB4'.out.lt
        go_wp2_with fail
        refine (HD3.out w5 HB4.out).mono ?_
        rintro e w6 ⟨B3, b3, rfl, hP3⟩
        have hb6 := hP3.2.2
        have HB6 := Lib.hid ((HB4.out.trans (hb6.mono HB4.out.size)).setCell (p := ⟨g, 4, none⟩) (by rw [HGD.out]; exact Nat.le_refl _) (.slice B3 lb b3))
        have KB6 := Lib.hid (KB4'.out.old hb6)
        have KB6' : Hid (Blk (w6.setCell ⟨g, 4, none⟩ (.slice B3 lb b3)) g 40 #[.int .i64 fn, .int .i64 fp, .slice B1 ll b1, .slice B2 lt b2, .slice B3 lb b3]) := KB6.out.set_ 4 _
        have HP1c : Hid ((w6.setCell ⟨g, 4, none⟩ (.slice B3 lb b3)).ownsRow wa.heap.size 3 1 (.slice B1 ll b1) ll (intV f.locals)) := own_blocks (own_old HP1b.out hb6) (fun k hk => Below.heap_setCell _ _ _ _ (fun e => own_ne (own_old HP1b.out hb6) KB6.out (by decide) (by have e' : k = g := e; subst e'; exact hk)))
        have HP2b : Hid ((w6.setCell ⟨g, 4, none⟩ (.slice B3 lb b3)).ownsRow w3.heap.size 3 1 (.slice B2 lt b2) lt (intV f.sites)) := own_blocks (own_old HP2.out hb6) (fun k hk => Below.heap_setCell _ _ _ _ (fun e => own_ne (own_old HP2.out hb6) KB6.out (by decide) (by have e' : k = g := e; subst e'; exact hk)))
        have HP3 : Hid (CbV (fun k => k < w0) w5.heap.size (w6.setCell ⟨g, 4, none⟩ (.slice B3 lb b3)) B3 f.body) := CbV.far ⟨hP3.1, hP3.2.1⟩ KB6.out KB4'.out.lt (fun h => by have h1 := HGD.out; have h2 := HBr.out.size; have h3 : g < w0 := h; omega) (fun k hk hkg => Below.heap_setCell _ _ _ _ hkg)
        have HW7 : Hid (w5.heap.size ≤ (w6.setCell ⟨g, 4, none⟩ (.slice B3 lb b3)).heap.size) := by show _ ≤ _; have := hb6.size; simp [World.setCell]; exact this
        clear hP3 hb6 c0 c1' c2' c3' c4' zg HP1b HP2
        obtain ⟨c0, c1', c2', c3', c4'⟩ := KB6.out.c5
        have zg : g < w6.heap.size := KB6.out.lt
        have zf := KB6.out.frozen 4
        go_upto_region 8 with (fail)
        have HW6 : Hid (wa.heap.size ≤ w5.heap.size) := by show _ ≤ _; have := HW2.out; have := HW4.out; omega
        generalize w6.setCell ⟨g, 4, none⟩ (.slice B3 lb b3) = w7 at *
        clear c0 c1' c2' c3' c4' zg zf KB6 KB4' HB4
        obtain ⟨c0, c1', c2', c3', c4'⟩ := KB6'.out.c5
        have zg : g < w7.heap.size := KB6'.out.lt
        have HR7 := Lib.hid (HRow.out.old HB6.out)
        have K7 := Lib.hid (hI.out.2.1.old HB6.out)
        obtain ⟨k0, k1, k2, k3⟩ := K7.out.c4
        have zq3 : q3 < w7.heap.size := K7.out.lt
        have zqf : qf < w7.heap.size := HR7.out.lt
        have hqfl : qf < wr.heap.size := HRow.out.lt
        have y0 := cell_old HB6.out hqfl HD.out.1
        have y1 := cell_old HB6.out hqfl HD.out.2.1
        have y2 := cell_old HB6.out hqfl HD.out.2.2.1
        have y3 := cell_old HB6.out hqfl HD.out.2.2.2.1
        have y4 := cell_old HB6.out hqfl HD.out.2.2.2.2
        have p0 := HR7.out.frozen (i * 5)
        have p1 := HR7.out.frozen (i * 5 + 1)
        have p2 := HR7.out.frozen (i * 5 + 2)
        have p3 := HR7.out.frozen (i * 5 + 3)
        have p4 := HR7.out.frozen (i * 5 + 4)
        go_upto_region 9 with (fail)
        have hRi : CpG w0 lo (put5 w7 qf (i * 5) (.int .i64 fn) (.int .i64 fp) (.slice B1 ll b1) (.slice B2 lt b2) (.slice B3 lb b3)) qf M.funcs (i + 1) := by
          have hh := HF.out
          have hW2 := HW2.out
          have hW4 := HW4.out
          have hW6 := HW6.out
          have hGa := HGa.out
          have hGD := HGD.out
          have hz2 : w.heap.size + 1 < w1.heap.size := KR.out.lt
          have hs1 := HBr.out.size
          have hq3l : q3 < wr.heap.size := hI.out.2.1.lt
          obtain ⟨l1, l2, l3, l4, l5⟩ := HFl.out
          have hP1 := HP1c.out
          have hP2 := HP2b.out
          have hP3 := HP3.out
          subst hh
          rw [l1, l2]
          exact HCF.out.step HIM.out HB6.out l3 l4 l5 (Bl := wa.heap.size) (Bs := w3.heap.size) (B0 := w5.heap.size) (by omega) hW2 hW4 HW7.out (by omega) HCF.out.lo_le hP1 HLt1.out hP2 HLt2.out hP3.2
        have HRi := Lib.hid hRi
        have hqq : q3 ≠ qf := fun e => by
          have h1 := K7.out
          rw [e] at h1
          exact absurd (h1.uniq HR7.out) (by decide)
        have hk9 : ∀ {B e s n c : Nat} {A : Option Addr} {xs : List Value}, wr.ownsRow B e s (.slice A n c) n xs → e ≠ 40 → (put5 w7 qf (i * 5) (.int .i64 fn) (.int .i64 fp) (.slice B1 ll b1) (.slice B2 lt b2) (.slice B3 lb b3)).ownsRow B e s (.slice A n c) n xs := fun h he => own_blocks (own_old h HB6.out) (fun k hk => put5_heap (fun e2 => by subst e2; exact own_ne (own_old h HB6.out) HR7.out he hk))
        have HI8 : Hid (Below w1.heap.size w1 (put5 w7 qf (i * 5) (.int .i64 fn) (.int .i64 fp) (.slice B1 ll b1) (.slice B2 lt b2) (.slice B3 lb b3)) ∧ Blk (put5 w7 qf (i * 5) (.int .i64 fn) (.int .i64 fp) (.slice B1 ll b1) (.slice B2 lt b2) (.slice B3 lb b3)) q3 30 #[.slice A1 ls c1, .slice A2 lg c2, .slice (some ⟨qf, 0, none⟩) lf c3, .slice A4 le c4] ∧ (put5 w7 qf (i * 5) (.int .i64 fn) (.int .i64 fp) (.slice B1 ll b1) (.slice B2 lt b2) (.slice B3 lb b3)).ownsRow w1.heap.size 9 1 (.slice A1 ls c1) ls (strV M.strs) ∧ (put5 w7 qf (i * 5) (.int .i64 fn) (.int .i64 fp) (.slice B1 ll b1) (.slice B2 lt b2) (.slice B3 lb b3)).ownsRow w1.heap.size 3 1 (.slice A2 lg c2) lg (intV M.globs) ∧ (put5 w7 qf (i * 5) (.int .i64 fn) (.int .i64 fp) (.slice B1 ll b1) (.slice B2 lt b2) (.slice B3 lb b3)).ownsRow w1.heap.size 3 1 (.slice A4 le c4) le (intV M.ents) ∧ (0 < lf → (some ⟨qf, 0, none⟩ : Option Addr) = some ⟨qf, 0, none⟩ ∧ CpG w0 lo (put5 w7 qf (i * 5) (.int .i64 fn) (.int .i64 fp) (.slice B1 ll b1) (.slice B2 lt b2) (.slice B3 lb b3)) qf M.funcs (i + 1) ∧ w1.heap.size ≤ qf)) :=
          ⟨put5_below (HBr.out.trans (HB6.out.mono HBr.out.size)) HQB.out, (put5_heap hqq).trans K7.out, hk9 hI.out.2.2.1 (by decide), hk9 hI.out.2.2.2.1 (by decide), hk9 hI.out.2.2.2.2.1 (by decide), fun _ => ⟨rfl, HRi.out, HQB.out⟩⟩
        change Code.wp _ _ _ _ (put5 w7 qf (i * 5) (.int .i64 fn) (.int .i64 fp) (.slice B1 ll b1) (.slice B2 lt b2) (.slice B3 lb b3))
        generalize put5 w7 qf (i * 5) (.int .i64 fn) (.int .i64 fp) (.slice B1 ll b1) (.slice B2 lt b2) (.slice B3 lb b3) = w8 at *
        clear hRi hk9 hqq k0 k1 k2 k3 zq3 zqf y0 y1 y2 y3 y4 p0 p1 p2 p3 p4 c0 c1' c2' c3' c4' zg hI
        go_wp2
        go_roundw
        case rel => exact ⟨i + 1, by omega, by go_num, HI8.out.1, HI8.out.2.1, HI8.out.2.2.1, HI8.out.2.2.2.1, HI8.out.2.2.2.2.1, fun h => ⟨trivial, (HI8.out.2.2.2.2.2 h).2⟩⟩
        case measure => simp [intOf]; omega
      · obtain rfl : i = lf := by omega
        have KRr := Lib.hid (KR.out.old HBr.out)
        obtain ⟨k0, k1, k2, k3⟩ := hI.out.2.1.c4
        obtain ⟨g0, g1, g2, g3⟩ := KRr.out.c4
        have f0 := KRr.out.frozen 0
        have f1 := KRr.out.frozen 1
        have f2 := KRr.out.frozen 2
        have f3 := KRr.out.frozen 3
        have zq3 : q3 < wr.heap.size := hI.out.2.1.lt
        have zr : w.heap.size + 1 < wr.heap.size := KRr.out.lt
        go_wp2
        have hsz : w.heap.size + 1 < wr.heap.size := KRr.out.lt
        have hKf := ((((KRr.out.set_ 0 (.slice A1 ls c1)).set_ 1 (.slice A2 lg c2)).set_ 2 (.slice A3 i c3)).set_ 3 (.slice A4 le c4))
        obtain ⟨r0, r1, r2, r3⟩ := Blk.c4 hKf
        refine bodyPost_ret (v := .agg #[.slice A1 ls c1, .slice A2 lg c2, .slice A3 i c3, .slice A4 le c4]) (by simp [results, Try.results49, go_sem, r0, r1, r2, r3]) rfl ?_
        have hk : ∀ k, k ≠ w.heap.size + 1 → ((((wr.setCell ⟨w.heap.size + 1, 0, none⟩ (.slice A1 ls c1)).setCell ⟨w.heap.size + 1, 1, none⟩ (.slice A2 lg c2)).setCell ⟨w.heap.size + 1, 2, none⟩ (.slice A3 i c3)).setCell ⟨w.heap.size + 1, 3, none⟩ (.slice A4 le c4)).heap[k]? = wr.heap[k]? := fun k hk => set4_far _ _ _ _ hk
        have hbf := set4 (HB1.out.trans (HBr.out.mono HB1.out.size)) (Nat.le_succ w.heap.size) (.slice A1 ls c1) (.slice A2 lg c2) (.slice A3 i c3) (.slice A4 le c4)
        have hbf' : Below w.heap.size w ((((wr.setCell ⟨w.heap.size + 1, 0, none⟩ (.slice A1 ls c1)).setCell ⟨w.heap.size + 1, 1, none⟩ (.slice A2 lg c2)).setCell ⟨w.heap.size + 1, 2, none⟩ (.slice A3 i c3)).setCell ⟨w.heap.size + 1, 3, none⟩ (.slice A4 le c4)) := hbf
        have hsz' : wr.heap.size ≤ ((((wr.setCell ⟨w.heap.size + 1, 0, none⟩ (.slice A1 ls c1)).setCell ⟨w.heap.size + 1, 1, none⟩ (.slice A2 lg c2)).setCell ⟨w.heap.size + 1, 2, none⟩ (.slice A3 i c3)).setCell ⟨w.heap.size + 1, 3, none⟩ (.slice A4 le c4)).heap.size := by simp [World.setCell]
        clear hbf r0 r1 r2 r3
        generalize (((wr.setCell ⟨w.heap.size + 1, 0, none⟩ (.slice A1 ls c1)).setCell ⟨w.heap.size + 1, 1, none⟩ (.slice A2 lg c2)).setCell ⟨w.heap.size + 1, 2, none⟩ (.slice A3 i c3)).setCell ⟨w.heap.size + 1, 3, none⟩ (.slice A4 le c4) = wf at *
        obtain ⟨hb, hK3, hO1, hO2, hO4, hF⟩ := hI.out
        obtain ⟨el, eg, ef, ee⟩ := HL.out
        have hs1 := HB1.out.size
        have hz2 : w.heap.size + 1 < w1.heap.size := KR.out.lt
        have hw : ∀ {B e s n c : Nat} {A : Option Addr} {xs : List Value}, wr.ownsRow B e s (.slice A n c) n xs → e ≠ 30 → wf.ownsRow B e s (.slice A n c) n xs := fun h he => own_blocks h (fun k hk' => hk k (fun e => by subst e; exact own_ne h KRr.out he hk'))
        have h1 := hw hO1 (by decide)
        have h2 := hw hO2 (by decide)
        have h4 := hw hO4 (by decide)
        have hG : 0 < i → A3 = some ⟨qf, 0, none⟩ ∧ CpG w0 lo wf qf M.funcs M.funcs.length := fun hp => by
          obtain ⟨hA, hCF, hqb⟩ := hF hp
          rw [← ef]
          have h5 := HLO.out.1
          exact ⟨hA, hCF.kept hsz' (fun k hk' _ => hk k (by rcases hk' with h | h | h <;> omega))⟩
        refine ⟨A1, c1, A2, c2, A3, c3, A4, c4, by rw [el, eg, ef, ee], ⟨by rw [← el]; exact (RdS.own h1).below (fun _ _ => trivial), by rw [← eg]; exact (RdS.own h2).below (fun _ _ => trivial), fun hp => ?_, by rw [← ee]; exact (RdS.own h4).below (fun _ _ => trivial)⟩, hbf', by rw [← eg]; exact own_mono h2 (by omega), by rw [← ee]; exact own_mono h4 (by omega), by rw [← eg, ← ee]; exact HAp.out, fun hp => ?_⟩
        · obtain ⟨rfl, hCF⟩ := hG (by omega)
          exact hCF.reads hp
        · obtain ⟨rfl, hCF⟩ := hG (by omega)
          have h5 := HLO.out.1
          have h6 := (hF (by omega)).2.2
          exact ⟨qf, lo, rfl, hCF, by rw [← eg, ← ee]; exact HLO.out.2, by omega, by omega⟩
end Go.Proofs.Ytpdebnecfknohaa
