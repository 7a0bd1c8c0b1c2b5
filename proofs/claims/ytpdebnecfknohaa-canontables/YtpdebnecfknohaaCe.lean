
/-
  What Clone leaves of functions; what Copy's loop keeps, plainly.
-/
import Derived.Test.YtpdebnecfknohaaCc
import Derived.Test.YtpdebnecfknohaaCk
namespace Go.Proofs.Ytpdebnecfknohaa
open Go.RowKit
set_option linter.unusedVariables false
set_option maxRecDepth 20000

/-- The cells of functions. -/
def FnCells (S : Nat → Prop) (w : World) (cs : List Value) (L : List Fn) : Prop := cs.length = L.length * 5 ∧ (∀ u ∈ cs, u.oneCell' = true) ∧ ∀ i (h : i < L.length), ∃ fs, FnS S w fs L[i] ∧ ∀ j u, fs[j]? = some u → cs[i * 5 + j]? = some u
theorem fnS_len {S : Nat → Prop} {w : World} {fs : List Value} {f : Fn} (h : FnS S w fs f) : fs.length = 5 := by
  obtain ⟨Al, cl, As, cs', Ab, cb, rfl, _⟩ := h
  rfl
theorem fns_cells {S : Nat → Prop} {w : World} {b : Nat} : ∀ (L : List Fn) (o : Nat), (∀ i (h : i < L.length), ∃ fs, FnS S w fs L[i] ∧ ∀ j u, fs[j]? = some u → w.cell? ⟨b, o + i * 5 + j, none⟩ = some u) → ∃ cs, FnCells S w cs L ∧ ∀ j u, cs[j]? = some u → w.cell? ⟨b, o + j, none⟩ = some u
  | [], o, h => ⟨[], ⟨rfl, fun u hu => by simp at hu, fun i hi => by simp at hi⟩, fun j u hj => by simp at hj⟩
  | f :: L, o, h => by
    obtain ⟨fs, hf, hc⟩ := h 0 (by simp)
    have hl := fnS_len hf
    obtain ⟨cr, ⟨h1, h2, h3⟩, h4⟩ := fns_cells L (o + 5) (fun i hi => by
      obtain ⟨fs', hf', hc'⟩ := h (i + 1) (by simpa using hi)
      refine ⟨fs', hf', fun j u hj => ?_⟩
      rw [show o + 5 + i * 5 + j = o + (i + 1) * 5 + j from by omega]
      exact hc' j u hj)
    refine ⟨fs ++ cr, ⟨by simp [hl, h1]; omega, fun u hu => ?_, fun i hi => ?_⟩, fun j u hj => ?_⟩
    · rcases List.mem_append.1 hu with hu | hu
      · obtain ⟨Al, cl, As, cs', Ab, cb, rfl, _⟩ := hf
        simp only [List.mem_cons, List.not_mem_nil, or_false] at hu
        rcases hu with rfl | rfl | rfl | rfl | rfl <;> rfl
      · exact h2 u hu
    · cases i with
      | zero =>
        refine ⟨fs, hf, fun j u hj => ?_⟩
        have hjl : j < fs.length := by
          rcases Nat.lt_or_ge j fs.length with h | h
          · exact h
          · rw [List.getElem?_eq_none h] at hj; cases hj
        rw [show 0 * 5 + j = j from by omega, List.getElem?_append_left hjl]
        exact hj
      | succ i =>
        obtain ⟨fs', hf', hc'⟩ := h3 i (by simpa using hi)
        refine ⟨fs', hf', fun j u hj => ?_⟩
        rw [List.getElem?_append_right (by omega), hl, show (i + 1) * 5 + j - 5 = i * 5 + j from by omega]
        exact hc' j u hj
    · rcases Nat.lt_or_ge j fs.length with hjl | hjl
      · rw [List.getElem?_append_left hjl] at hj
        have := hc j u hj
        rwa [show o + 0 * 5 + j = o + j from by omega] at this
      · rw [List.getElem?_append_right hjl] at hj
        have := h4 _ u hj
        rwa [show o + 5 + (j - fs.length) = o + j from by omega] at this
theorem RdS.low {S : Nat → Prop} {w : World} {A : Option Addr} {n : Nat} {xs : List Value} (r : RdS S w A n 1 xs) : RdS (fun k => k < w.heap.size ∧ S k) w A n 1 xs := by
  refine ⟨r.1, fun hp => ?_⟩
  obtain ⟨b, o, hA, hS, hc⟩ := r.2 hp
  have hx : 0 < xs.length := by rw [r.1]; omega
  exact ⟨b, o, hA, ⟨World.block_lt_of_cell? w ⟨b, o + 0, none⟩ (hc 0 _ (List.getElem?_eq_getElem hx)), hS⟩, hc⟩
theorem FnsS.low {S : Nat → Prop} {w : World} {A : Option Addr} {L : List Fn} (h : FnsS S w A L) : FnsS (fun k => k < w.heap.size ∧ S k) w A L := fun hp => by
  obtain ⟨b, o, hA, hS, hb⟩ := h hp
  obtain ⟨fs0, hf0, hc0⟩ := hb 0 hp
  have hl0 := fnS_len hf0
  have hlt : b < w.heap.size := World.block_lt_of_cell? w ⟨b, o + 0 * 5 + 0, none⟩ (hc0 0 _ (List.getElem?_eq_getElem (by omega)))
  refine ⟨b, o, hA, ⟨hlt, hS⟩, fun i hi => ?_⟩
  obtain ⟨fs, ⟨Al, cl, As, cs', Ab, cb, e, r1, r2, r3⟩, hc⟩ := hb i hi
  exact ⟨fs, ⟨Al, cl, As, cs', Ab, cb, e, r1.low, r2.low, r3.low⟩, hc⟩
theorem FnCells.kept {S S' : Nat → Prop} {w w' : World} {cs : List Value} {L : List Fn} (h : FnCells S w cs L) (hk : Kept S w w') (hS : ∀ k, S k → k < w.heap.size → S' k) : FnCells S' w' cs L := ⟨h.1, h.2.1, fun i hi => by
  obtain ⟨fs, hf, hc⟩ := h.2.2 i hi
  exact ⟨fs, hf.kept hk hS, hc⟩⟩
set_option maxRecDepth 20000 in
set_option maxHeartbeats 1000000 in
theorem cloneF_any (S : Nat → Prop) (Af : Option Addr) (cf : Nat) (L : List Fn) (w : World) (h : FnsS S w Af L) (hl : L.length ≤ 1000000) :
    Calls Try.prog 78 #[.slice Af L.length cf] w fun e w' => ∃ A c, e = .returned (.slice A L.length c) ∧ (∃ cs, w'.ownsRow w.heap.size 40 5 (.slice A L.length c) L.length cs ∧ FnCells S w cs L) ∧ Below w.heap.size w w' := by
  obtain ⟨i0, hi0, hz0, hz1, hz2⟩ := info_parts info40
  obtain ⟨n, hnl⟩ : ∃ n, n = L.length := ⟨_, rfl⟩
  have HNL := Lib.hid hnl
  cases Af with
  | none =>
    have h0 : L = [] := by
      rcases Nat.eq_zero_or_pos L.length with h0 | h0
      · exact List.eq_nil_of_length_eq_zero h0
      · obtain ⟨b, o, hA, _⟩ := h h0; cases hA
    subst h0
    clear h
    have hq := fun W => Lib.run_eql_slice_nil (P := Try.prog) W 28 40 none 0 cf 0 0 Try.underlying28
    simp only [List.length_nil]
    go_enter Try.func78, Try.ntmps78
    go_wp2
    go_ret
    exact ⟨none, 0, rfl, ⟨[], World.ownsRow_nil _ _ _ _, rfl, fun u hu => by simp at hu, fun i hi => by simp at hi⟩, Below.refl _ _⟩
  | some a =>
    obtain ⟨cs, hcs, hcc⟩ : ∃ cs, FnCells S w cs L ∧ ∀ j u, cs[j]? = some u → w.cell? (a.add j) = some u := by
      rcases Nat.eq_zero_or_pos L.length with h0 | h0
      · have ht : L = [] := List.eq_nil_of_length_eq_zero h0
        subst ht
        exact ⟨[], ⟨rfl, fun u hu => by simp at hu, fun i hi => by simp at hi⟩, fun j u hj => by simp at hj⟩
      · obtain ⟨b, o, hA, _, hb⟩ := h h0
        injection hA with hA
        subst hA
        obtain ⟨cs, h1, h2⟩ := fns_cells L o hb
        exact ⟨cs, h1, fun j u hj => by rw [Go.WideShapes.add_plain]; exact h2 j u hj⟩
    have HF := Lib.hid hcc
    have HCS := Lib.hid hcs
    have HFL : Hid (cs.length = n * 5) := by show _ = _; rw [hcs.1, hnl]
    rw [← hnl] at hl ⊢
    clear hcc h hnl hcs
    have hq := fun W => Lib.run_eql_slice_nil (P := Try.prog) W 28 40 (some a) n cf 0 0 Try.underlying28
    go_enter Try.func78, Try.ntmps78
    go_wp2_with (first | (at_builtin; refine wpList_append_own_at _ rfl (.tmp 5) (.tmp 6) 28 rfl w.heap.size 40 i0 (.agg #[.int .i64 0, .int .i64 0, .slice none 0 0, .slice none 0 0, .slice none 0 0]) 5 88 Try.underlying28 hi0 hz0 hz1 hz2 rfl (by decide) (.slice (some ⟨w.heap.size, 0, none⟩) 0 0) 0 [] rfl ?d1 a n cf cs rfl ?c1 ?c2 ?c3 ?c4 ?c5 ?c6 ?_))
    case d1 => exact World.ownsRow_made w #[] 0 (Nat.le_refl _) (by unfold maxLen; omega) rfl
    case c1 => exact HFL.out
    case c2 =>
      intro j u hu
      have := HF.out j u hu
      rw [World.cell?_alloc_lt w _ _ (World.block_lt_of_cell? w _ this)]
      exact this
    case c3 => exact HCS.out.2.1
    case c4 => unfold maxLen; omega
    case c5 => omega
    case c6 => simp
    intro v' w1 hown hg _ hat
    have hown' : w1.ownsRow w.heap.size 40 5 v' n cs := by simpa using hown
    obtain ⟨A, c, rfl⟩ := own_slice hown'
    have HO := Lib.hid hown'
    have HB := Lib.hid (((Below.refl w.heap.size w).alloc (Nat.le_refl _) (.cells #[] 40)).grown hg (by simp) (fun k hk => by simp [Value.ownBlock] at hk; omega))
    clear hown hown' hg hat
    go_wp2
    go_ret
    exact ⟨A, c, rfl, ⟨cs, HO.out, HCS.out⟩, HB.out⟩

/-- What may be changed of a function of a copy. -/
def FMut (base : Nat) (W : World) (qf j : Nat) : Prop := ∃ x Al ll cl Ab lb cb, W.cell? ⟨qf, j * 5, none⟩ = some (.int .i64 x) ∧ W.cell? ⟨qf, j * 5 + 2, none⟩ = some (.slice Al ll cl) ∧ W.cell? ⟨qf, j * 5 + 4, none⟩ = some (.slice Ab lb cb) ∧
  (0 < ll → ∃ ql y cs, Al = some ⟨ql, 0, none⟩ ∧ base ≤ ql ∧ Blk W ql 3 cs ∧ W.cell? ⟨ql, 0, none⟩ = some (.int .i64 y)) ∧
  (0 < lb → ∃ qb cs, Ab = some ⟨qb, 0, none⟩ ∧ base ≤ qb ∧ Blk W qb 50 cs ∧ ∀ k, k < lb → LooseAt base W qb k)
theorem LooseAt.far {base qf T0 : Nat} {cs0 : Array Value} {W W' : World} {q k : Nat} {cs : Array Value} (h : LooseAt base W q k) (hq : Blk W q 50 cs) (hf : Blk W qf T0 cs0) (h43 : T0 ≠ 46) (h46 : T0 ≠ 50) (hk : ∀ k, k < W.heap.size → k ≠ qf → W'.heap[k]? = W.heap[k]?) : LooseAt base W' q k := by
  have ne : ∀ b T (ds : Array Value), Blk W b T ds → (T = 46 ∨ T = 50) → b ≠ qf := fun b T ds hb hT e => by
    subst e
    have := hb.uniq hf
    rcases hT with rfl | rfl
    · exact h43 this.symm
    · exact h46 this.symm
  have kc : ∀ (b T : Nat) (ds : Array Value), Blk W b T ds → (T = 46 ∨ T = 50) → ∀ (o : Nat) (u : Value), W.cell? ⟨b, o, none⟩ = some u → W'.cell? ⟨b, o, none⟩ = some u := fun b T ds hB hT o u hu => (World.cell?_of_block (hk b hB.lt (ne b T ds hB hT))).trans hu
  have kb : ∀ (b T : Nat) (ds : Array Value), Blk W b T ds → (T = 46 ∨ T = 50) → Blk W' b T ds := fun b T ds hB hT => (hk b hB.lt (ne b T ds hB hT)).trans hB
  obtain ⟨⟨x, h0⟩, ⟨A, m, c, h5, ha⟩, ⟨A', m', c', h6, hb'⟩⟩ := h
  refine ⟨⟨x, kc _ _ _ hq (.inr rfl) _ _ h0⟩, ⟨A, m, c, kc _ _ _ hq (.inr rfl) _ _ h5, fun hp => ?_⟩, ⟨A', m', c', kc _ _ _ hq (.inr rfl) _ _ h6, fun hp => ?_⟩⟩
  · obtain ⟨b, x, T, ds, hA, hbb, hB, hT, hc⟩ := ha hp
    exact ⟨b, x, T, ds, hA, hbb, kb _ _ _ hB hT, hT, kc _ _ _ hB hT _ _ hc⟩
  · obtain ⟨b, x, T, ds, hA, hbb, hB, hT, hc⟩ := hb' hp
    exact ⟨b, x, T, ds, hA, hbb, kb _ _ _ hB hT, hT, kc _ _ _ hB hT _ _ hc⟩
theorem LooseAt.base {base base' : Nat} {W : World} {q k : Nat} (h : LooseAt base' W q k) (hb : base ≤ base') : LooseAt base W q k := by
  obtain ⟨h0, ⟨A, m, c, h5, ha⟩, ⟨A', m', c', h6, hb'⟩⟩ := h
  refine ⟨h0, ⟨A, m, c, h5, fun hp => ?_⟩, ⟨A', m', c', h6, fun hp => ?_⟩⟩
  · obtain ⟨b, x, T, ds, hA, hbb, r⟩ := ha hp
    exact ⟨b, x, T, ds, hA, by omega, r⟩
  · obtain ⟨b, x, T, ds, hA, hbb, r⟩ := hb' hp
    exact ⟨b, x, T, ds, hA, by omega, r⟩
/-- Behind changes of the functions' row that leave this function's cells. -/
theorem FMut.far {base qf j : Nat} {cs0 : Array Value} {W W' : World} (h : FMut base W qf j) (hf : Blk W qf 40 cs0) (hk : ∀ k, k < W.heap.size → k ≠ qf → W'.heap[k]? = W.heap[k]?) (hc : ∀ t, t < 5 → W'.cell? ⟨qf, j * 5 + t, none⟩ = W.cell? ⟨qf, j * 5 + t, none⟩) : FMut base W' qf j := by
  obtain ⟨x, Al, ll, cl, Ab, lb, cb, e0, e2, e4, h1, h2⟩ := h
  refine ⟨x, Al, ll, cl, Ab, lb, cb, (hc 0 (by omega)).trans e0, (hc 2 (by omega)).trans e2, (hc 4 (by omega)).trans e4, fun hp => ?_, fun hp => ?_⟩
  · obtain ⟨ql, y, cs, hA, hb, hB, hy⟩ := h1 hp
    have hh := hk ql hB.lt (fun e => by subst e; exact absurd (hB.uniq hf) (by decide))
    exact ⟨ql, y, cs, hA, hb, hh.trans hB, (World.cell?_of_block hh).trans hy⟩
  · obtain ⟨qb, cs, hA, hb, hB, hL⟩ := h2 hp
    have hh := hk qb hB.lt (fun e => by subst e; exact absurd (hB.uniq hf) (by decide))
    exact ⟨qb, cs, hA, hb, hh.trans hB, fun k hkk => (hL k hkk).far hB hf (by decide) (by decide) hk⟩
theorem FMut.base {base base' : Nat} {W : World} {qf j : Nat} (h : FMut base' W qf j) (hb : base ≤ base') : FMut base W qf j := by
  obtain ⟨x, Al, ll, cl, Ab, lb, cb, e0, e2, e4, h1, h2⟩ := h
  refine ⟨x, Al, ll, cl, Ab, lb, cb, e0, e2, e4, fun hp => ?_, fun hp => ?_⟩
  · obtain ⟨ql, y, cs, hA, hbb, r⟩ := h1 hp
    exact ⟨ql, y, cs, hA, by omega, r⟩
  · obtain ⟨qb, cs, hA, hbb, hB, hL⟩ := h2 hp
    exact ⟨qb, cs, hA, by omega, hB, fun k hk => (hL k hk).base hb⟩
/-- Behind changes of a box. -/
theorem FMut.farb {base qf j g : Nat} {cs0 csr : Array Value} {W W' : World} (h : FMut base W qf j) (hf : Blk W g 30 cs0) (hR : Blk W qf 40 csr) (hk : ∀ k, k < W.heap.size → k ≠ g → W'.heap[k]? = W.heap[k]?) : FMut base W' qf j := by
  have ne : ∀ b T (ds : Array Value), Blk W b T ds → T ≠ 30 → b ≠ g := fun b T ds hb hT e => by
    subst e
    exact hT (hb.uniq hf)
  have hRr := hk qf hR.lt (ne _ _ _ hR (by decide))
  obtain ⟨x, Al, ll, cl, Ab, lb, cb, e0, e2, e4, h1, h2⟩ := h
  refine ⟨x, Al, ll, cl, Ab, lb, cb, (World.cell?_of_block hRr).trans e0, (World.cell?_of_block hRr).trans e2, (World.cell?_of_block hRr).trans e4, fun hp => ?_, fun hp => ?_⟩
  · obtain ⟨ql, y, cs, hA, hb, hB, hy⟩ := h1 hp
    have hh := hk ql hB.lt (ne _ _ _ hB (by decide))
    exact ⟨ql, y, cs, hA, hb, hh.trans hB, (World.cell?_of_block hh).trans hy⟩
  · obtain ⟨qb, cs, hA, hb, hB, hL⟩ := h2 hp
    have hh := hk qb hB.lt (ne _ _ _ hB (by decide))
    exact ⟨qb, cs, hA, hb, hh.trans hB, fun k hkk => (hL k hkk).far hB hf (by decide) (by decide) hk⟩
theorem FMut.old {base qf j : Nat} {W W' : World} (h : FMut base W qf j) (hb : Below W.heap.size W W') : FMut base W' qf j := by
  have kc : ∀ (b o : Nat) (u : Value), W.cell? ⟨b, o, none⟩ = some u → W'.cell? ⟨b, o, none⟩ = some u := fun b o u hu => cell_old hb (World.block_lt_of_cell? W ⟨b, o, none⟩ hu) hu
  obtain ⟨x, Al, ll, cl, Ab, lb, cb, e0, e2, e4, h1, h2⟩ := h
  refine ⟨x, Al, ll, cl, Ab, lb, cb, kc _ _ _ e0, kc _ _ _ e2, kc _ _ _ e4, fun hp => ?_, fun hp => ?_⟩
  · obtain ⟨ql, y, cs, hA, hbb, hB, hy⟩ := h1 hp
    exact ⟨ql, y, cs, hA, hbb, hB.old hb, kc _ _ _ hy⟩
  · obtain ⟨qb, cs, hA, hbb, hB, hL⟩ := h2 hp
    exact ⟨qb, cs, hA, hbb, hB.old hb, fun k hk => (hL k hk).old hb⟩

/-- A body like that, in rows of the call's own. -/
def CbV (S0 : Nat → Prop) (B : Nat) (w' : World) (A : Option Addr) (t : Bd) : Prop := (0 < t.len → ∃ q cs, A = some ⟨q, 0, none⟩ ∧ B ≤ q ∧ Blk w' q 50 cs ∧ ∀ k, k < t.len → LooseAt B w' q k) ∧ BodyS (fun k => B ≤ k ∨ S0 k) w' A t
theorem CbV.far {S0 : Nat → Prop} {B g : Nat} {cs0 : Array Value} {w W' : World} {A : Option Addr} {t : Bd} (h : CbV S0 B w A t) (hf : Blk w g 40 cs0) (hg : g < B) (hS : ¬ S0 g) (hk : ∀ k, k < w.heap.size → k ≠ g → W'.heap[k]? = w.heap[k]?) : CbV S0 B W' A t := by
  refine ⟨fun hp => ?_, h.2.kept (fun k hk' hlt => hk k hlt (fun e => ?_)) (fun _ h _ => h)⟩
  · obtain ⟨q, cs, hA, hq, hB, hL⟩ := h.1 hp
    exact ⟨q, cs, hA, hq, (hk q hB.lt (by omega)).trans hB, fun k hkk => (hL k hkk).far hB hf (by decide) (by decide) hk⟩
  · subst e
    rcases hk' with h1 | h1
    · omega
    · exact hS h1
/-- What Copy's loop keeps. -/
structure CpF (S1 : Nat → Prop) (base : Nat) (wr : World) (qf : Nat) (L : List Fn) (i : Nat) : Prop where
  row : ∃ cs, Blk wr qf 40 cs ∧ L.length * 5 ≤ cs.size
  qb : base ≤ qf
  fns : ∀ j (h : j < L.length), ∃ fs, FnS S1 wr fs L[j] ∧ ∀ t u, fs[t]? = some u → wr.cell? ⟨qf, j * 5 + t, none⟩ = some u
  muts : ∀ j, j < i → FMut base wr qf j
theorem CpF.reads {S1 : Nat → Prop} {base : Nat} {wr : World} {qf i : Nat} {L : List Fn} (h : CpF S1 base wr qf L i) : FnsS (fun _ => True) wr (some ⟨qf, 0, none⟩) L := fun hp => by
  refine ⟨qf, 0, rfl, trivial, fun j hj => ?_⟩
  obtain ⟨fs, hf, hc⟩ := h.fns j hj
  refine ⟨fs, hf.kept (fun _ _ _ => rfl) (fun _ _ _ => trivial), fun t u ht => ?_⟩
  rw [Nat.zero_add]
  exact hc t u ht
theorem CpF.old {S1 : Nat → Prop} {base : Nat} {wr w' : World} {qf i : Nat} {L : List Fn} (h : CpF S1 base wr qf L i) (hb : Below wr.heap.size wr w') : CpF S1 base w' qf L i := by
  obtain ⟨cs, h1, h2⟩ := h.row
  refine ⟨⟨cs, h1.old hb, h2⟩, h.qb, fun j hj => ?_, fun j hj => (h.muts j hj).old hb⟩
  obtain ⟨fs, hf, hc⟩ := h.fns j hj
  exact ⟨fs, hf.kept (Below.keptS hb) (fun _ h _ => h), fun t u ht => cell_old hb h1.lt (hc t u ht)⟩

/-- Five cells of a row. -/
def put5 (w : World) (q p : Nat) (v0 v1 v2 v3 v4 : Value) : World := ((((w.setCell ⟨q, p, none⟩ v0).setCell ⟨q, p + 1, none⟩ v1).setCell ⟨q, p + 2, none⟩ v2).setCell ⟨q, p + 3, none⟩ v3).setCell ⟨q, p + 4, none⟩ v4
section
variable {w : World} {q p : Nat} {v0 v1 v2 v3 v4 : Value}
theorem put5_heap {k : Nat} (h : k ≠ q) : (put5 w q p v0 v1 v2 v3 v4).heap[k]? = w.heap[k]? := by
  unfold put5
  rw [Below.heap_setCell _ _ _ _ h, Below.heap_setCell _ _ _ _ h, Below.heap_setCell _ _ _ _ h, Below.heap_setCell _ _ _ _ h, Below.heap_setCell _ _ _ _ h]
theorem put5_same (o : Nat) (h : ∀ j, j < 5 → o ≠ p + j) : (put5 w q p v0 v1 v2 v3 v4).cell? ⟨q, o, none⟩ = w.cell? ⟨q, o, none⟩ := by
  have hn : ∀ j, j < 5 → (⟨q, p + j, none⟩ : Addr) ≠ ⟨q, o, none⟩ := fun j hj e => by
    injection e with _ e2
    exact h j hj e2.symm
  unfold put5
  rw [World.cell?_setCell_other _ _ _ _ (hn 4 (by omega)), World.cell?_setCell_other _ _ _ _ (hn 3 (by omega)), World.cell?_setCell_other _ _ _ _ (hn 2 (by omega)), World.cell?_setCell_other _ _ _ _ (hn 1 (by omega)), World.cell?_setCell_other _ _ _ _ (show (⟨q, p, none⟩ : Addr) ≠ ⟨q, o, none⟩ from hn 0 (by omega))]
theorem put5_below {B : Nat} {a : World} (h : Below B a w) (hq : B ≤ q) : Below B a (put5 w q p v0 v1 v2 v3 v4) :=
  ((((h.setCell (p := ⟨q, p, none⟩) hq _).setCell (p := ⟨q, p + 1, none⟩) hq _).setCell (p := ⟨q, p + 2, none⟩) hq _).setCell (p := ⟨q, p + 3, none⟩) hq _).setCell (p := ⟨q, p + 4, none⟩) hq _
theorem put5_blk {T : Nat} {cs : Array Value} (hB : Blk w q T cs) : ∃ cs', Blk (put5 w q p v0 v1 v2 v3 v4) q T cs' ∧ cs'.size = cs.size ∧ (p + 5 ≤ cs.size → cs'[p]? = some v0 ∧ cs'[p + 1]? = some v1 ∧ cs'[p + 2]? = some v2 ∧ cs'[p + 3]? = some v3 ∧ cs'[p + 4]? = some v4) := by
  refine ⟨((((cs.setIfInBounds p v0).setIfInBounds (p + 1) v1).setIfInBounds (p + 2) v2).setIfInBounds (p + 3) v3).setIfInBounds (p + 4) v4, ((((hB.set_ p v0).set_ (p + 1) v1).set_ (p + 2) v2).set_ (p + 3) v3).set_ (p + 4) v4, by simp, fun h => ?_⟩
  refine ⟨?_, ?_, ?_, ?_, ?_⟩ <;> simp [Array.getElem?_setIfInBounds] <;> omega
end
/-- One round of Copy's loop. -/
theorem CpF.step {S1 S0 : Nat → Prop} {base : Nat} {wr w5 : World} {qf i : Nat} {L : List Fn} (h : CpF S1 base wr qf L i) (hi : i < L.length) (hb : Below wr.heap.size wr w5) {Al As Ab : Option Addr} {ll cl ls cs' lb cb Bl Bs : Nat} (hll : ll = L[i].locals.length) (hls : ls = L[i].sites.length) (hlb : lb = L[i].body.len) (hBl : wr.heap.size ≤ Bl) (hBs : wr.heap.size ≤ Bs)
    (h1 : w5.ownsRow Bl 3 1 (.slice Al ll cl) ll (intV L[i].locals)) (h2 : w5.ownsRow Bs 3 1 (.slice As ls cs') ls (intV L[i].sites)) {B0 : Nat} (hw0 : wr.heap.size ≤ B0) (hS1 : ∀ k, S1 k → k ≠ qf) (hS2 : ∀ k, wr.heap.size ≤ k → S1 k) (hS3 : ∀ k, S0 k → S1 k) (h3 : CbV S0 B0 w5 Ab L[i].body) :
    CpF S1 base (put5 w5 qf (i * 5) (.int .i64 L[i].name) (.int .i64 L[i].params) (.slice Al ll cl) (.slice As ls cs') (.slice Ab lb cb)) qf L (i + 1) := by
  obtain ⟨csr, hR, hRs⟩ := h.row
  have hR5 := hR.old hb
  obtain ⟨cs2, hR', hsz, hat⟩ := put5_blk (p := i * 5) (v0 := .int .i64 L[i].name) (v1 := .int .i64 L[i].params) (v2 := .slice Al ll cl) (v3 := .slice As ls cs') (v4 := .slice Ab lb cb) hR5
  have hsame := @put5_same w5 qf (i * 5) (.int .i64 L[i].name) (.int .i64 L[i].params) (.slice Al ll cl) (.slice As ls cs') (.slice Ab lb cb)
  have hheap := @put5_heap w5 qf (i * 5) (.int .i64 L[i].name) (.int .i64 L[i].params) (.slice Al ll cl) (.slice As ls cs') (.slice Ab lb cb)
  generalize put5 w5 qf (i * 5) (.int .i64 L[i].name) (.int .i64 L[i].params) (.slice Al ll cl) (.slice As ls cs') (.slice Ab lb cb) = W' at *
  obtain ⟨g0, g1, g2, g3, g4⟩ := hat (by omega)
  have hkk : ∀ k, k ≠ qf → W'.heap[k]? = w5.heap[k]? := fun k hk => hheap hk
  have hne : ∀ {B e s n c : Nat} {A : Option Addr} {xs : List Value}, w5.ownsRow B e s (.slice A n c) n xs → e ≠ 40 → ∀ k, some k = (Value.slice A n c).ownBlock → k ≠ qf := fun ho he k hk e => by
    subst e
    exact own_ne ho hR5 he hk
  have hs : ∀ {n c B : Nat} {A : Option Addr} {xs : List Value}, w5.ownsRow B 3 1 (.slice A n c) n xs → wr.heap.size ≤ B → RdS S1 W' A n 1 xs := fun {n c B A xs} ho hB => by
    refine ⟨ho.1, fun hp => ?_⟩
    obtain ⟨q, cap, hv, hBq, _⟩ := own_formM ho hp
    have hq := hne ho (by decide) q (by rw [hv]; rfl)
    injection hv with hv1 hv2 hv3
    subst hv1 hv3
    exact ⟨q, 0, rfl, hS2 q (by omega), fun j u hj => (World.cell?_of_block (hkk q hq)).trans (own_cellsM ho j u hj)⟩
  have hS5 : ∀ k, (B0 ≤ k ∨ S0 k) → S1 k := fun k hk => by
    rcases hk with hk | hk
    · exact hS2 k (by omega)
    · exact hS3 k hk
  have hcold : ∀ j, j ≠ i → ∀ t, t < 5 → W'.cell? ⟨qf, j * 5 + t, none⟩ = wr.cell? ⟨qf, j * 5 + t, none⟩ := fun j hj t ht => (hsame (j * 5 + t) (fun s hs => by omega)).trans (World.cell?_of_block (hb.block qf hR.lt))
  refine ⟨⟨cs2, hR', by rw [hsz]; exact hRs⟩, h.qb, fun j hj => ?_, fun j hj => ?_⟩
  · by_cases hji : j = i
    · subst hji
      subst hll hls hlb
      refine ⟨[.int .i64 L[j].name, .int .i64 L[j].params, .slice Al L[j].locals.length cl, .slice As L[j].sites.length cs', .slice Ab L[j].body.len cb], ⟨Al, cl, As, cs', Ab, cb, rfl, hs h1 hBl, hs h2 hBs, h3.2.kept (S' := S1) (fun k hk _ => hkk k (hS1 k (hS5 k hk))) (fun k hk _ => hS5 k hk)⟩, fun t u ht => ?_⟩
      rw [hR'.cell]
      match t, ht with
      | 0, ht => simp at ht; subst ht; exact g0
      | 1, ht => simp at ht; subst ht; exact g1
      | 2, ht => simp at ht; subst ht; exact g2
      | 3, ht => simp at ht; subst ht; exact g3
      | 4, ht => simp at ht; subst ht; exact g4
      | t + 5, ht => simp at ht
    · obtain ⟨fs, hf, hc⟩ := h.fns j hj
      refine ⟨fs, hf.kept (fun k hk hlt => (hkk k (hS1 k hk)).trans (hb.block k hlt)) (fun _ h _ => h), fun t u ht => ?_⟩
      have hl := fnS_len hf
      have htl : t < 5 := by
        rcases Nat.lt_or_ge t fs.length with h | h
        · omega
        · rw [List.getElem?_eq_none h] at ht; cases ht
      exact (hcold j hji t htl).trans (hc t u ht)
  · by_cases hji : j = i
    · subst hji
      refine ⟨_, Al, ll, cl, Ab, lb, cb, by rw [hR'.cell]; exact g0, by rw [hR'.cell]; exact g2, by rw [hR'.cell]; exact g4, fun hp => ?_, fun hp => ?_⟩
      · obtain ⟨q, cap, hv, hbq, _⟩ := own_formM h1 hp
        have hq := hne h1 (by decide) q (by rw [hv]; rfl)
        obtain ⟨_, cur, hB⟩ := own_blk h1 q (by rw [hv]; rfl)
        injection hv with hv1 hv2 hv3
        subst hv1 hv3
        have hx : 0 < (intV L[j].locals).length := by rw [intV_len]; omega
        have hx' : 0 < L[j].locals.length := by omega
        refine ⟨q, L[j].locals[0], cur, rfl, ?_, (hkk q hq).trans hB, (World.cell?_of_block (hkk q hq)).trans (own_cellsM h1 0 _ (intV_get L[j].locals 0 hx'))⟩
        have := h.qb
        have := hR.lt
        omega
      · subst hlb
        obtain ⟨q, cs, hA, hbq, hB, hL⟩ := h3.1 hp
        have hq : q ≠ qf := fun e => by
          subst e
          exact absurd (hB.uniq hR5) (by decide)
        have hbase : base ≤ B0 := by have := h.qb; have := hR.lt; omega
        refine ⟨q, cs, hA, by omega, (hkk q hq).trans hB, fun k hk => ?_⟩
        have h6 := (hL k hk).far hB hR5 (by decide) (by decide) (fun k _ hk => hkk k hk)
        exact h6.base hbase
    · exact ((h.muts j (by omega)).old hb).far hR5 (fun k _ hk => hkk k hk) (fun t ht => hsame (j * 5 + t) (fun s hs => by omega))
theorem CpF.first {S1 : Nat → Prop} {base : Nat} {wz : World} {n c : Nat} {A : Option Addr} {cs : List Value} {L : List Fn} {S : Nat → Prop} (hn : n = L.length) (ho : wz.ownsRow base 40 5 (.slice A n c) n cs) (hf : FnCells S wz cs L) (hS : ∀ k, S k → S1 k) (hp : 0 < n) : ∃ qf, A = some ⟨qf, 0, none⟩ ∧ CpF S1 base wz qf L 0 := by
  obtain ⟨q, cap, hv, hb, _⟩ := own_formM ho hp
  injection hv with hv1 hv2 hv3
  subst hv1 hv3
  rcases ho.2 with ⟨h0, _⟩ | ⟨q', cap', cur, hv, h2, hk, h3, h4, h5, h6⟩
  · cases h0
  · injection hv with e1 e2 e3
    injection e1 with e1
    injection e1 with e1
    subst e1
    refine ⟨q, rfl, ⟨cur, hk, ?_⟩, hb, fun j hj => ?_, fun j hj => by omega⟩
    · have := congrArg List.length h6
      rw [hf.1, List.length_take] at this
      simp only [Array.length_toList] at this
      omega
    · obtain ⟨fs, hfs, hc⟩ := hf.2.2 j hj
      refine ⟨fs, hfs.kept (fun _ _ _ => rfl) (fun k hk _ => hS k hk), fun t u ht => ?_⟩
      have := own_cellsM ho _ _ (hc t u ht)
      rwa [Nat.zero_add] at this
/-- A copy's own lists, in a box: nothing copied of the functions yet. -/
def CpCut (B0 : Nat) (w1 wz : World) (q3 ls lg lf le : Nat) (M : Md) : Prop := ∃ A1 c1 A2 c2 A3 c3 A4 c4, Below w1.heap.size w1 wz ∧ w1.heap.size ≤ q3 ∧ Blk wz q3 30 #[.slice A1 ls c1, .slice A2 lg c2, .slice A3 lf c3, .slice A4 le c4] ∧ wz.ownsRow w1.heap.size 9 1 (.slice A1 ls c1) ls (strV M.strs) ∧ wz.ownsRow w1.heap.size 3 1 (.slice A2 lg c2) lg (intV M.globs) ∧ (∃ cs, wz.ownsRow w1.heap.size 40 5 (.slice A3 lf c3) lf cs ∧ FnCells (fun k => k < B0) wz cs M.funcs) ∧ wz.ownsRow w1.heap.size 3 1 (.slice A4 le c4) le (intV M.ents)
theorem cpcut_set {B0 : Nat} {w1 w5 : World} {q3 ls lg lf le c1 c2 c3 c4 : Nat} {A1 A2 A3 A4 : Option Addr} {M : Md} {cs : List Value} {zs : Array Value} (hB0 : B0 ≤ w1.heap.size) (hb : Below w1.heap.size w1 w5) (hq : w1.heap.size ≤ q3) (hB : Blk w5 q3 30 zs) (hz : zs.size = 4) (h1 : w5.ownsRow w1.heap.size 9 1 (.slice A1 ls c1) ls (strV M.strs)) (h2 : w5.ownsRow w1.heap.size 3 1 (.slice A2 lg c2) lg (intV M.globs)) (h3 : w5.ownsRow w1.heap.size 40 5 (.slice A3 lf c3) lf cs) (hf : FnCells (fun k => k < B0) w5 cs M.funcs) (h4 : w5.ownsRow w1.heap.size 3 1 (.slice A4 le c4) le (intV M.ents)) :
    CpCut B0 w1 ((((w5.setCell ⟨q3, 0, none⟩ (.slice A1 ls c1)).setCell ⟨q3, 1, none⟩ (.slice A2 lg c2)).setCell ⟨q3, 2, none⟩ (.slice A3 lf c3)).setCell ⟨q3, 3, none⟩ (.slice A4 le c4)) q3 ls lg lf le M := by
  have hk : ∀ k, k ≠ q3 → ((((w5.setCell ⟨q3, 0, none⟩ (.slice A1 ls c1)).setCell ⟨q3, 1, none⟩ (.slice A2 lg c2)).setCell ⟨q3, 2, none⟩ (.slice A3 lf c3)).setCell ⟨q3, 3, none⟩ (.slice A4 le c4)).heap[k]? = w5.heap[k]? := fun k hk => set4_far _ _ _ _ hk
  have ho : ∀ {B e s n c : Nat} {A : Option Addr} {xs : List Value}, w5.ownsRow B e s (.slice A n c) n xs → e ≠ 30 → ((((w5.setCell ⟨q3, 0, none⟩ (.slice A1 ls c1)).setCell ⟨q3, 1, none⟩ (.slice A2 lg c2)).setCell ⟨q3, 2, none⟩ (.slice A3 lf c3)).setCell ⟨q3, 3, none⟩ (.slice A4 le c4)).ownsRow B e s (.slice A n c) n xs := fun h he => own_blocks h (fun k hk' => hk k (fun e => by subst e; exact own_ne h hB he hk'))
  refine ⟨A1, c1, A2, c2, A3, c3, A4, c4, set4 hb hq _ _ _ _, hq, ?_, ho h1 (by decide), ho h2 (by decide), ⟨cs, ho h3 (by decide), hf.kept (fun k hk' _ => hk k (by omega)) (fun _ h _ => h)⟩, ho h4 (by decide)⟩
  have := (((hB.set_ 0 (.slice A1 ls c1)).set_ 1 (.slice A2 lg c2)).set_ 2 (.slice A3 lf c3)).set_ 3 (.slice A4 le c4)
  obtain ⟨l⟩ := zs
  match l, hz with
  | [a, b, c, d], _ => exact this
theorem cpcut_new {B0 : Nat} {w1 w5 : World} {ls lg lf le c1 c2 c3 c4 : Nat} {A1 A2 A3 A4 : Option Addr} {M : Md} {cs : List Value} (hb : Below w1.heap.size w1 w5) (h1 : w5.ownsRow w1.heap.size 9 1 (.slice A1 ls c1) ls (strV M.strs)) (h2 : w5.ownsRow w1.heap.size 3 1 (.slice A2 lg c2) lg (intV M.globs)) (h3 : w5.ownsRow w1.heap.size 40 5 (.slice A3 lf c3) lf cs) (hf : FnCells (fun k => k < B0) w5 cs M.funcs) (h4 : w5.ownsRow w1.heap.size 3 1 (.slice A4 le c4) le (intV M.ents)) :
    CpCut B0 w1 (w5.alloc (.cells #[.slice A1 ls c1, .slice A2 lg c2, .slice A3 lf c3, .slice A4 le c4] 30)) w5.heap.size ls lg lf le M := by
  have hA : Below w5.heap.size w5 (w5.alloc (.cells #[.slice A1 ls c1, .slice A2 lg c2, .slice A3 lf c3, .slice A4 le c4] 30)) := (Below.refl _ _).alloc (Nat.le_refl _) _
  exact ⟨A1, c1, A2, c2, A3, c3, A4, c4, hb.trans (hA.mono hb.size), hb.size, Blk.new w5 30 _, own_old h1 hA, own_old h2 hA, ⟨cs, own_old h3 hA, hf.kept (Below.keptS hA) (fun _ h _ => h)⟩, own_old h4 hA⟩
end Go.Proofs.Ytpdebnecfknohaa
