
/-
  A row that a box holds, one element more: what is left as it was.
-/
import Derived.Test.YtpdebnecfknohaaCn
namespace Go.Proofs.Ytpdebnecfknohaa
open Go.RowKit
set_option linter.unusedVariables false
set_option maxRecDepth 20000

/-- What is left behind 'x.f = append(x.f, u)': x's box at q, its cell j. -/
structure StepOut (wr wf : World) (B q tq j e : Nat) (cs : Array Value) (old new : Value) (n : Nat) (xs : List Value) : Prop where
  box : Blk wf q tq (cs.setIfInBounds j new)
  own : wf.ownsRow B e 1 new n xs
  kept : ∀ k, k < wr.heap.size → k ≠ q → some k ≠ old.ownBlock → wf.heap[k]? = wr.heap[k]?
  fresh : ∀ k, some k = new.ownBlock → some k = old.ownBlock ∨ wr.heap.size ≤ k
  size : wr.heap.size ≤ wf.heap.size
  bel : ∀ (B' : Nat) (a : World), Below B' a wr → B' ≤ B → B' ≤ q → B' ≤ wr.heap.size → Below B' a wf
theorem StepOut.blk {wr wf : World} {B q tq j e : Nat} {cs : Array Value} {old new : Value} {n : Nat} {xs : List Value} (h : StepOut wr wf B q tq j e cs old new n xs) {m : Nat} {ys : List Value} (ho : wr.ownsRow B e 1 old m ys) {k t : Nat} {ds : Array Value} (hb : Blk wr k t ds) (hk : k ≠ q) (ht : t ≠ e) : Blk wf k t ds :=
  (h.kept k hb.lt hk (own_ne ho hb (fun x => ht x.symm))).trans hb
theorem StepOut.row {wr wf : World} {B q tq j e : Nat} {cs : Array Value} {old new : Value} {n : Nat} {xs : List Value} (h : StepOut wr wf B q tq j e cs old new n xs) {m : Nat} {ys : List Value} (ho : wr.ownsRow B e 1 old m ys) (hq : Blk wr q tq cs) {B2 e2 s2 n2 : Nat} {v2 : Value} {zs : List Value} (h2 : wr.ownsRow B2 e2 s2 v2 n2 zs) (he : e2 ≠ e) (htq : e2 ≠ tq) : wf.ownsRow B2 e2 s2 v2 n2 zs :=
  own_blocks h2 (fun k hk => by
    rcases h2.2 with ⟨rfl, _⟩ | ⟨g, cap, cur, rfl, _, hh, _⟩
    · simp [Value.ownBlock] at hk
    · have e0 : k = g := by simpa [Value.ownBlock] using hk
      subst e0
      exact h.kept k (heap_ltM hh) (fun e0 => by subst e0; exact htq (hq.uniq hh).symm) (own_ne ho (show Blk wr k e2 cur from hh) (fun x => he x.symm)))

theorem row_step (e t bytes : Nat) (z : Value) (ht : Try.prog.underlying t = some (.slice e)) (hinfo : (Try.prog.info? e).map (fun i => (i.zero, i.size, i.bytes)) = some (some z, 1, bytes)) (hz : z.cells.size = 1) (hby : bytes ≤ 16)
    {wr w3 : World} {B q tq j n cS : Nat} {As : Option Addr} {cs : Array Value} {xs : List Value} (u : Value) (hu : u.oneCell' = true) (hb : Below wr.heap.size wr w3) (hbox : Blk wr q tq cs) (htq : tq ≠ e) (hj : cs[j]? = some (.slice As n cS)) (hown : wr.ownsRow B e 1 (.slice As n cS) n xs) (hl : n ≤ 100000) (hB : B ≤ wr.heap.size) :
    ∃ q5 c5 w5, (Builtin.append_ #[t, t] t #[.slice As n cS, .slice (some ⟨w3.heap.size, 0, none⟩) 1 1]).run Try.prog (w3.alloc (.cells #[u] e)) = .ok (.slice (some ⟨q5, 0, none⟩) (n + 1) c5) w5 ∧ w3.cell? ⟨q, j, none⟩ = some (.slice As n cS) ∧ q < w3.heap.size ∧ w5.cell? ⟨q, j, none⟩ = some (.slice As n cS) ∧ w5.frozen? ⟨q, j, none⟩ = false ∧
      Hid (StepOut wr (w5.setCell ⟨q, j, none⟩ (.slice (some ⟨q5, 0, none⟩) (n + 1) c5)) B q tq j e cs (.slice As n cS) (.slice (some ⟨q5, 0, none⟩) (n + 1) c5) (n + 1) (xs ++ [u])) := by
  obtain ⟨i0, hi0, hz0, hz1, hz2⟩ := info_parts hinfo
  have hown3 := own_old hown hb
  have hc : ∀ k v, ([u] : List Value)[k]? = some v → (w3.alloc (.cells #[u] e)).cell? ((⟨w3.heap.size, 0, none⟩ : Addr).add k) = some v := by
    intro k v hk
    rw [Go.WideShapes.add_plain, cell_of_row _ w3.heap.size _ _ e (0, 0) (heap_alloc_new w3 _), Nat.zero_add]
    simpa using hk
  obtain ⟨v5, w5, hr5, hO5, hg5, _, hat⟩ := run_append_own_at (P := Try.prog) (w3.alloc (.cells #[u] e)) B t t e i0 z 1 bytes ht hi0 hz0 hz1 hz2 hz (by decide) (.slice As n cS) n xs (hown3.alloc _) ⟨w3.heap.size, 0, none⟩ 1 1 [u] rfl hc (by intro v hv; simp at hv; subst hv; exact hu) (by unfold maxLen; omega) (Nat.le_trans (Nat.mul_le_mul (show n + 1 ≤ 100001 by omega) hby) (by decide)) (by have := hb.size; simp; omega)
  obtain ⟨q5, c5, rfl⟩ : ∃ q5 c5, v5 = .slice (some ⟨q5, 0, none⟩) (n + 1) c5 := by
    rcases hO5.2 with ⟨_, h1⟩ | ⟨k, cap, cur, hv, _⟩
    · omega
    · exact ⟨k, cap, hv⟩
  have hbox3 := hbox.old hb
  have hbox5 : Blk w5 q tq cs := (hbox3.alloc _).grown hg5 (own_ne hown3 hbox3 (fun x => htq x.symm))
  have hsz := hb.size
  have hsz5 := hg5.size
  refine ⟨q5, c5, w5, hr5, (hbox3.cell j).trans hj, hbox3.lt, (hbox5.cell j).trans hj, hbox5.frozen j, hbox5.set_ j _, ?_, fun k hk hkq hko => ?_, fun k hk => ?_, ?_, fun B' a hBa hB1 hB2 hB3 => ?_⟩
  · refine own_blocks hO5 (fun k hk => Below.heap_setCell w5 ⟨q, j, none⟩ _ k (fun e0 => ?_))
    rcases hO5.2 with ⟨h0, _⟩ | ⟨g, cap, cur, hv, _, hh, _⟩
    · cases h0
    · have e1 : k = g := by rw [hv] at hk; simpa [Value.ownBlock] using hk
      have e2 : k = q := e0
      subst e1
      subst e2
      exact htq (hbox5.uniq hh)
  · rw [Below.heap_setCell w5 ⟨q, j, none⟩ _ k hkq, hg5.block k (by simp; omega) hko, heap_alloc_old _ _ (by omega), hb.block k hk]
  · rcases hat with h | h
    · exact .inl (by rw [← h]; exact hk)
    · refine .inr ?_
      rw [h] at hk
      injection hk with hk
      simp at hk
      omega
  · simp [World.setCell] at hsz5 ⊢; omega
  · exact Below.set1 (((hBa.trans (hb.mono hB3)).alloc (by omega) _).grown hg5 (by simp; omega) (fun k hk => by have := (hown3.lt k hk).1; omega)) hB2 _
end Go.Proofs.Ytpdebnecfknohaa
