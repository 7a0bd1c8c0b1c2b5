
/-
  What the second loop of the reference's Canon keeps.
-/
import Derived.Test.YtpdebnecfknohaaCs
namespace Go.Proofs.Ytpdebnecfknohaa
open Go.RowKit
set_option linter.unusedVariables false
set_option maxRecDepth 20000

theorem Blk.uniq {w : World} {g t t' : Nat} {cs cs' : Array Value} (h : Blk w g t cs) (h' : w.heap[g]? = some (.cells cs' t' (0, 0))) : t = t' := by
  unfold Blk at h
  rw [h] at h'
  injection h' with h'
  injection h'
theorem info40 : (Try.prog.info? 40).map (fun i => (i.zero, i.size, i.bytes)) = some (some (.agg #[.int .i64 0, .int .i64 0, .slice none 0 0, .slice none 0 0, .slice none 0 0]), 5, 88) := by kernel_rfl
/-- A function more. -/
theorem pushF (base : Nat) (v : Value) (n : Nat) (xs : List Value) (a b : Int) (A1 A2 A3 : Option Addr) (n1 n2 n3 c1 c2 c3 : Nat) (w : World) (h : w.ownsRow base 40 5 v n xs) (hl : n ≤ 1000000) (hb : base ≤ w.heap.size) :
    ∃ q c w', (Builtin.append_ #[28, 28] 28 #[v, .slice (some ⟨w.heap.size, 0, none⟩) 1 1]).run Try.prog (w.alloc (.cells #[.int .i64 a, .int .i64 b, .slice A1 n1 c1, .slice A2 n2 c2, .slice A3 n3 c3] 40)) = .ok (.slice (some ⟨q, 0, none⟩) (n + 1) c) w' ∧ w'.ownsRow base 40 5 (.slice (some ⟨q, 0, none⟩) (n + 1) c) (n + 1) (xs ++ [.int .i64 a, .int .i64 b, .slice A1 n1 c1, .slice A2 n2 c2, .slice A3 n3 c3]) ∧ (w.alloc (.cells #[.int .i64 a, .int .i64 b, .slice A1 n1 c1, .slice A2 n2 c2, .slice A3 n3 c3] 40)).grownBy w' v.ownBlock ∧ (some q = v.ownBlock ∨ q = w.heap.size + 1) := by
  obtain ⟨i0, hi0, hz0, hz1, hz2⟩ := info_parts info40
  have hc : ∀ j u, ([.int .i64 a, .int .i64 b, .slice A1 n1 c1, .slice A2 n2 c2, .slice A3 n3 c3] : List Value)[j]? = some u → (w.alloc (.cells #[.int .i64 a, .int .i64 b, .slice A1 n1 c1, .slice A2 n2 c2, .slice A3 n3 c3] 40)).cell? ((⟨w.heap.size, 0, none⟩ : Addr).add j) = some u := by
    intro j u hj
    rw [Go.WideShapes.add_plain, cell_of_row _ w.heap.size _ _ 40 (0, 0) (heap_alloc_new w _), Nat.zero_add]
    simpa using hj
  obtain ⟨v5, w5, hr5, hO5, hg5, _, hat⟩ := run_append_own_at (P := Try.prog) (w.alloc (.cells #[.int .i64 a, .int .i64 b, .slice A1 n1 c1, .slice A2 n2 c2, .slice A3 n3 c3] 40)) base 28 28 40 i0 (.agg #[.int .i64 0, .int .i64 0, .slice none 0 0, .slice none 0 0, .slice none 0 0]) 5 88 Try.underlying28 hi0 hz0 hz1 hz2 rfl (by decide) v n _ (h.alloc _) ⟨w.heap.size, 0, none⟩ 1 1 [.int .i64 a, .int .i64 b, .slice A1 n1 c1, .slice A2 n2 c2, .slice A3 n3 c3] rfl hc (by intro u hu; simp at hu; rcases hu with rfl | rfl | rfl | rfl | rfl <;> rfl) (by unfold maxLen; omega) (by omega) (by simp; omega)
  obtain ⟨q5, c5, rfl⟩ : ∃ q5 c5, v5 = .slice (some ⟨q5, 0, none⟩) (n + 1) c5 := by
    rcases hO5.2 with ⟨_, h1⟩ | ⟨k, cap, cur, hv, _⟩
    · omega
    · exact ⟨k, cap, hv⟩
  refine ⟨q5, c5, w5, hr5, hO5, hg5, ?_⟩
  rcases hat with h | h
  · exact .inl h
  · refine .inr ?_
    have : some q5 = some (w.heap.size + 1) := by rw [show (some q5 : Option Nat) = (Value.slice (some ⟨q5, 0, none⟩) (n + 1) c5).ownBlock from rfl, h]; simp
    injection this

/-- Functions in a row of the call's own, whose other blocks are not that row's. -/
structure FnRow (w : World) (base : Nat) (X : Nat → Prop) (v : Value) (L : List Fn) : Prop where
  own : ∃ css : List (List Value), w.ownsRow base 40 5 v L.length css.flatten ∧ css.length = L.length ∧ ∀ i (h : i < L.length), ∃ cs, css[i]? = some cs ∧ FnS (fun k => some k ≠ v.ownBlock ∧ X k) w cs L[i]
theorem FnRow.nil (w : World) (base : Nat) (X : Nat → Prop) : FnRow w base X (.slice none 0 0) [] := ⟨[], ⟨rfl, .inl ⟨rfl, rfl⟩⟩, rfl, fun i h => by simp at h⟩
theorem FnRow.blk {w : World} {base : Nat} {X : Nat → Prop} {v : Value} {L : List Fn} (h : FnRow w base X v L) : ∀ k, some k = v.ownBlock → base ≤ k ∧ k < w.heap.size ∧ ∃ cur, Blk w k 40 cur := fun k hk => by
  obtain ⟨css, h1, _, _⟩ := h.own
  rcases h1.2 with ⟨rfl, _⟩ | ⟨q, cap, cur, rfl, hq, hh, _⟩
  · simp [Value.ownBlock] at hk
  · have : k = q := by simpa [Value.ownBlock] using hk
    subst this
    exact ⟨hq, heap_ltM hh, cur, hh⟩
/-- Blocks that this row and its functions lie in are as they were. -/
theorem FnRow.kept {w w' : World} {base : Nat} {X X' : Nat → Prop} {v : Value} {L : List Fn} (h : FnRow w base X v L) (hv : ∀ k, some k = v.ownBlock → w'.heap[k]? = w.heap[k]?) (hk : ∀ k, X k → k < w.heap.size → w'.heap[k]? = w.heap[k]?) (hX : ∀ k, X k → k < w.heap.size → X' k) : FnRow w' base X' v L := by
  obtain ⟨css, h1, h2, h3⟩ := h.own
  refine ⟨css, own_blocks h1 hv, h2, fun i hi => ?_⟩
  obtain ⟨cs, e, hf⟩ := h3 i hi
  exact ⟨cs, e, hf.kept (fun k hk' hlt => hk k hk'.2 hlt) (fun k hk' hlt => ⟨hk'.1, hX k hk'.2 hlt⟩)⟩
theorem FnRow.old {w w' : World} {base : Nat} {X : Nat → Prop} {v : Value} {L : List Fn} (h : FnRow w base X v L) (hb : Below w.heap.size w w') : FnRow w' base X v L :=
  h.kept (fun k hk => hb.block k (h.blk k hk).2.1) (fun k _ hlt => hb.block k hlt) (fun _ h _ => h)

/-- One function more, in a row; w4 the world ahead of it. -/
theorem FnRow.push {w4 : World} {base : Nat} {X : Nat → Prop} {v : Value} {L : List Fn} (h : FnRow w4 base X v L) (hl : L.length ≤ 1000000) (hb : base ≤ w4.heap.size) (f : Fn) (A1 A2 A3 : Option Addr) (c1 c2 c3 : Nat)
    (hf : FnS (fun k => some k ≠ v.ownBlock ∧ X k) w4 [.int .i64 f.name, .int .i64 f.params, .slice A1 f.locals.length c1, .slice A2 f.sites.length c2, .slice A3 f.body.len c3] f) :
    ∃ q c w', (Builtin.append_ #[28, 28] 28 #[v, .slice (some ⟨w4.heap.size, 0, none⟩) 1 1]).run Try.prog (w4.alloc (.cells #[.int .i64 f.name, .int .i64 f.params, .slice A1 f.locals.length c1, .slice A2 f.sites.length c2, .slice A3 f.body.len c3] 40)) = .ok (.slice (some ⟨q, 0, none⟩) (L.length + 1) c) w' ∧ (some q = v.ownBlock ∨ q = w4.heap.size + 1) ∧ (w4.alloc (.cells #[.int .i64 f.name, .int .i64 f.params, .slice A1 f.locals.length c1, .slice A2 f.sites.length c2, .slice A3 f.body.len c3] 40)).grownBy w' v.ownBlock ∧ FnRow w' base X (.slice (some ⟨q, 0, none⟩) (L.length + 1) c) (L ++ [f]) ∧ ((∀ k, some k = v.ownBlock → ∀ j, j < L.length * 5 → w'.cell? ⟨q, j, none⟩ = w4.cell? ⟨k, j, none⟩) ∧ w'.cell? ⟨q, L.length * 5 + 4, none⟩ = some (.slice A3 f.body.len c3)) := by
  obtain ⟨css, h1, h2, h3⟩ := h.own
  obtain ⟨q, c, w', hr, hO, hg, hat⟩ := pushF base v L.length css.flatten f.name f.params A1 A2 A3 f.locals.length f.sites.length f.body.len c1 c2 c3 w4 h1 hl hb
  refine ⟨q, c, w', hr, hat, hg, ⟨css ++ [[.int .i64 f.name, .int .i64 f.params, .slice A1 f.locals.length c1, .slice A2 f.sites.length c2, .slice A3 f.body.len c3]], ?_, by simp [h2], fun i hi => ?_⟩, fun k hk j hj => ?_, ?_⟩
  · rw [show (L ++ [f]).length = L.length + 1 from by simp, List.flatten_append]
    simpa using hO
  · have hkp : ∀ k, (some k ≠ v.ownBlock ∧ X k) → k < w4.heap.size → w'.heap[k]? = w4.heap[k]? := fun k hk hlt => by
      rw [hg.block k (by simp; omega) hk.1, heap_alloc_old _ _ hlt]
    have hS : ∀ k, (some k ≠ v.ownBlock ∧ X k) → k < w4.heap.size → (some k ≠ (Value.slice (some ⟨q, 0, none⟩) (L.length + 1) c).ownBlock ∧ X k) := fun k hkx hlt => by
      refine ⟨?_, hkx.2⟩
      have hk := hkx.1
      intro e
      have e : k = q := by simpa [Value.ownBlock] using e
      subst e
      rcases hat with h | h
      · exact hk h
      · omega
    by_cases hlt : i < L.length
    · obtain ⟨cs, e, hfi⟩ := h3 i hlt
      refine ⟨cs, by rw [List.getElem?_append_left (by omega)]; exact e, ?_⟩
      rw [List.getElem_append_left hlt]
      exact hfi.kept hkp hS
    · obtain rfl : i = L.length := by simp at hi; omega
      refine ⟨[.int .i64 f.name, .int .i64 f.params, .slice A1 f.locals.length c1, .slice A2 f.sites.length c2, .slice A3 f.body.len c3], by rw [List.getElem?_append_right (by omega), h2, Nat.sub_self]; rfl, ?_⟩
      rw [List.getElem_append_right (Nat.le_refl _)]
      simp only [Nat.sub_self, List.getElem_cons_zero]
      exact hf.kept hkp hS
  · rw [hO.cellAt j (by omega), List.getElem?_append_left (by rw [h1.1]; exact hj)]
    rcases h1.2 with ⟨e, _⟩ | ⟨g, cap, cur, e, _⟩
    · rw [e] at hk; simp [Value.ownBlock] at hk
    · rw [e] at h1 hk
      have e1 : k = g := by simpa [Value.ownBlock] using hk
      subst e1
      exact (h1.cellAt j hj).symm
  · rw [hO.cellAt _ (by omega), List.getElem?_append_right (by rw [h1.1]; omega), h1.1]
    simp

/-- Canon's one function more. -/
theorem can_push {Sb : Nat → Prop} {w wo wb w4 : World} {v : Value} {L : List Fn} {X : Nat → Prop} (nv fpr : Int) (lo si : List Int) (bo : Bd) (A4 A5 Ab : Option Addr) (c4 c5 cb nlo nsi nb j : Nat) (hlo : nlo = lo.length) (hsi : nsi = si.length) (hnb : nb = bo.len) (hj : L.length = j)
    (hw : w.heap.size ≤ wo.heap.size) (hwo : wo.heap.size ≤ wb.heap.size) (hw4 : Below w.heap.size w w4) (hb4 : Below wb.heap.size wb w4) (hR : FnRow wb wo.heap.size X v L) (hl : j ≤ 1000000)
    (h4 : w4.ownsRow wb.heap.size 3 1 (.slice A4 nlo c4) nlo (intV lo)) (h5 : w4.ownsRow wb.heap.size 3 1 (.slice A5 nsi c5) nsi (intV si)) (hb : BodyS Sb w Ab bo) (hX1 : ∀ k, wb.heap.size ≤ k → X k) (hX2 : ∀ k, Sb k → k < w.heap.size → X k) :
    ∃ q c w5, (Builtin.append_ #[28, 28] 28 #[v, .slice (some ⟨w4.heap.size, 0, none⟩) 1 1]).run Try.prog (w4.alloc (.cells #[.int .i64 nv, .int .i64 fpr, .slice A4 nlo c4, .slice A5 nsi c5, .slice Ab nb cb] 40)) = .ok (.slice (some ⟨q, 0, none⟩) (j + 1) c) w5 ∧ (∀ k, some k ≠ v.ownBlock → k < w4.heap.size → w5.heap[k]? = w4.heap[k]?) ∧ wo.heap.size ≤ q ∧ Below wo.heap.size w4 w5 ∧ FnRow w5 wo.heap.size X (.slice (some ⟨q, 0, none⟩) (j + 1) c) (L ++ [⟨nv, fpr, lo, si, bo⟩]) := by
  subst hlo; subst hsi; subst hnb; subst hj
  have hz := hb4.size
  have hfS : FnS (fun k => some k ≠ v.ownBlock ∧ X k) w4 [.int .i64 nv, .int .i64 fpr, .slice A4 lo.length c4, .slice A5 si.length c5, .slice Ab bo.len cb] ⟨nv, fpr, lo, si, bo⟩ := by
    have hup : ∀ k, wb.heap.size ≤ k → some k ≠ v.ownBlock ∧ X k := fun k hk => ⟨fun e => by have := (hR.blk k e).2.1; omega, hX1 k hk⟩
    refine ⟨A4, c4, A5, c5, Ab, cb, rfl, (RdS.own h4).below hup, (RdS.own h5).below hup, hb.kept (fun k _ hk => hw4.block k hk) (fun k hSk hk => ⟨fun e => by have := (hR.blk k e).1; omega, hX2 k hSk hk⟩)⟩
  obtain ⟨q, c, w5, hr, hat, hg, hF, _⟩ := FnRow.push (hR.old hb4) hl (by omega) ⟨nv, fpr, lo, si, bo⟩ A4 A5 Ab c4 c5 cb hfS
  refine ⟨q, c, w5, hr, fun k hk hlt => by rw [hg.block k (by simp; omega) hk, heap_alloc_old _ _ hlt], ?_, ?_, hF⟩
  · rcases hat with h | h
    · exact (hR.blk q h).1
    · omega
  · exact ((Below.refl _ w4).alloc (by omega) _).grown hg (by simp; omega) (fun k hk => (hR.blk k hk.symm).1)
end Go.Proofs.Ytpdebnecfknohaa
