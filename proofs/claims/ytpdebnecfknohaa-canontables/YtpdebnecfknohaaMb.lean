
/-
  A statement more, by a row that is made longer first.
-/
import Derived.Test.YtpdebnecfknohaaMa
namespace Go.Proofs.Ytpdebnecfknohaa
open Go.RowKit
set_option linter.unusedVariables false
set_option maxRecDepth 20000

theorem own_set7 {w : World} {base e q n c p : Nat} {xs zs : List Value} (hz : zs.length = 7) (hp : xs.length = p) (h : w.ownsRow base e 7 (.slice (some ⟨q, 0, none⟩) n c) n (xs ++ zs)) (v0 v1 v2 v3 v4 v5 v6 : Value) :
    (((((((w.setCell ⟨q, p, none⟩ v0).setCell ⟨q, p + 1, none⟩ v1).setCell ⟨q, p + 2, none⟩ v2).setCell ⟨q, p + 3, none⟩ v3).setCell ⟨q, p + 4, none⟩ v4).setCell ⟨q, p + 5, none⟩ v5).setCell ⟨q, p + 6, none⟩ v6).ownsRow base e 7 (.slice (some ⟨q, 0, none⟩) n c) n (xs ++ [v0, v1, v2, v3, v4, v5, v6]) := by
  have := ((((((((h.stored p v0).1).stored (p + 1) v1).1.stored (p + 2) v2).1.stored (p + 3) v3).1.stored (p + 4) v4).1.stored (p + 5) v5).1.stored (p + 6) v6).1
  have e : (((((((xs ++ zs).set p v0).set (p + 1) v1).set (p + 2) v2).set (p + 3) v3).set (p + 4) v4).set (p + 5) v5).set (p + 6) v6 = xs ++ [v0, v1, v2, v3, v4, v5, v6] := by
    subst hp
    match zs, hz with
    | [z0, z1, z2, z3, z4, z5, z6], _ => simp
  rwa [e] at this
theorem far7 {w : World} {q p k : Nat} (hk : k ≠ q) (v0 v1 v2 v3 v4 v5 v6 : Value) : (((((((w.setCell ⟨q, p, none⟩ v0).setCell ⟨q, p + 1, none⟩ v1).setCell ⟨q, p + 2, none⟩ v2).setCell ⟨q, p + 3, none⟩ v3).setCell ⟨q, p + 4, none⟩ v4).setCell ⟨q, p + 5, none⟩ v5).setCell ⟨q, p + 6, none⟩ v6).heap[k]? = w.heap[k]? := by
  rw [Below.heap_setCell _ _ _ _ hk, Below.heap_setCell _ _ _ _ hk, Below.heap_setCell _ _ _ _ hk, Below.heap_setCell _ _ _ _ hk, Below.heap_setCell _ _ _ _ hk, Below.heap_setCell _ _ _ _ hk, Below.heap_setCell _ _ _ _ hk]
section
variable {w W1 wr : World} {g n : Nat} {Vs : List Value} {Ts : List (List St7)}
/-- Blocks more. -/
theorem MkA.more (h : MkA w W1 wr g n Vs Ts) {wq : World} (hb : Below wr.heap.size wr wq) : MkA w W1 wq g n Vs Ts := by
  have hs := h.size
  have hz := hb.size
  have hgi := h.gin
  refine ⟨h.bel.trans (hb.mono h.bel.size), by omega, fun k hk hne => (hb.block k (by omega)).trans (h.keep k hk hne), hgi, ?_, h.lens, fun i v T hv hT => ?_, h.apart⟩
  · obtain ⟨cur0, cur, b0, b1, hc⟩ := h.row
    exact ⟨cur0, cur, b0, b1.old hb, hc⟩
  · exact (h.bodies i v T hv hT).kept (fun k hk => hb.block k (h.blk hv k hk).2) (fun k _ hlt => hb.block k hlt) (fun _ h _ => h)
/-- A body's slice. -/
theorem MkA.slice (h : MkA w W1 wr g n Vs Ts) {j : Nat} {v : Value} {T : List St7} (hv : Vs[j]? = some v) (hT : Ts[j]? = some T) : ∃ Ab cb, v = .slice Ab T.length cb := by
  obtain ⟨css, h1, _, _⟩ := (h.bodies j v T hv hT).own
  rcases h1.2 with ⟨e, h0⟩ | ⟨q, cap, cur, e, _⟩
  · exact ⟨none, 0, by rw [e, h0]⟩
  · exact ⟨_, _, e⟩
theorem MkA.push40 (h : MkA w W1 wr g n Vs Ts) {j o nb p : Nat} (hj : j < n) (ho : o = j * 5 + 4) {v : Value} {T : List St7} (hv : Vs[j]? = some v) (hT : Ts[j]? = some T) (hnb : T.length = nb) (hp : p = nb * 7) (hl : nb ≤ 1000) (s : St7) (Aa A : Option Addr) (ca c na nS : Nat) (hna : na = s.xs.length) (hnS : nS = s.sub.len) {wA : World} (hbA : Below wr.heap.size wr wA) (hA : ArgsS (fun k => wr.heap.size ≤ k) wA (.slice Aa na ca) s.xs) (hB : BodyS (fun k => wr.heap.size ≤ k) wA A s.sub) (z : Nat) (hz : Blk wA z 50 #[.int .u8 0, .int .u8 0, .int .i64 0, .int .u8 0, .int .i64 0, .slice none 0 0, .slice none 0 0]) :
    ∃ q5 c5 w5, (Builtin.append_ #[38, 38] 38 #[v, .slice (some ⟨z, 0, none⟩) 1 1]).run Try.prog wA = .ok (.slice (some ⟨q5, 0, none⟩) (nb + 1) c5) w5 ∧ w5.cell? ⟨g, o, none⟩ = some v ∧ w5.frozen? ⟨g, o, none⟩ = false ∧ nb + 1 ≤ c5 ∧ (∀ q, q < W1.heap.size → q ≠ g → w5.heap[q]? = W1.heap[q]?) ∧
      (∀ wz, wz = w5.setCell ⟨g, o, none⟩ (.slice (some ⟨q5, 0, none⟩) (nb + 1) c5) → q5 < wz.heap.size ∧ (wz.cell? ⟨q5, p, none⟩ = some (.int .u8 0) ∧ wz.cell? ⟨q5, p + 1, none⟩ = some (.int .u8 0) ∧ wz.cell? ⟨q5, p + 2, none⟩ = some (.int .i64 0) ∧ wz.cell? ⟨q5, p + 3, none⟩ = some (.int .u8 0) ∧ wz.cell? ⟨q5, p + 4, none⟩ = some (.int .i64 0) ∧ wz.cell? ⟨q5, p + 5, none⟩ = some (.slice none 0 0) ∧ wz.cell? ⟨q5, p + 6, none⟩ = some (.slice none 0 0)) ∧ (∀ t, wz.frozen? ⟨q5, t, none⟩ = false) ∧
        Hid (MkA w W1 (((((((wz.setCell ⟨q5, p, none⟩ (.int .u8 s.k)).setCell ⟨q5, p + 1, none⟩ (.int .u8 s.a.1)).setCell ⟨q5, p + 2, none⟩ (.int .i64 s.a.2)).setCell ⟨q5, p + 3, none⟩ (.int .u8 s.b.1)).setCell ⟨q5, p + 4, none⟩ (.int .i64 s.b.2)).setCell ⟨q5, p + 5, none⟩ (.slice Aa na ca)).setCell ⟨q5, p + 6, none⟩ (.slice A nS c)) g n (Vs.set j (.slice (some ⟨q5, 0, none⟩) (nb + 1) c5)) (Ts.set j (T ++ [s])))) := by
  subst ho; subst hnb; subst hna; subst hnS; subst hp
  obtain ⟨css, h1, h2, h3⟩ := (h.bodies j v T hv hT).own
  have hs0 := h.size
  have hsA2 := hbA.size
  have hgi := h.gin
  have hvb := h.blk hv
  obtain ⟨cur0, cur, b0, b1, hcs, hc⟩ := h.row
  have b3 : Blk wA g 40 cur := b1.old hbA
  have hsA : StS (fun k => wr.heap.size ≤ k) wA [.int .u8 s.k, .int .u8 s.a.1, .int .i64 s.a.2, .int .u8 s.b.1, .int .i64 s.b.2, .slice Aa s.xs.length ca, .slice A s.sub.len c] s := ⟨_, A, c, rfl, hA, hB⟩
  have hzz : ∀ j u, ([.int .u8 0, .int .u8 0, .int .i64 0, .int .u8 0, .int .i64 0, .slice none 0 0, .slice none 0 0] : List Value)[j]? = some u → wA.cell? ⟨z, j, none⟩ = some u := fun j u hj => by
    rw [hz.cell]; simpa using hj
  obtain ⟨q5, c5, w5, hr, hO, hg, hat⟩ := push46 W1.heap.size v T.length css.flatten _ wA (own_old h1 hbA) (by omega) (by omega) z rfl (by intro u hu; simp at hu; rcases hu with rfl | rfl | rfl | rfl | rfl <;> rfl) hzz
  have hgv : some g ≠ v.ownBlock := fun e => by have := hvb g e; omega
  have b5 : Blk w5 g 40 cur := b3.grown hg hgv
  have hq : some q5 = v.ownBlock ∨ wA.heap.size ≤ q5 := by rcases hat with h | h; exact .inl h; exact .inr (by omega)
  have hqg : q5 ≠ g := fun e => by subst e; rcases hq with hq | hq; exact hgv hq; omega
  have hqb : w.heap.size ≤ q5 := by
    rcases hq with hq | hq
    · have := hvb q5 hq; omega
    · have := h.bel.size; omega
  have hlen : css.flatten.length = T.length * 7 := h1.1
  have hcc : T.length + 1 ≤ c5 := by
    rcases hO.2 with ⟨e, _⟩ | ⟨_, cap, _, e, _, _, hh, _⟩
    · cases e
    · injection e with _ _ e; omega
  refine ⟨q5, c5, w5, hr, by rw [b5.cell, (hc j hj).1, hv], b5.frozen _, hcc, fun q hq1 hq2 => ((hg.block q (by omega) (fun e => by have := hvb q e; omega)).trans (hbA.block q (by omega))).trans (h.keep q hq1 hq2), ?_⟩
  rintro wz rfl
  have hOz : (w5.setCell ⟨g, j * 5 + 4, none⟩ (.slice (some ⟨q5, 0, none⟩) (T.length + 1) c5)).ownsRow W1.heap.size 50 7 (.slice (some ⟨q5, 0, none⟩) (T.length + 1) c5) (T.length + 1) (css.flatten ++ [.int .u8 0, .int .u8 0, .int .i64 0, .int .u8 0, .int .i64 0, .slice none 0 0, .slice none 0 0]) :=
    own_blocks hO (fun k hk => Below.heap_setCell w5 ⟨g, j * 5 + 4, none⟩ _ k (fun e => by
        have e1 : k = q5 := by simpa [Value.ownBlock] using hk
        have e2 : k = g := e
        omega))
  have cell : ∀ t, t < 7 → (w5.setCell ⟨g, j * 5 + 4, none⟩ (.slice (some ⟨q5, 0, none⟩) (T.length + 1) c5)).cell? ⟨q5, T.length * 7 + t, none⟩ = ([.int .u8 0, .int .u8 0, .int .i64 0, .int .u8 0, .int .i64 0, .slice none 0 0, .slice none 0 0] : List Value)[t]? := fun t ht => by
    rw [hOz.cellAt _ (by omega), List.getElem?_append_right (by omega), hlen]
    congr 1
    omega
  refine ⟨(hOz.lt q5 rfl).2, ⟨cell 0 (by omega), cell 1 (by omega), cell 2 (by omega), cell 3 (by omega), cell 4 (by omega), cell 5 (by omega), cell 6 (by omega)⟩, fun t => hOz.frozenAt t, ?_⟩
  refine h.core hj hv hT s _ hbA hq (by have := hg.size; simp [World.setCell]; omega) ?_ (fun k hk hkg hkv => ?_) (fun cur' hc' => ?_) css h2 h3 ?_ hsA
  · exact Below.set1 (Below.set1 (Below.set1 (Below.set1 (Below.set1 (Below.set1 (Below.set1 (Below.set1 ((h.bel.trans (hbA.mono h.bel.size)).grown hg (by have := h.bel.size; omega) (fun k hk => by have := hvb k hk.symm; omega)) hgi.1 _) hqb _) hqb _) hqb _) hqb _) hqb _) hqb _) hqb _
  · have hkq : k ≠ q5 := fun e => by subst e; rcases hq with hq | hq; exact hkv hq; omega
    rw [far7 hkq, Below.heap_setCell w5 ⟨g, j * 5 + 4, none⟩ _ k hkg, hg.block k hk hkv]
  · exact (far7 (fun e => hqg e.symm) _ _ _ _ _ _ _).trans ((hc'.grown hg hgv).set_ _ _)
  · exact own_set7 rfl hlen hOz _ _ _ _ _ _ _
end
end Go.Proofs.Ytpdebnecfknohaa
