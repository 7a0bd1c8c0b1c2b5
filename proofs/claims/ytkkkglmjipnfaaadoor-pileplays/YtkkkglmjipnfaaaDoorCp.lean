/-
  The builtin copy at elements of two cells: into a row of the call's own.
-/
import Derived.Test.YtkkkglmjipnfaaaDoorS
import Derived.Laws.CopyRow
import Derived.Laws.CopyOwn
import Derived.Lib.AppendZerosOnto
import Derived.Lib.Overlaps
import Derived.Laws.Externs
import Derived.Maps.AppendAt
namespace Go.Proofs.YtkkkglmjipnfaaaDoor
open Go.RowKit
set_option linter.unusedVariables false

theorem info57 : (Tryd.prog.info? 57).map (fun i => (i.zero, i.size, i.bytes)) = some (some (.agg #[.int .i64 0, .int .u64 0]), 2, 16) := by kernel_rfl

theorem run_copy2 (w : World) (ty : TypeId) (g o dLen dCap : Nat) (a : Addr) (sLen sCap : Nat) (cur : Array Value) (t : TypeId) (cs : List Value)
    (hg : w.heap[g]? = some (.cells cur t (0, 0))) (hn : cs.length = Nat.min sLen dLen * 2)
    (hsrc : ∀ j v, cs[j]? = some v → w.cell? (a.add j) = some v) (hfit : o + cs.length ≤ cur.size) (h1 : ∀ v ∈ cs, v.oneCell' = true) :
    (Builtin.copy_ #[25, 25] ty #[.slice (some ⟨g, o, none⟩) dLen dCap, .slice (some a) sLen sCap]).run Tryd.prog w =
      .ok (goInt (Nat.min sLen dLen)) (w.setRow g (cur.toList.take o ++ cs ++ cur.toList.drop (o + cs.length)).toArray) := by
  have hl := run_loadCells_list (P := Tryd.prog) w a cs hsrc
  have hst := run_storeCells_at Tryd.prog g o t cs 0 cur w hg (by simpa using hfit) h1
  obtain ⟨i0, hi0, hz0, hz1, hz2⟩ := info_parts info57
  simp [Builtin.copy_, run_underlying Tryd.underlying25, Builtin.lenOf, Builtin.firstCells, sizeOf, typeInfo, hi0, hz1, ← hn, hl, hst]

/-- The cells of blocks, one behind the other. -/
def flat : Bks → List Value
  | [] => []
  | p :: L => .int .i64 p.1 :: .int .u64 (p.2 : Int) :: flat L
theorem flat_length (L : Bks) : (flat L).length = L.length * 2 := by
  induction L with
  | nil => rfl
  | cons p L ih => simp [flat, ih]; omega
theorem flat_append (L M : Bks) : flat (L ++ M) = flat L ++ flat M := by
  induction L with
  | nil => rfl
  | cons p L ih => simp [flat, ih]
theorem flat_take (L : Bks) (r : Nat) : flat (L.take r) = (flat L).take (r * 2) := by
  induction L generalizing r with
  | nil => simp [flat]
  | cons p L ih =>
    cases r with
    | zero => simp [flat]
    | succ r => simp [flat, ih, show (r + 1) * 2 = r * 2 + 2 from by omega]
theorem flat_drop (L : Bks) (r : Nat) : flat (L.drop r) = (flat L).drop (r * 2) := by
  induction L generalizing r with
  | nil => simp [flat]
  | cons p L ih =>
    cases r with
    | zero => simp
    | succ r => simp [flat, ih, show (r + 1) * 2 = r * 2 + 2 from by omega]
theorem flat_one (L : Bks) : ∀ u ∈ flat L, u.oneCell' = true := by
  induction L with
  | nil => simp [flat]
  | cons p L ih =>
    intro u hu
    simp only [flat, List.mem_cons] at hu
    rcases hu with rfl | rfl | hu
    · rfl
    · rfl
    · exact ih u hu
theorem flat_get (L : Bks) (k : Nat) (h : k < L.length) : (flat L)[k * 2]? = some (.int .i64 (L.getD k (0, 0)).1) ∧ (flat L)[k * 2 + 1]? = some (.int .u64 ((L.getD k (0, 0)).2 : Int)) := by
  induction L generalizing k with
  | nil => simp at h
  | cons p L ih =>
    cases k with
    | zero => simp [flat]
    | succ k =>
      have := ih k (by simpa using h)
      rw [show (k + 1) * 2 = k * 2 + 1 + 1 from by omega]
      simpa [flat] using this

/-- What Insert leaves: the block stands at its place, in the same row or in a new one. -/
def InsPost (base : Nat) (v : Value) (L : Bks) (w : World) (e : Ending) (w' : World) : Prop :=
  ∃ v', e = .returned v' ∧ w'.ownsRow base 57 2 v' L.length (flat L) ∧ w.grownBy w' v.ownBlock ∧ (v'.ownBlock = v.ownBlock ∨ ∃ k, v'.ownBlock = some k ∧ w.heap.size ≤ k)

set_option maxRecDepth 20000 in
set_option maxHeartbeats 1000000 in
theorem insert_end (base : Nat) (v : Value) (L : Bks) (a : Int) (b gv : Nat) (w : World) (hown : w.ownsRow base 57 2 v L.length (flat L)) (hl : L.length ≤ 100000) (hB : base ≤ w.heap.size)
    (hgv : w.heap[gv]? = some (.cells #[.int .i64 a, .int .u64 (b : Int)] 57 (0, 0))) :
    Calls Tryd.prog 25 #[v, .int .i64 L.length, .slice (some ⟨gv, 0, none⟩) 1 1] w (InsPost base v (L ++ [(a, b)]) w) := by
  obtain ⟨i0, hi0, hz0, hz1, hz2⟩ := info_parts info57
  have HO := Lib.hid hown
  have hv : ∃ A c, v = .slice A L.length c ∧ (A = none → L.length = 0 ∧ c = 0) ∧ L.length ≤ c := by
    obtain ⟨_, h2⟩ := hown
    rcases h2 with ⟨rfl, hn⟩ | ⟨g, cap, cur, rfl, _, hg, h3, _, _, ht⟩
    · exact ⟨none, 0, by rw [hn], fun _ => ⟨hn, rfl⟩, by omega⟩
    · exact ⟨_, _, rfl, (fun h => by cases h), h3⟩
  obtain ⟨A, c, rfl, hA, hc⟩ := hv
  have hsrc : ∀ j u, [Value.int .i64 a, .int .u64 (b : Int)][j]? = some u → w.cell? ((⟨gv, 0, none⟩ : Addr).add j) = some u := by
    intro j u hj
    rw [Go.WideShapes.add_plain, cell_of_row w gv (0 + j) _ 57 (0, 0) hgv, Nat.zero_add]
    simpa using hj
  have HS := Lib.hid hsrc
  clear hown hsrc hgv
  by_cases hcc : c = L.length
  · subst hcc
    go_enter Tryd.func25, Tryd.ntmps25
    go_wp2_with (at_builtin; refine wpList_append_own_at _ rfl _ _ 25 rfl base 57 i0 (.agg #[.int .i64 0, .int .u64 0]) 2 16 Tryd.underlying25 hi0 hz0 hz1 hz2 rfl (by decide) _ _ _ rfl HO.out ⟨gv, 0, none⟩ 1 1 [.int .i64 a, .int .u64 (b : Int)] rfl rfl ?c2 ?c3 ?c4 ?c5 ?c6 ?_)
    case c2 => exact HS.out
    case c3 => intro u hu; simp at hu; rcases hu with rfl | rfl <;> rfl
    case c4 => unfold maxLen; omega
    case c5 => omega
    case c6 => exact hB
    intro v' w2 h1 h2 h3 h4
    go_wp2
    go_ret
    refine ⟨v', rfl, ?_, h2, ?_⟩
    · rw [flat_append, List.length_append]; exact h1
    · rcases h4 with h4 | h4
      · exact .inl h4
      · exact .inr ⟨_, h4, Nat.le_refl _⟩
  · have hcc' : L.length < c := by omega
    go_enter Tryd.func25, Tryd.ntmps25
    go_wp2_with (at_builtin; refine wpList_append_own_at _ rfl _ _ 25 rfl base 57 i0 (.agg #[.int .i64 0, .int .u64 0]) 2 16 Tryd.underlying25 hi0 hz0 hz1 hz2 rfl (by decide) _ _ _ rfl HO.out ⟨gv, 0, none⟩ 1 1 [.int .i64 a, .int .u64 (b : Int)] rfl rfl ?d2 ?d3 ?d4 ?d5 ?d6 ?_)
    case d2 => exact HS.out
    case d3 => intro u hu; simp at hu; rcases hu with rfl | rfl <;> rfl
    case d4 => unfold maxLen; omega
    case d5 => omega
    case d6 => exact hB
    intro v' w2 h1 h2 h3 h4
    go_wp2
    go_ret
    refine ⟨v', rfl, ?_, h2, ?_⟩
    · rw [flat_append, List.length_append]; exact h1
    · rcases h4 with h4 | h4
      · exact .inl h4
      · exact .inr ⟨_, h4, Nat.le_refl _⟩
end Go.Proofs.YtkkkglmjipnfaaaDoor
