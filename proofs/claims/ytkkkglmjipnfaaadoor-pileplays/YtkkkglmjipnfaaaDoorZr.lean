/-
  The builtin append of zeros ('append(s, make([]block, k)...)') onto a row of the call's own, at elements of two cells.
-/
import Derived.Test.YtkkkglmjipnfaaaDoorIns
namespace Go.Proofs.YtkkkglmjipnfaaaDoor
open Go.RowKit
set_option linter.unusedVariables false

def zs (k : Nat) : List Value := (Builtin.zeroCells (Value.agg #[.int .i64 0, .int .u64 0]).cells k).toList
theorem zs_length (k : Nat) : (zs k).length = k * 2 := by simp [zs, Builtin.zeroCells, Value.cells]
theorem zs_one (k : Nat) : ∀ u ∈ zs k, u.oneCell' = true := by
  intro u hu
  simp only [zs, Builtin.zeroCells, Value.cells, Array.toList_map, List.mem_map] at hu
  obtain ⟨i, _, rfl⟩ := hu
  have : i % 2 = 0 ∨ i % 2 = 1 := by omega
  rcases this with h | h <;> simp [h, Value.oneCell']

set_option maxHeartbeats 1000000 in
theorem zeros_own (base : Nat) (ty : TypeId) (v : Value) (n : Nat) (xs : List Value) (w : World) (hown : w.ownsRow base 57 2 v n xs) (k : Nat) (hn : n ≤ 200000) (hk : k ≤ 200000) (hB : base ≤ w.heap.size) :
    ∃ v' w', (Builtin.append_ #[25, 3] ty #[v, .int .i64 k]).run Tryd.prog w = .ok v' w' ∧ w'.ownsRow base 57 2 v' (n + k) (xs ++ zs k) ∧ w.grownBy w' v.ownBlock ∧ (v'.ownBlock = v.ownBlock ∨ v'.ownBlock = some w.heap.size) := by
  obtain ⟨i0, hi0, hz0, hz1, hz2⟩ := info_parts info57
  have hw : IntKind.i64.wrap (k : Int) = k := by rw [IntKind.wrap_i64]; omega
  have hw0 : IntKind.i64.wrap 0 = 0 := by decide
  have hneg : ¬ ((k : Int) < 0) := by omega
  have h48i : ¬ (281474976710656 < (k : Int) * 16) := by omega
  have hlen : (xs ++ zs k).length = (n + k) * 2 := by rw [List.length_append, hown.1, zs_length, Nat.add_mul]
  have grown : ∀ (old : Nat) (b : Option Addr), old < n + k → (Builtin.firstCells i0.size n (.slice b n old)).run Tryd.prog w.drew = .ok xs.toArray w.drew → 0 < k →
      ∃ v' w', (Builtin.append_ #[25, 3] ty #[.slice b n old, .int .i64 k]).run Tryd.prog w = .ok v' w' ∧ w'.ownsRow base 57 2 v' (n + k) (xs ++ zs k) ∧ w.grownBy w' (Value.slice b n old).ownBlock ∧ v'.ownBlock = some w.heap.size := by
    intro old b ho hold hk0
    have hge := grownCap_ge w (n + k) old 57
    have hcm : grownCap w (n + k) old 57 ≤ maxLen := grownCap_le_maxLen w (n + k) old 57 (by unfold maxLen; omega)
    refine ⟨_, _, Lib.run_append_grow_zeros w 25 3 ty 57 i0 _ .i64 .i64 Tryd.underlying25 Tryd.underlying3 hi0 hz0 b n old xs hold k hk0 (by omega) ho (by omega) (by rw [hz2]; omega) (by have := nextslicecap_le ho; rw [hz2]; omega), ⟨hlen, .inr ⟨w.heap.size, _, _, rfl, hB, heap_alloc_new w.drew _, hge, hcm, ?_, ?_⟩⟩, ⟨rfl, rfl, rfl, by simp, fun j hj _ => heap_alloc_old w.drew _ hj⟩, rfl⟩
    · have e1 : ∀ j, (Builtin.zeroCells (Value.agg #[.int .i64 0, .int .u64 0]).cells j).size = j * 2 := fun j => by simp [Builtin.zeroCells, Value.cells]
      simp only [Array.size_append, List.size_toArray, e1, hown.1]
      omega
    · simp only [Array.toList_append, List.append_assoc]
      rw [← List.append_assoc, ← hlen]
      exact List.take_left
  rcases hown.2 with ⟨rfl, rfl⟩ | ⟨g, cap, cur, rfl, hbg, hg, hnc, hcm, hcs, htake⟩
  · have hx : xs = [] := List.eq_nil_of_length_eq_zero (by simpa using hown.1)
    subst hx
    rcases Nat.eq_zero_or_pos k with h0 | h0
    · subst h0
      have ez : zs 0 = [] := List.eq_nil_of_length_eq_zero (zs_length 0)
      refine ⟨.slice none 0 0, w, ?_, by rw [ez]; exact World.ownsRow_nil _ _ _ _, ⟨rfl, rfl, rfl, Nat.le_refl _, fun _ _ _ => rfl⟩, .inl rfl⟩
      simp [Builtin.append_, run_underlying Tryd.underlying25, run_underlying Tryd.underlying3, sizeOf, typeInfo, zeroValue, hi0, hz0, hz2, asInt, asIntOf, hw0]
    · obtain ⟨v', w', h1, h2, h3, h4⟩ := grown 0 none (by omega) (run_firstCells_none _ _ _ _ _) h0
      exact ⟨v', w', h1, h2, h3, .inr h4⟩
  · by_cases hroom : n + k ≤ cap
    · refine ⟨.slice (some ⟨g, 0, none⟩) (n + k) cap, w.setRow g (cur.toList.take (n * 2) ++ zs k ++ cur.toList.drop (n * 2 + (zs k).length)).toArray, ?_, ⟨hlen, .inr ⟨g, cap, _, rfl, hbg, setRow_heap w g cur _ 57 (0, 0) hg, hroom, hcm, ?_, ?_⟩⟩, setRow_grown w g _, .inl rfl⟩
      · have hst := run_storeCells_at Tryd.prog g (n * 2) 57 (zs k) 0 cur w hg (by rw [zs_length, hcs]; omega) (zs_one k)
        simp only [Nat.add_zero] at hst
        rcases Nat.eq_zero_or_pos k with h0 | h0
        · subst h0
          have ez : zs 0 = [] := List.eq_nil_of_length_eq_zero (zs_length 0)
          have hrm : n ≤ cap := by omega
          rw [ez] at hst ⊢
          simp [Builtin.append_, run_underlying Tryd.underlying25, run_underlying Tryd.underlying3, sizeOf, typeInfo, zeroValue, hi0, hz0, hz1, hz2, asInt, asIntOf, hw0, Go.WideShapes.add_plain, hrm, hst]
        · have hk2 : ¬ (k * 2 = 0) := by omega
          have ez : (Builtin.zeroCells (Value.agg #[.int .i64 0, .int .u64 0]).cells k).toList = zs k := rfl
          simp [Builtin.append_, run_underlying Tryd.underlying25, run_underlying Tryd.underlying3, sizeOf, typeInfo, zeroValue, hi0, hz0, hz1, hz2, asInt, asIntOf, hw, hneg, h48i, hroom, Go.WideShapes.add_plain, ez, hst]
          intro h
          omega
      · simp [zs_length, hcs]; omega
      · simp only [List.append_assoc]
        rw [← List.append_assoc, htake, ← hlen]
        exact List.take_left
    · rcases Nat.eq_zero_or_pos k with h0 | h0
      · omega
      · obtain ⟨v', w', h1, h2, h3, h4⟩ := grown cap (some ⟨g, 0, none⟩) (by omega) (by
          rw [hz1]
          refine run_firstCells_some w.drew 2 n ⟨g, 0, none⟩ n cap xs (by rw [hown.1]) (fun j u hj => ?_)
          rw [Go.WideShapes.add_plain, World.cell?_drew, cell_of_row w g _ cur 57 (0, 0) hg, Nat.zero_add, ← Array.getElem?_toList]
          rw [← htake] at hj
          have hlt : j < n * 2 := by
            rcases Nat.lt_or_ge j (n * 2) with h | h
            · exact h
            · rw [List.getElem?_eq_none (by simp; omega)] at hj; cases hj
          rwa [List.getElem?_take_of_lt hlt] at hj) h0
        exact ⟨v', w', h1, h2, h3, .inr h4⟩

theorem grow_list (F Z ab : List Value) (n r G : Nat) (hab : ab.length = 2) (hF : F.length = n * 2) (hZ : Z.length = G) (hG : (n + 1) * 2 ≤ G) (hr : r < n) (hZ0 : Z.take (r * 2) = F.take (r * 2)) :
    ((Z.take (r * 2) ++ ab ++ Z.drop (r * 2 + 2)).take ((r + 1) * 2) ++ F.drop (r * 2) ++ (Z.take (r * 2) ++ ab ++ Z.drop (r * 2 + 2)).drop ((r + 1) * 2 + (F.drop (r * 2)).length)).take ((n + 1) * 2) = F.take (r * 2) ++ ab ++ F.drop (r * 2) := by
  have l2 : (F.take (r * 2)).length = r * 2 := by rw [List.length_take]; omega
  have l3 : (F.drop (r * 2)).length = n * 2 - r * 2 := by rw [List.length_drop]; omega
  rw [hZ0]
  generalize Z.drop (r * 2 + 2) = Y
  have e1 : (F.take (r * 2) ++ ab ++ Y).take ((r + 1) * 2) = F.take (r * 2) ++ ab := List.take_left' (by rw [List.length_append]; omega)
  rw [e1]
  generalize (F.take (r * 2) ++ ab ++ Y).drop ((r + 1) * 2 + (F.drop (r * 2)).length) = R
  exact List.take_left' (by rw [List.length_append, List.length_append]; omega)

set_option maxRecDepth 100000 in
set_option maxHeartbeats 2000000 in
theorem insert_grow (base g : Nat) (cur : Array Value) (L : Bks) (r : Nat) (a : Int) (b gv : Nat) (w : World) (hb0 : base ≤ g) (hgv0 : gv ≠ g) (hB : base ≤ w.heap.size)
    (hg : w.heap[g]? = some (.cells cur 57 (0, 0))) (hcs : cur.size = L.length * 2) (ht : cur.toList.take (L.length * 2) = flat L)
    (hl : L.length ≤ 100000) (hr : r < L.length) (hgv : w.heap[gv]? = some (.cells #[.int .i64 a, .int .u64 (b : Int)] 57 (0, 0))) :
    Calls Tryd.prog 25 #[.slice (some ⟨g, 0, none⟩) L.length L.length, .int .i64 r, .slice (some ⟨gv, 0, none⟩) 1 1] w (InsPost base (.slice (some ⟨g, 0, none⟩) L.length L.length) (L.take r ++ (a, b) :: L.drop r) w) := by
  have hfl := flat_length L
  obtain ⟨i0, hi0, hz0, hz1, hz2⟩ := info_parts info57
  have hcel : ∀ j u, (flat L)[j]? = some u → w.cell? ⟨g, j, none⟩ = some u := by
    intro j u hj
    rw [cell_of_row w g _ cur 57 (0, 0) hg, ← Array.getElem?_toList]
    rw [← ht] at hj
    have hlt : j < L.length * 2 := by
      rcases Nat.lt_or_ge j (L.length * 2) with h | h
      · exact h
      · rw [List.getElem?_eq_none (by simp; omega)] at hj; cases hj
    rwa [List.getElem?_take_of_lt hlt] at hj
  have hold : (Builtin.firstCells i0.size r (.slice (some ⟨g, 0, none⟩) r L.length)).run Tryd.prog w.drew = .ok ((flat L).take (r * 2)).toArray w.drew := by
    rw [hz1]
    refine run_firstCells_some w.drew 2 r ⟨g, 0, none⟩ r L.length ((flat L).take (r * 2)) (by rw [List.length_take]; omega) (fun j u hj => ?_)
    rw [Go.WideShapes.add_plain, World.cell?_drew, Nat.zero_add]
    refine hcel j u ?_
    rw [List.getElem?_take] at hj
    split at hj
    · exact hj
    · cases hj
  have hsum : r + (L.length + 1 - r) = L.length + 1 := by omega
  have hap := fun ty => Lib.run_append_grow_zeros w 25 3 ty 57 i0 _ .i64 .i64 Tryd.underlying25 Tryd.underlying3 hi0 hz0 (some ⟨g, 0, none⟩) r L.length ((flat L).take (r * 2)) hold (L.length + 1 - r) (by omega) (by omega) (by omega) (by omega) (by rw [hz2]; omega) (by rw [hsum, hz2]; have := nextslicecap_le (show L.length < L.length + 1 by omega); omega)
  rw [hsum, show ((L.length + 1 - r : Nat) : Int) = (L.length : Int) + 1 - (r : Int) from by omega] at hap
  have hge := grownCap_ge w (L.length + 1) L.length 57
  have hcm : grownCap w (L.length + 1) L.length 57 ≤ maxLen := grownCap_le_maxLen w (L.length + 1) L.length 57 (by unfold maxLen; omega)
  generalize grownCap w (L.length + 1) L.length 57 = G at *
  have e1 : ∀ j, (Builtin.zeroCells (Value.agg #[.int .i64 0, .int .u64 0]).cells j).size = j * 2 := fun j => by simp [Builtin.zeroCells, Value.cells]
  obtain ⟨Z, hZ⟩ : ∃ Z, Z = ((flat L).take (r * 2)).toArray ++ Builtin.zeroCells (Value.agg #[.int .i64 0, .int .u64 0]).cells (L.length + 1 - r) ++ Builtin.zeroCells (Value.agg #[.int .i64 0, .int .u64 0]).cells (G - (L.length + 1)) := ⟨_, rfl⟩
  rw [← hZ] at hap
  have hZs : Z.size = G * 2 := by rw [hZ]; simp only [Array.size_append, List.size_toArray, e1, List.length_take, hfl]; omega
  have hZ0 : Z.toList.take (r * 2) = (flat L).take (r * 2) := by
    rw [hZ]
    simp only [Array.toList_append, List.append_assoc]
    exact List.take_left' (by rw [List.length_take]; omega)
  clear hZ
  have hg2 : (w.drew.alloc (.cells Z 57)).heap[w.heap.size]? = some (.cells Z 57 (0, 0)) := heap_alloc_new w.drew _
  have hgl : g < w.heap.size := by
    rcases Nat.lt_or_ge g w.heap.size with h | h
    · exact h
    · rw [Array.getElem?_eq_none h] at hg; cases hg
  have hgvl : gv < w.heap.size := by
    rcases Nat.lt_or_ge gv w.heap.size with h | h
    · exact h
    · rw [Array.getElem?_eq_none h] at hgv; cases hgv
  obtain ⟨C1, hC1⟩ : ∃ C1, C1 = (Z.toList.take (r * 2) ++ [Value.int .i64 a, .int .u64 (b : Int)] ++ Z.toList.drop (r * 2 + 2)).toArray := ⟨_, rfl⟩
  have hcp1 : ∀ ty dc, (Builtin.copy_ #[25, 25] ty #[.slice (some ⟨w.heap.size, r * 2, none⟩) (L.length + 1 - r) dc, .slice (some ⟨gv, 0, none⟩) 1 1]).run Tryd.prog (w.drew.alloc (.cells Z 57)) = .ok (goInt (Nat.min 1 (L.length + 1 - r))) ((w.drew.alloc (.cells Z 57)).setRow w.heap.size C1) := fun ty dc => by
    rw [hC1]
    refine run_copy2 (w.drew.alloc (.cells Z 57)) ty w.heap.size (r * 2) (L.length + 1 - r) dc ⟨gv, 0, none⟩ 1 1 Z 57 [Value.int .i64 a, .int .u64 (b : Int)] hg2 ?_ ?_ ?_ ?_
    · rw [show Nat.min 1 (L.length + 1 - r) = 1 from by simp only [Nat.min_def]; split <;> omega]; rfl
    · intro j u hj
      rw [Go.WideShapes.add_plain, cell_of_row _ gv (0 + j) #[.int .i64 a, .int .u64 (b : Int)] 57 (0, 0) ((heap_alloc_old w.drew _ hgvl).trans hgv), Nat.zero_add]
      simpa using hj
    · simp; omega
    · intro u hu; simp at hu; rcases hu with rfl | rfl <;> rfl
  have hC1s : C1.size = G * 2 := by rw [hC1]; simp [hZs]; omega
  have hgc : ((w.drew.alloc (.cells Z 57)).setRow w.heap.size C1).heap[w.heap.size]? = some (.cells C1 57 (0, 0)) := setRow_heap _ _ Z C1 57 (0, 0) hg2
  obtain ⟨C2, hC2⟩ : ∃ C2, C2 = (C1.toList.take ((r + 1) * 2) ++ (flat L).drop (r * 2) ++ C1.toList.drop ((r + 1) * 2 + ((flat L).drop (r * 2)).length)).toArray := ⟨_, rfl⟩
  have hcp2 : ∀ ty dc sc, (Builtin.copy_ #[25, 25] ty #[.slice (some ⟨w.heap.size, (r + 1) * 2, none⟩) (L.length - r) dc, .slice (some ⟨g, r * 2, none⟩) (L.length - r) sc]).run Tryd.prog ((w.drew.alloc (.cells Z 57)).setRow w.heap.size C1).drew = .ok (goInt (Nat.min (L.length - r) (L.length - r))) (((w.drew.alloc (.cells Z 57)).setRow w.heap.size C1).drew.setRow w.heap.size C2) := fun ty dc sc => by
    rw [hC2]
    refine run_copy2 _ ty w.heap.size ((r + 1) * 2) (L.length - r) dc ⟨g, r * 2, none⟩ (L.length - r) sc C1 57 ((flat L).drop (r * 2)) hgc ?_ ?_ ?_ (fun u hu => flat_one L u (List.mem_of_mem_drop hu))
    · rw [List.length_drop, hfl, show Nat.min (L.length - r) (L.length - r) = L.length - r from by simp]; omega
    · intro j u hj
      rw [Go.WideShapes.add_plain, World.cell?_drew, cell_setRow_other _ _ _ _ (by simp; omega)]
      rw [List.getElem?_drop] at hj
      have h1 := hcel _ u hj
      have hbl : (w.drew.alloc (.cells Z 57)).heap[g]? = w.heap[g]? := heap_alloc_old w.drew _ hgl
      exact (World.cell?_of_block (a := ⟨g, r * 2 + j, none⟩) hbl).trans h1
    · rw [List.length_drop, hfl, hC1s]; omega
  have hlen : (L.take r ++ (a, b) :: L.drop r).length = L.length + 1 := by simp; omega
  have hfin : (((w.drew.alloc (.cells Z 57)).setRow w.heap.size C1).drew.setRow w.heap.size C2).ownsRow base 57 2 (.slice (some ⟨w.heap.size, 0, none⟩) (L.length + 1) G) (L.take r ++ (a, b) :: L.drop r).length (flat (L.take r ++ (a, b) :: L.drop r)) := by
    refine ⟨by rw [flat_length], .inr ⟨w.heap.size, G, C2, by rw [hlen], hB, setRow_heap _ _ C1 C2 57 (0, 0) hgc, by omega, hcm, ?_, ?_⟩⟩
    · rw [hC2]; simp [hC1s, hfl]; omega
    · rw [hlen, hC2, hC1]
      have := grow_list (flat L) Z.toList [Value.int .i64 a, .int .u64 (b : Int)] L.length r (G * 2) rfl hfl (by simp [hZs]) (by omega) hr hZ0
      refine this.trans ?_
      rw [flat_append, flat_take]
      simp only [flat, flat_drop, List.append_assoc, List.cons_append, List.nil_append]
  have hgrow : w.grownBy (((w.drew.alloc (.cells Z 57)).setRow w.heap.size C1).drew.setRow w.heap.size C2) (some g) := by
    refine ⟨rfl, rfl, rfl, by simp, fun k hk _ => ?_⟩
    rw [setRow_other _ _ _ _ (by omega)]
    show ((w.drew.alloc (.cells Z 57)).setRow w.heap.size C1).heap[k]? = _
    rw [setRow_other _ _ _ _ (by omega)]
    exact heap_alloc_old w.drew _ hk
  have HF := Lib.hid hfin
  have HGr := Lib.hid hgrow
  have HAP := Lib.hid hap
  have HC1 : Hid (∀ ty dc, (Builtin.copy_ #[25, 25] ty #[.slice (some ⟨w.heap.size, r * 2, none⟩) (L.length + 1 - r) dc, .slice (some ⟨gv, 0, none⟩) 1 1]).run Tryd.prog (w.alloc (.cells Z 57)).drew = .ok (goInt (Nat.min 1 (L.length + 1 - r))) ((w.alloc (.cells Z 57)).drew.setRow w.heap.size C1)) := hcp1
  have HC2 : Hid (∀ ty dc sc, (Builtin.copy_ #[25, 25] ty #[.slice (some ⟨w.heap.size, (r + 1) * 2, none⟩) (L.length - r) dc, .slice (some ⟨g, r * 2, none⟩) (L.length - r) sc]).run Tryd.prog ((w.alloc (.cells Z 57)).drew.setRow w.heap.size C1).drew = .ok (goInt (Nat.min (L.length - r) (L.length - r))) (((w.alloc (.cells Z 57)).drew.setRow w.heap.size C1).drew.setRow w.heap.size C2)) := hcp2
  clear hC1 hC2 hfin hgrow hcp1 hcp2 hgc hC1s hg hgv ht hcs hfl hap hZs hZ0 hg2 hcel hold hi0 hz0 hz1 hz2 e1 hsum hlen
  have hw1 : IntKind.i64.wrap ((r : Int) + 1) = (r : Int) + 1 := IntWalk.i64_in _ (by omega)
  have hb1 : (0 : Int) ≤ (r : Int) + 1 := by omega
  have htn : ((r : Int) + 1).toNat = r + 1 := by omega
  have hb2 : ¬ (G = r + 1) := by omega
  have hb3 : (r : Int) ≤ (L.length : Int) + 1 := by omega
  have hb4 : ¬ (G = r) := by omega
  have hb5 : r ≤ L.length := by omega
  have hb6 : ((r : Int) == (L.length : Int)) = false := by simp; omega
  have hb7 : ¬ (L.length = r) := by omega
  unfold maxLen at hcm
  have hc1 := HC1.out
  go_enter Tryd.func25, Tryd.ntmps25
  go_wp2_with (at_builtin; refine Lib.wpList_append_run _ rfl _ _ 25 3 rfl _ _ rfl rfl _ _ (HAP.out _) ?_)
  clear hc1
  have hc2 := HC2.out
  go_region
  clear hc2
  go_wp2
  go_ret
  exact ⟨_, rfl, HF.out, HGr.out, .inr ⟨_, rfl, Nat.le_refl _⟩⟩
end Go.Proofs.YtkkkglmjipnfaaaDoor
