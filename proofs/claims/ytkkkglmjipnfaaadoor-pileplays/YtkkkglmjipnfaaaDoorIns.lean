/-
  What slices.Insert at one block leaves, inside the row: where there is room, and where there is none.
-/
import Derived.Test.YtkkkglmjipnfaaaDoorCp
import Derived.Deep.RegionLaw
import Derived.RegionTactic
import Derived.BigRegion
import Derived.Laws.Tables
namespace Go.Proofs.YtkkkglmjipnfaaaDoor
open Go.RowKit
set_option linter.unusedVariables false

theorem setRow_grown (w : World) (g : Nat) (cs : Array Value) : w.grownBy (w.setRow g cs) (some g) :=
  ⟨rfl, rfl, rfl, by simp, fun k _ hk => setRow_other w g k cs (fun e => hk (by rw [e]))⟩
theorem drew_grown (w : World) (r : Option Nat) : w.grownBy w.drew r := ⟨rfl, rfl, rfl, Nat.le_refl _, fun _ _ _ => rfl⟩

theorem shift_list (X F ab : List Value) (n r : Nat) (hab : ab.length = 2) (hF : F.length = n * 2) (hX : X.take (n * 2) = F) (hXl : (n + 1) * 2 ≤ X.length) (hr : r < n) :
    (((X.take ((r + 1) * 2) ++ F.drop (r * 2) ++ X.drop ((r + 1) * 2 + (F.drop (r * 2)).length)).take (r * 2) ++ ab ++ (X.take ((r + 1) * 2) ++ F.drop (r * 2) ++ X.drop ((r + 1) * 2 + (F.drop (r * 2)).length)).drop (r * 2 + 2)).take ((n + 1) * 2)) = F.take (r * 2) ++ ab ++ F.drop (r * 2) := by
  generalize X.drop ((r + 1) * 2 + (F.drop (r * 2)).length) = R
  have e1 : (X.take ((r + 1) * 2)).take (r * 2) = F.take (r * 2) := by
    rw [List.take_take, ← hX, List.take_take]; congr 1; omega
  have l1 : (X.take ((r + 1) * 2)).length = r * 2 + 2 := by rw [List.length_take]; omega
  have l3 : (F.drop (r * 2)).length = n * 2 - r * 2 := by rw [List.length_drop]; omega
  have l2 : (F.take (r * 2)).length = r * 2 := by rw [List.length_take]; omega
  generalize X.take ((r + 1) * 2) = P at *
  generalize F.drop (r * 2) = Q at *
  have e2 : (P ++ (Q ++ R)).take (r * 2) = F.take (r * 2) := by rw [List.take_append_of_le_length (by omega), e1]
  have e3 : (P ++ (Q ++ R)).drop (r * 2 + 2) = Q ++ R := by rw [List.drop_append, show r * 2 + 2 - P.length = 0 from by omega, List.drop_zero, List.drop_of_length_le (by omega : P.length ≤ r * 2 + 2), List.nil_append]
  rw [List.append_assoc P Q R, e2, e3, ← List.append_assoc]
  exact List.take_left' (by simp only [List.length_append]; omega)

set_option maxRecDepth 100000 in
set_option maxHeartbeats 2000000 in
theorem insert_shift (base g cap : Nat) (cur : Array Value) (L : Bks) (r : Nat) (a : Int) (b gv : Nat) (w : World) (hb0 : base ≤ g) (hgv0 : gv ≠ g)
    (hg : w.heap[g]? = some (.cells cur 57 (0, 0))) (hcap : L.length + 1 ≤ cap) (hm : cap ≤ maxLen) (hcs : cur.size = cap * 2) (ht : cur.toList.take (L.length * 2) = flat L)
    (hl : L.length ≤ 100000) (hr : r < L.length) (hgv : w.heap[gv]? = some (.cells #[.int .i64 a, .int .u64 (b : Int)] 57 (0, 0))) :
    Calls Tryd.prog 25 #[.slice (some ⟨g, 0, none⟩) L.length cap, .int .i64 r, .slice (some ⟨gv, 0, none⟩) 1 1] w (InsPost base (.slice (some ⟨g, 0, none⟩) L.length cap) (L.take r ++ (a, b) :: L.drop r) w) := by
  have hfl := flat_length L
  have hov : ∀ lb cb, (callFunc 38 #[.slice (some ⟨gv, 0, none⟩) 1 1, .slice (some ⟨g, (r + 1) * 2, none⟩) lb cb]).run Tryd.prog w = .ok (.value (.bool false)) w := fun lb cb => by
    rw [run_callFunc_extern Tryd.func38 (by kernel_rfl) (by kernel_rfl) (by kernel_rfl) (e := Extern.SlicesOverlaps.overlaps #[25, 25] #[4]) (by kernel_rfl),
      Lib.run_overlaps_apart w 25 4 57 Tryd.underlying25 2 Tryd.sizeOf57 ⟨gv, 0, none⟩ ⟨g, (r + 1) * 2, none⟩ 1 1 lb cb hgv0 57 57 2 cur.size (by simp [World.shape?, hgv]) (by simp [World.shape?, hg]) (by omega) (by simp [World.frozen?, hgv]) (by simp [World.frozen?, hgv])]
    rfl
  obtain ⟨C1, hC1⟩ : ∃ C1, C1 = (cur.toList.take ((r + 1) * 2) ++ (flat L).drop (r * 2) ++ cur.toList.drop ((r + 1) * 2 + ((flat L).drop (r * 2)).length)).toArray := ⟨_, rfl⟩
  have hcp1 : ∀ ty dc sc, (Builtin.copy_ #[25, 25] ty #[.slice (some ⟨g, (r + 1) * 2, none⟩) (L.length - r) dc, .slice (some ⟨g, r * 2, none⟩) (L.length + 1 - r) sc]).run Tryd.prog w.drew = .ok (goInt (Nat.min (L.length + 1 - r) (L.length - r))) (w.drew.setRow g C1) := fun ty dc sc => by
    rw [hC1]
    refine run_copy2 w.drew ty g ((r + 1) * 2) (L.length - r) dc ⟨g, r * 2, none⟩ (L.length + 1 - r) sc cur 57 ((flat L).drop (r * 2)) hg ?_ ?_ ?_ (fun u hu => flat_one L u (List.mem_of_mem_drop hu))
    · rw [List.length_drop, hfl, show Nat.min (L.length + 1 - r) (L.length - r) = L.length - r from by simp only [Nat.min_def]; split <;> omega]; omega
    · intro j u hj
      rw [Go.WideShapes.add_plain, World.cell?_drew, cell_of_row w g _ cur 57 (0, 0) hg, ← Array.getElem?_toList]
      rw [List.getElem?_drop] at hj
      have hlt : r * 2 + j < L.length * 2 := by
        rcases Nat.lt_or_ge (r * 2 + j) (L.length * 2) with h | h
        · exact h
        · rw [List.getElem?_eq_none (by omega)] at hj; cases hj
      rw [← ht, List.getElem?_take_of_lt hlt] at hj
      exact hj
    · rw [List.length_drop, hfl]; omega
  have hC1s : C1.size = cap * 2 := by rw [hC1]; simp [hfl]; omega
  obtain ⟨C2, hC2⟩ : ∃ C2, C2 = (C1.toList.take (r * 2) ++ [Value.int .i64 a, .int .u64 (b : Int)] ++ C1.toList.drop (r * 2 + 2)).toArray := ⟨_, rfl⟩
  have hg1 : (w.drew.setRow g C1).heap[g]? = some (.cells C1 57 (0, 0)) := setRow_heap w.drew g cur C1 57 (0, 0) hg
  have hcp2 : ∀ ty dc, (Builtin.copy_ #[25, 25] ty #[.slice (some ⟨g, r * 2, none⟩) (L.length + 1 - r) dc, .slice (some ⟨gv, 0, none⟩) 1 1]).run Tryd.prog (w.drew.setRow g C1) = .ok (goInt (Nat.min 1 (L.length + 1 - r))) ((w.drew.setRow g C1).setRow g C2) := fun ty dc => by
    rw [hC2]
    refine run_copy2 (w.drew.setRow g C1) ty g (r * 2) (L.length + 1 - r) dc ⟨gv, 0, none⟩ 1 1 C1 57 [Value.int .i64 a, .int .u64 (b : Int)] hg1 ?_ ?_ ?_ ?_
    · rw [show Nat.min 1 (L.length + 1 - r) = 1 from by simp only [Nat.min_def]; split <;> omega]; rfl
    · intro j u hj
      rw [Go.WideShapes.add_plain, cell_setRow_other _ _ _ _ hgv0, World.cell?_drew, cell_of_row w gv (0 + j) _ 57 (0, 0) hgv, Nat.zero_add]
      simpa using hj
    · simp; omega
    · intro u hu; simp at hu; rcases hu with rfl | rfl <;> rfl
  have hfin : ((w.drew.setRow g C1).setRow g C2).ownsRow base 57 2 (.slice (some ⟨g, 0, none⟩) (L.length + 1) cap) (L.take r ++ (a, b) :: L.drop r).length (flat (L.take r ++ (a, b) :: L.drop r)) := by
    have hlen : (L.take r ++ (a, b) :: L.drop r).length = L.length + 1 := by simp; omega
    refine ⟨by rw [flat_length], .inr ⟨g, cap, C2, by rw [hlen], hb0, setRow_heap _ g C1 C2 57 (0, 0) hg1, by omega, hm, ?_, ?_⟩⟩
    · rw [hC2]; simp [hC1s]; omega
    · rw [hlen, hC2, hC1]
      have := shift_list cur.toList (flat L) [Value.int .i64 a, .int .u64 (b : Int)] L.length r rfl hfl ht (by simp [hcs]; omega) hr
      refine this.trans ?_
      rw [flat_append, flat_take]
      simp only [flat, flat_drop, List.append_assoc, List.cons_append, List.nil_append]
  have hgrow : w.grownBy ((w.drew.setRow g C1).setRow g C2) (some g) := ((drew_grown w (some g)).trans (setRow_grown w.drew g C1)).trans (setRow_grown _ g C2)
  have HF := Lib.hid hfin
  have HGr := Lib.hid hgrow
  have HC1 := Lib.hid hcp1
  have HC2 := Lib.hid hcp2
  clear hC1 hC2 hfin hgrow hcp1 hcp2 hg1 hC1s hg hgv ht hcs hfl
  have hw1 : IntKind.i64.wrap ((r : Int) + 1) = (r : Int) + 1 := IntWalk.i64_in _ (by omega)
  have hb1 : (0 : Int) ≤ (r : Int) + 1 := by omega
  have htn : ((r : Int) + 1).toNat = r + 1 := by omega
  have hne : ¬ ((r : Int) = (L.length : Int)) := by omega
  have hb2 : ¬ (cap = r + 1) := by omega
  have hb3 : (r : Int) ≤ (L.length : Int) + 1 := by omega
  have hb4 : ¬ (cap = r) := by omega
  have hb5 : r ≤ L.length := by omega
  have hb6 : ((r : Int) == (L.length : Int)) = false := by simp; omega
  unfold maxLen at hm
  go_enter Tryd.func25, Tryd.ntmps25
  go_wp2_with (simp only [hov])
  have hc1 := HC1.out
  go_region
  clear hc1
  have hc2 := HC2.out
  go_wp2
  go_ret
  exact ⟨_, rfl, HF.out, HGr.out, .inl rfl⟩
end Go.Proofs.YtkkkglmjipnfaaaDoor
