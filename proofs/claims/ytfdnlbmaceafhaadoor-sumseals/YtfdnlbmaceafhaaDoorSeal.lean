/-
  What sum.Seal, the reference's Seal and bytes.Clone return: new slices that read as said.
-/
import Derived.Test.YtfdnlbmaceafhaaDoorAwake
import Derived.Laws.MakeOwn
namespace Go.Proofs.YtfdnlbmaceafhaaDoor
open Go.RowKit

/-- A new slice that reads as the bytes l. -/
def Fresh (w : World) (l : List Nat) (e : Ending) (w' : World) : Prop :=
  ∃ A c, e = .returned (.slice A l.length c) ∧ w'.ownsRow w.heap.size 5 1 (.slice A l.length c) l.length (l.map B) ∧ Below w.heap.size w w'

theorem run_make0 (n : Nat) (hn : n ≤ 1048576000) (w : World) :
    (Instr.makeSlice 22 (.int .i64 0) (.int .i64 (n : Int))).run Tryd.prog w = .ok (.slice (some ⟨w.heap.size, 0, none⟩) 0 n) (w.alloc (.cells (madeCells (Value.int .u8 0).cells n) 5)) := by
  obtain ⟨i0, hi0, hi1, hi2, hi3⟩ := info_parts info5
  have hr := run_make (P := Tryd.prog) w 22 5 i0 (.int .u8 0) Tryd.underlying22 hi0 hi1 .i64 .i64 0 n (by omega) (by omega) (by rw [hi3]; omega) (by omega)
  simp only [Int.toNat_natCast, hi2, Nat.mul_one] at hr
  exact hr

theorem four_cells (w : World) (r : BitVec 32) : ∀ j u, ((four r).map B)[j]? = some u →
    (w.alloc (.cells #[.int .u8 ((r.toNat : Int) / 16777216), .int .u8 ((r.toNat : Int) / 65536 % 256), .int .u8 ((r.toNat : Int) / 256 % 256), .int .u8 ((r.toNat : Int) % 256)] 5)).cell? ((⟨w.heap.size, 0, none⟩ : Addr).add j) = some u := by
  intro j u hj
  have hp : (⟨w.heap.size, 0, none⟩ : Addr).add j = ⟨w.heap.size, j, none⟩ := by unfold Addr.add; split <;> simp_all
  rw [hp, World.cell?_alloc_at, ← Array.getElem?_toList]
  · exact hj
  · rfl

set_option maxHeartbeats 1000000 in
theorem seal_any (A : Option Addr) (c : Nat) (l : List Nat) (w : World) (hT : Tab w) (h : Src w A l) (hl : l.length ≤ 1000) (hby : ∀ x ∈ l, x < 256) :
    Calls Tryd.prog 12 #[.slice A l.length c] w (Fresh w (l ++ four (crc ones l))) := by
  obtain ⟨i0, hi0, hi1, hi2, hi3⟩ := info_parts info5
  have HT := Lib.hid hT
  have HS := Lib.hid h
  have Hby := Lib.hid hby
  have hmk := run_make0 (l.length + 4) (by omega)
  rw [show ((l.length + 4 : Nat) : Int) = (l.length : Int) + 4 from by omega] at hmk
  have O1 : Hid (∀ w : World, (w.alloc (.cells (madeCells (Value.int .u8 0).cells (l.length + 4)) 5)).ownsRow w.heap.size 5 1 (.slice (some ⟨w.heap.size, 0, none⟩) 0 (l.length + 4)) 0 []) := by
    intro w
    exact World.ownsRow_made w _ _ (Nat.le_refl _) (by unfold maxLen; omega) (by simp [madeCells, Value.cells])
  clear hT h hby
  go_enter Tryd.func12, Tryd.ntmps12
  go_wp2_with (at_builtin; refine wpList_append_any _ rfl (.tmp 9) (.tmp 10) 22 rfl w.heap.size 5 i0 (.int .u8 0) 1 1 Tryd.underlying22 hi0 hi1 hi2 hi3 rfl (by decide) (.slice (some ⟨w.heap.size, 0, none⟩) 0 (l.length + 4)) 0 [] rfl (O1.out w) _ A l.length c (l.map B) rfl ((HS.out.old ((Below.refl _ _).alloc (Nat.le_refl _) _)).reads) (B_one _) (by unfold maxLen; omega) (by omega) (by simp) ?_; intro v2 w2 hown2 hg2 hat2; have O2 := Lib.hid hown2; have G2 := Lib.hid hg2; clear hown2 hg2 hat2)
  clear hmk
  have HB2 : Hid (Below w.heap.size w w2) := by
    refine Below.grown ((Below.refl w.heap.size w).alloc (Nat.le_refl _) _) G2.out (by simp) ?_
    intro k hk
    simp [Value.ownBlock] at hk
    omega
  refine (of_any _ _ _ _ (HT.out.old HB2.out) (HS.out.old HB2.out) (by omega) Hby.out).mono ?_
  rintro e w3 ⟨rfl, rfl⟩
  generalize crc ones l = r at *
  have hr := r.isLt
  have Hr := Lib.hid hr
  clear hr
  go_wp2_with (at_builtin; refine wpList_append_own_at _ rfl (.tmp 14) (.tmp 26) 22 rfl w.heap.size 5 i0 (.int .u8 0) 1 1 Tryd.underlying22 hi0 hi1 hi2 hi3 rfl (by decide) v2 (0 + l.length) ([] ++ l.map B) rfl (O2.out.alloc _) ⟨w2.heap.size, 0, none⟩ 4 4 ((four r).map B) rfl rfl ?c1 ?c2 ?c3 ?c4 ?c5 ?_)
  case c1 => exact four_cells w2 r
  case c2 => exact B_one _
  case c3 => unfold maxLen; omega
  case c4 => omega
  case c5 => have := HB2.out.size; simp; omega
  intro v3 w4 hown3 hg3 _ _
  have hl4 : (l ++ four r).length = l.length + 4 := by rw [List.length_append, four_len]
  obtain ⟨A3, c3, hv, _⟩ := Src.own (l := l ++ four r) (by rw [List.map_append]; exact hown3)
  go_wp2
  go_ret
  refine ⟨A3, c3, congrArg Ending.returned hv, ?_, (HB2.out.alloc HB2.out.size _).grown hg3 (by have := HB2.out.size; simp; omega) (fun k hk => (O2.out.lt k hk).1)⟩
  rw [← hv, hl4, List.map_append]
  exact hown3
end Go.Proofs.YtfdnlbmaceafhaaDoor
