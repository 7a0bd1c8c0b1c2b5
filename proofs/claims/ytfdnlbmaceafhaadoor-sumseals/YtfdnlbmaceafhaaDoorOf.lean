/-
  What sum.Of and the reference's Sum return, for every slice of bytes that reads so, where the table 'lines' holds its sixteen numbers.
-/
import Derived.Test.YtfdnlbmaceafhaaDoorWords
import Derived.Deep.CutRange
namespace Go.Proofs.YtfdnlbmaceafhaaDoor
open Go.RowKit

/-- The table holds its numbers. -/
def Tab (w : World) : Prop := ∀ i, i < 16 → w.cell? ⟨0, i, none⟩ = some (.int .u32 ((tab.getD i 0 : Nat) : Int))
theorem Tab.old {w w' : World} (h : Tab w) (hb : Below w.heap.size w w') : Tab w' := fun i hi =>
  (World.cell?_of_block (hb.block 0 (World.block_lt_of_cell? w ⟨0, i, none⟩ (h i hi)))).trans (h i hi)

theorem Src.at_ {w : World} {A : Option Addr} {l : List Nat} (h : Src w A l) (hp : 0 < l.length) : ∃ b o, A = some ⟨b, o, none⟩ ∧ ∀ k, k < l.length → w.cell? ⟨b, o + k, none⟩ = some (B (l.getD k 0)) := by
  rcases A with _ | ⟨b, o, spot⟩
  · have := h.1 rfl
    subst this
    simp at hp
  · have hc : ∀ k, k < l.length → w.cell? ((⟨b, o, spot⟩ : Addr).add k) = some (B (l.getD k 0)) := fun k hk => h.2 _ rfl k _ (by simp [List.getD, hk])
    have hspot : spot = none := by simpa [Addr.add] using World.cell?_spot (hc 0 hp)
    subst hspot
    exact ⟨b, o, rfl, fun k hk => by rw [← Go.WideShapes.add_plain]; exact hc k hk⟩

theorem xor_top (r : BitVec 32) (x : Nat) (hx : x < 256) : bits .xor .u32 (r.toNat : Int) ((x : Int) * 16777216) = ((r ^^^ top x).toNat : Int) := by
  have hr := r.isLt
  have h := u32_xor_nat r.toNat (x * 16777216) (by omega) (by omega)
  rw [show ((x * 16777216 : Nat) : Int) = (x : Int) * 16777216 from by omega] at h
  rw [h, BitVec.toNat_xor, top_toNat x hx]
theorem nib_facts {w : World} (hT : Tab w) (r : BitVec 32) :
    ((r.toNat : Int) / 268435456 < 16) ∧ w.cell? ⟨0, r.toNat / 268435456, none⟩ = some (.int .u32 ((tab[r.toNat / 268435456]?.getD 0 : Nat) : Int)) ∧
      bits .xor .u32 ((r.toNat : Int) * 16 % 4294967296) ((tab[r.toNat / 268435456]?.getD 0 : Nat) : Int) = ((steps 4 r).toNat : Int) := by
  have hr := r.isLt
  rw [← List.getD_eq_getElem?_getD]
  refine ⟨by omega, hT _ (by omega), ?_⟩
  have ht : ∀ i : Fin 16, tab.getD i.val 0 < 4294967296 := by decide
  have ht1 := ht ⟨r.toNat / 268435456, by omega⟩
  simp only at ht1
  have h := u32_xor_nat (r.toNat * 16 % 4294967296) (tab.getD (r.toNat / 268435456) 0) (by omega) ht1
  rw [show ((r.toNat : Int) * 16) % 4294967296 = ((r.toNat * 16 % 4294967296 : Nat) : Int) from by omega, h, steps_nib, BitVec.toNat_xor, BitVec.toNat_shiftLeft, BitVec.toNat_ofNat, Nat.shiftLeft_eq, Nat.mod_eq_of_lt (a := tab.getD (r.toNat / 268435456) 0) (by omega)]

set_option maxRecDepth 20000 in
set_option maxHeartbeats 1000000 in
theorem of_any (A : Option Addr) (c : Nat) (l : List Nat) (w : World) (hT : Tab w) (h : Src w A l) (hl : l.length ≤ 1048576000) (hby : ∀ x ∈ l, x < 256) :
    Calls Tryd.prog 10 #[.slice A l.length c] w fun e w' => e = .returned (.int .u32 ((crc ones l).toNat : Int)) ∧ w = w' := by
  have HT := Lib.hid hT
  have HS := Lib.hid h
  have Hby := Lib.hid hby
  clear hT h hby
  go_enter Tryd.func10, Tryd.ntmps10
  go_wp2
  go_loop [3, 8] (fun r i => ∃ k : Nat, k ≤ l.length ∧ i = .int .i64 k ∧ r = .int .u32 ((crc ones (l.take k)).toNat : Int)) (fun _ i => l.length - (intOf i).toNat)
  case atStart => exact ⟨0, Nat.zero_le _, rfl, rfl⟩
  case round =>
    obtain ⟨k, hk, rfl, rfl⟩ := hrel
    by_cases hlt : k < l.length
    · obtain ⟨b, o, rfl, hc⟩ := HS.out.at_ (by omega)
      have hcell := hc k hlt
      have hx2 := Hby.out (l.getD k 0) (by simp [hlt])
      have Hts : Hid (l.take (k + 1) = l.take k ++ [l.getD k 0]) := by
        show _ = _
        rw [List.take_succ_eq_append_getElem hlt]; simp [hlt]
      clear hc
      generalize l.getD k 0 = x at *
      generalize hr : crc ones (l.take k) = r at *
      have Hr := Lib.hid hr
      clear hr
      unfold B at hcell
      have e1 := xor_top r x hx2
      obtain ⟨hi1, hc1, e2⟩ := nib_facts HT.out (r ^^^ top x)
      obtain ⟨hi2, hc2, e3⟩ := nib_facts HT.out (steps 4 (r ^^^ top x))
      have Hend : Hid (steps 4 (steps 4 (r ^^^ top x)) = stepC r x) := by show _ = _; unfold stepC; rw [← steps_add]
      generalize r ^^^ top x = r1 at *
      generalize steps 4 r1 = r2 at *
      go_wp2
      go_round
      case rel =>
        refine ⟨k + 1, by omega, by go_num, ?_⟩
        rw [Hts.out, crc_append, Hr.out]
        show _ = Value.int .u32 ((stepC r x).toNat : Int)
        rw [← Hend.out]
      case measure => simp [intOf]; omega
    · go_wp2
      go_ret
      rw [show l.take k = l from List.take_of_length_le (by omega)]
      exact ⟨rfl, rfl⟩
end Go.Proofs.YtfdnlbmaceafhaaDoor
