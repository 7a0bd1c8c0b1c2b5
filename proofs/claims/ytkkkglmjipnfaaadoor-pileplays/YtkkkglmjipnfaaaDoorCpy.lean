/-
  What near and Copy leave.
-/
import Derived.Test.YtkkkglmjipnfaaaDoorTwo
namespace Go.Proofs.YtkkkglmjipnfaaaDoor
open Go.RowKit
set_option linter.unusedVariables false

/-- A number that may be. -/
def nearF (n : Int) : Nat := (n % 18446744073709551616).toNat % 400
theorem near_any (n : Int) (w : World) (h1 : -9223372036854775808 ≤ n) (h2 : n ≤ 9223372036854775807) :
    Calls Tryd.prog 11 #[.int .i64 n] w fun e w' => e = .returned (.int .i64 (nearF n : Nat)) ∧ w = w' := by
  have E : Hid (wrap64 ((IntKind.u64.wrap n).tmod 400) = ((nearF n : Nat) : Int)) := by
    show _ = _
    rw [IntKind.wrap_u64, Int.tmod_eq_emod_of_nonneg (by omega)]
    unfold wrap64 nearF
    omega
  go_enter Tryd.func11, Tryd.ntmps11
  go_wp2
  go_ret
  exact ⟨congrArg (fun z => Ending.returned (.int .i64 z)) E.out, rfl⟩
theorem nearF_lt (n : Int) : nearF n < 400 := Nat.mod_lt _ (by decide)

theorem flat_cells {w : World} {b o : Nat} {L : Bks} (hc : ∀ k, k < L.length → w.cell? ⟨b, o + k * 2, none⟩ = some (.int .i64 (L.getD k (0, 0)).1) ∧ w.cell? ⟨b, o + k * 2 + 1, none⟩ = some (.int .u64 ((L.getD k (0, 0)).2 : Int))) :
    ∀ j u, (flat L)[j]? = some u → w.cell? ((⟨b, o, none⟩ : Addr).add j) = some u := by
  intro j u hu
  have hj : j < L.length * 2 := by
    rcases Nat.lt_or_ge j (L.length * 2) with h | h
    · exact h
    · rw [List.getElem?_eq_none (by rw [flat_length]; exact h)] at hu; cases hu
  have hp : (⟨b, o, none⟩ : Addr).add j = ⟨b, o + j, none⟩ := by unfold Addr.add; split <;> simp_all
  rw [hp]
  obtain ⟨f1, f2⟩ := flat_get L (j / 2) (by omega)
  obtain ⟨c1, c2⟩ := hc (j / 2) (by omega)
  rcases Nat.mod_two_eq_zero_or_one j with h | h
  · rw [show j / 2 * 2 = j from by omega] at f1 c1
    rw [c1, ← f1, hu]
  · rw [show j / 2 * 2 + 1 = j from by omega] at f2
    rw [show o + j / 2 * 2 + 1 = o + j from by omega] at c2
    rw [c2, ← f2, hu]

set_option maxRecDepth 20000 in
set_option maxHeartbeats 1000000 in
theorem cloneB_any (A : Option Addr) (c : Nat) (L : Bks) (w : World) (h : BR w A L) (hl : L.length ≤ 100000) (hn : L = [] → A = none) :
    Calls Tryd.prog 29 #[.slice A L.length c] w fun e w' => ∃ v', e = .returned v' ∧ w'.ownsRow w.heap.size 57 2 v' L.length (flat L) ∧ (L = [] → v' = .slice none 0 0) ∧ Below w.heap.size w w' := by
  obtain ⟨i0, hi0, hz0, hz1, hz2⟩ := info_parts info57
  rcases Nat.eq_zero_or_pos L.length with h0 | h0
  · have e : L = [] := List.eq_nil_of_length_eq_zero h0
    obtain rfl := hn e
    subst e
    clear h
    have hq := fun W => Lib.run_eql_slice_nil (P := Tryd.prog) W 25 57 none 0 c 0 0 Tryd.underlying25
    go_enter Tryd.func29, Tryd.ntmps29
    go_wp2
    go_ret
    exact ⟨_, rfl, World.ownsRow_nil _ _ _ _, rfl, Below.refl _ _⟩
  · obtain ⟨b, o, rfl, hc⟩ := h h0
    have HF := Lib.hid (flat_cells hc)
    have HN : Hid (L ≠ []) := fun e => by rw [e] at h0; simp at h0
    obtain ⟨n, hnl⟩ : ∃ n, n = L.length := ⟨_, rfl⟩
    have HFL : Hid ((flat L).length = n * 2) := by show _ = _; rw [flat_length, hnl]
    have HNL := Lib.hid hnl
    rw [← hnl] at hl h0 ⊢
    clear hc h hn hnl
    have hq := fun W => Lib.run_eql_slice_nil (P := Tryd.prog) W 25 57 (some ⟨b, o, none⟩) n c 0 0 Tryd.underlying25
    go_enter Tryd.func29, Tryd.ntmps29
    go_wp2_with (first | (at_builtin; refine wpList_append_own_at _ rfl (.tmp 5) (.tmp 6) 25 rfl w.heap.size 57 i0 (.agg #[.int .i64 0, .int .u64 0]) 2 16 Tryd.underlying25 hi0 hz0 hz1 hz2 rfl (by decide) (.slice (some ⟨w.heap.size, 0, none⟩) 0 0) 0 [] rfl ?d1 ⟨b, o, none⟩ n c (flat L) rfl ?c1 ?c2 ?c3 ?c4 ?c5 ?c6 ?_))
    case d1 => exact World.ownsRow_made w #[] 0 (Nat.le_refl _) (by unfold maxLen; omega) rfl
    case c1 => exact HFL.out
    case c2 =>
      intro j u hu
      have := HF.out j u hu
      rw [World.cell?_alloc_lt w _ _ (World.block_lt_of_cell? w _ this)]
      exact this
    case c3 => exact flat_one L
    case c4 => unfold maxLen; omega
    case c5 => omega
    case c6 => simp
    intro v' w1 hown hg _ hat
    have HO : Hid (w1.ownsRow w.heap.size 57 2 v' n (flat L)) := by
      show w1.ownsRow _ _ _ _ _ _
      simpa using hown
    have HB := Lib.hid (((Below.refl w.heap.size w).alloc (Nat.le_refl _) (.cells #[] 57)).grown hg (by simp) (fun k hk => by simp [Value.ownBlock] at hk; omega))
    clear hown hg hat
    go_wp2
    go_ret
    exact ⟨_, rfl, HO.out, fun e => absurd e HN.out, HB.out⟩

/-- What Copy leaves: a set of the call's own. -/
def CopyPost (L : Bks) (w : World) (e : Ending) (w' : World) : Prop :=
  ∃ g v, e = .returned (.pointer (some ⟨g, 0, none⟩)) ∧ SetAt w' w.heap.size g v L ∧ Below w.heap.size w w'

set_option maxHeartbeats 400000 in
theorem copy_any (p : Value) (A : Option Addr) (c : Nat) (L : Bks) (w : World) (h : Rd w p A c L) (hn : L = [] → A = none) :
    Calls Tryd.prog 14 #[p] w (CopyPost L w) := by
  have HR := Lib.hid h
  clear h
  go_enter Tryd.func14, Tryd.ntmps14
  go_wp2_with fail
  refine (list_any _ _ _ _ _ HR.out).mono ?_
  rintro e w1 ⟨rfl, rfl⟩
  go_wp2_with fail
  refine (cloneB_any _ _ _ _ HR.out.row HR.out.len hn).mono ?_
  rintro e w1 ⟨v, rfl, hO, hN, hB⟩
  obtain ⟨A', c', rfl⟩ := owns_slice hO
  have HO := Lib.hid hO
  have HN := Lib.hid hN
  have HB := Lib.hid hB
  clear hO hN hB
  go_wp2
  go_ret
  exact ⟨_, _, rfl, ⟨HB.out.size, heap_alloc_new w1 _, HO.out.alloc _, HN.out, (fun e => by have := HO.out.lt _ e; omega), HR.out.good⟩, HB.out.alloc HB.out.size _⟩
end Go.Proofs.YtkkkglmjipnfaaaDoor
