/-
  What coil's reader returns and leaves at Int, Bytes, End, NewReader; and of a nil reader.
-/
import Derived.Test.YtcafanekckkdoaaRdr
namespace Go.Proofs.Ytcafanekckkdoaa
open Go.RowKit

set_option maxHeartbeats 400000 in
theorem end_any (w : World) (g : Nat) (l : List Nat) (f : Int) (h : Rdr w g l f) :
    Calls Try.prog 23 #[.pointer (some ⟨g, 0, none⟩)] w fun e w' => e = .returned (.int .i64 (if f = 0 then (if l = [] then 0 else 4) else f)) ∧ w = w' := by
  have H := Lib.hid h
  clear h
  by_cases hf : f = 0
  · rw [if_pos hf]
    subst hf
    by_cases hl : l = []
    · rw [if_pos hl]
      subst hl
      go_enter Try.func23, Try.ntmps23
      go_wp2_with fail
      refine (fault_any _ _ _ _ H.out).mono ?_
      rintro e w1 ⟨rfl, rfl⟩
      go_wp2_with fail
      refine (left_any _ _ _ _ H.out).mono ?_
      rintro e w1 ⟨rfl, rfl⟩
      go_wp2
      go_ret
      exact ⟨rfl, rfl⟩
    · rw [if_neg hl]
      have hp : 0 < l.length := List.length_pos_iff.2 hl
      clear hl
      go_enter Try.func23, Try.ntmps23
      go_wp2_with fail
      refine (fault_any _ _ _ _ H.out).mono ?_
      rintro e w1 ⟨rfl, rfl⟩
      go_wp2_with fail
      refine (left_any _ _ _ _ H.out).mono ?_
      rintro e w1 ⟨rfl, rfl⟩
      go_wp2
      go_ret
      exact ⟨rfl, rfl⟩
  · rw [if_neg hf]
    have hf2 : (f != 0) = true := by simp; exact hf
    clear hf
    go_enter Try.func23, Try.ntmps23
    go_wp2_with fail
    refine (fault_any _ _ _ _ H.out).mono ?_
    rintro e w1 ⟨rfl, rfl⟩
    go_wp2
    go_ret
    exact ⟨rfl, rfl⟩

/-- A slice that reads as the bytes l, wherever it lies. -/
def Src (w : World) (A : Option Addr) (l : List Nat) : Prop :=
  (A = none → l = []) ∧ ∀ ad, A = some ad → ∀ j u, (l.map B)[j]? = some u → w.cell? (ad.add j) = some u

/-- A row of the call's own, as a source. -/
theorem Src.own {w : World} {base : Nat} {v : Value} {l : List Nat} {k : Nat} (h : w.ownsRow base 5 1 v k (l.map B)) : ∃ A c, v = .slice A l.length c ∧ l.length ≤ c ∧ Src w A l ∧ (A = none ∨ ∃ g, A = some ⟨g, 0, none⟩ ∧ g < w.heap.size ∧ base ≤ g) := by
  have hl : l.length = k := by simpa using h.1
  have hcc := fun g hg => h.cells (g := g) hg
  have hlt := h.lt
  rcases h.2 with ⟨rfl, h0⟩ | ⟨g, cap, cur, rfl, hb, hh, hnc, hmx, hs, ht⟩
  · have : l = [] := List.eq_nil_of_length_eq_zero (by omega)
    subst this
    exact ⟨none, 0, rfl, by simp, ⟨fun _ => rfl, fun ad h => by cases h⟩, .inl rfl⟩
  · refine ⟨some ⟨g, 0, none⟩, cap, by rw [hl], by omega, ⟨(fun h => by cases h), fun ad had j u hu => ?_⟩, .inr ⟨g, rfl, (hlt g rfl).2, hb⟩⟩
    injection had with had
    subst had
    exact hcc g rfl j u hu

set_option maxHeartbeats 400000 in
theorem clone_any (w : World) (A : Option Addr) (c : Nat) (l : List Nat) (h : Src w A l) (hl : l.length ≤ 1048576000) :
    Calls Try.prog 26 #[.slice A l.length c] w fun e w' => ∃ A' c', e = .returned (.slice A' l.length c') ∧ w'.ownsRow w.heap.size 5 1 (.slice A' l.length c') l.length (l.map B) ∧ Below w.heap.size w w' := by
  obtain ⟨i0, hi0, hz0, hz1, hz2⟩ := info_parts info5
  obtain ⟨h1, h2⟩ := h
  rcases A with _ | ad
  · have := h1 rfl
    subst this
    have hq := fun W => Lib.run_eql_slice_nil (P := Try.prog) W 22 5 none 0 c 0 0 Try.underlying22
    go_enter Try.func26, Try.ntmps26
    go_wp2
    go_ret
    exact ⟨none, 0, rfl, World.ownsRow_nil _ _ _ _, Below.refl _ _⟩
  · have hsrc := h2 ad rfl
    have Hs := Lib.hid hsrc
    clear h1 h2 hsrc
    have hq := fun W => Lib.run_eql_slice_nil (P := Try.prog) W 22 5 (some ad) l.length c 0 0 Try.underlying22
    go_enter Try.func26, Try.ntmps26
    go_wp2_with (first | (at_builtin; refine wpList_append_own_at _ rfl (.tmp 5) (.tmp 6) 22 rfl w.heap.size 5 i0 (.int .u8 0) 1 1 Try.underlying22 hi0 hz0 hz1 hz2 rfl (by decide) (.slice (some ⟨w.heap.size, 0, none⟩) 0 0) 0 [] rfl ?d1 ad l.length c (l.map B) rfl ?c1 ?c2 ?c3 ?c4 ?c5 ?c6 ?_))
    case d1 => exact World.ownsRow_made w #[] 0 (Nat.le_refl _) (by unfold maxLen; omega) rfl
    case c1 => simp
    case c2 =>
      intro j u hu
      have := Hs.out j u hu
      rw [World.cell?_alloc_lt w _ _ (World.block_lt_of_cell? w _ this)]
      exact this
    case c3 => exact B_one _
    case c4 => unfold maxLen; omega
    case c5 => omega
    case c6 => simp
    intro v' w1 hown hg _ hat
    go_wp2
    go_ret
    obtain ⟨A', c', hv, _⟩ := Src.own hown
    rw [hv] at hown
    refine ⟨A', c', congrArg Ending.returned hv, hown, ((Below.refl _ _).alloc (Nat.le_refl _) _).grown hg (by simp) (fun k hk => ?_)⟩
    simp [Value.ownBlock] at hk
    omega

theorem Rdr.of_own {w : World} {base : Nat} {v : Value} {l : List Nat} {k : Nat} (h : w.ownsRow base 5 1 v k (l.map B)) (hl : l.length ≤ 1048576000) (hby : ∀ x ∈ l, x < 256) :
    Rdr (w.alloc (.cells #[v, .int .i64 0] 56)) w.heap.size l 0 := by
  obtain ⟨A, c, rfl, hc, hs, hA⟩ := Src.own h
  refine ⟨A, c, Blk.new _ _ _, hc, hl, hby, fun hp => ?_⟩
  rcases hA with rfl | ⟨g, rfl, hg, _⟩
  · have := hs.1 rfl
    subst this
    simp at hp
  · refine ⟨g, 0, rfl, by omega, fun j hj => ?_⟩
    have := hs.2 ⟨g, 0, none⟩ rfl j (B (l.getD j 0)) (by simp [List.getD, hj])
    have hp : (⟨g, 0, none⟩ : Addr).add j = ⟨g, 0 + j, none⟩ := by unfold Addr.add; split <;> simp_all
    rw [hp] at this
    rw [World.cell?_alloc_lt w _ _ hg]
    exact this

set_option maxHeartbeats 400000 in
theorem new_any (w : World) (A : Option Addr) (c : Nat) (l : List Nat) (h : Src w A l) (hl : l.length ≤ 1048576000) (hby : ∀ x ∈ l, x < 256) :
    Calls Try.prog 12 #[.slice A l.length c] w fun e w' => ∃ g, e = .returned (.pointer (some ⟨g, 0, none⟩)) ∧ Rdr w' g l 0 ∧ Below w.heap.size w w' ∧ w.heap.size ≤ g := by
  have H := Lib.hid h
  have Hb := Lib.hid hby
  clear h hby
  go_enter Try.func12, Try.ntmps12
  go_wp2_with fail
  refine (clone_any _ _ _ _ H.out hl).mono ?_
  rintro e w1 ⟨A', c', rfl, hown, hb⟩
  have Hown := Lib.hid hown
  have HB := Lib.hid hb
  clear hown hb
  go_wp2
  go_ret
  exact ⟨w1.heap.size, rfl, Rdr.of_own Hown.out hl Hb.out, HB.out.alloc HB.out.size _, HB.out.size⟩
end Go.Proofs.Ytcafanekckkdoaa
