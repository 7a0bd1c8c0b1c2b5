/-
  What Join leaves.
-/
import Derived.Test.YtkkkglmjipnfaaaDoorMg
namespace Go.Proofs.YtkkkglmjipnfaaaDoor
open Go.RowKit
set_option linter.unusedVariables false

set_option maxHeartbeats 400000 in
theorem join_nil (q : Value) (w : World) : Calls Tryd.prog 13 #[.pointer none, q] w fun e w' => e = .returned (.bool false) ∧ w = w' := by
  go_enter Tryd.func13, Tryd.ntmps13
  go_wp2
  go_ret
  exact ⟨rfl, rfl⟩

/-- What Join leaves. -/
def JoinPost (base g : Nat) (v : Value) (L T : Bks) (w : World) (e : Ending) (w' : World) : Prop :=
  e = .returned (.bool (lackF L T)) ∧ ∃ v', SetAt w' base g v' (joinF L T) ∧ Touch w w' g v.ownBlock ∧ (v'.ownBlock = v.ownBlock ∨ ∃ k, v'.ownBlock = some k ∧ w.heap.size ≤ k)
theorem SetAt.drew {w : World} {base g : Nat} {v : Value} {L : Bks} (h : SetAt w base g v L) : SetAt w.drew base g v L := h.old (Below.refl _ _).drew
theorem Rd.drew {w : World} {p : Value} {A : Option Addr} {c : Nat} {L : Bks} (h : Rd w p A c L) : Rd w.drew p A c L := h.old (Below.refl _ _).drew

set_option maxRecDepth 20000 in
set_option maxHeartbeats 2000000 in
theorem join_any (base g : Nat) (v q : Value) (B : Option Addr) (d : Nat) (L T : Bks) (w : World) (hS : SetAt w base g v L) (hR : Rd w q B d T) (hne : ∀ b o, B = some ⟨b, o, none⟩ → v.ownBlock ≠ some b) (hl : L.length ≤ 10000) (ht : T.length ≤ 10000) (hB : base ≤ w.heap.size) :
    Calls Tryd.prog 13 #[.pointer (some ⟨g, 0, none⟩), q] w (JoinPost base g v L T w) := by
  obtain ⟨A, c, rfl, hbr, _⟩ := hS.slice
  have hrm := hS.room
  have hcg : w.drew.cell? ⟨g, 0, none⟩ = some (.slice A L.length c) := by rw [World.cell?_drew, cell_of_row w g 0 _ 27 (0, 0) hS.blk]; rfl
  have H27 : Hid (Calls Tryd.prog 27 #[q] w.drew fun e w' => e = .returned (.slice B T.length d) ∧ w.drew = w') := list_any _ _ _ _ _ hR.drew
  have H26 : Hid (Calls Tryd.prog 26 #[.slice A L.length c, .slice B T.length d] w.drew fun e w' => e = .returned (.tuple #[.bool (lackF L T), .int .i64 ((newF L T : Nat) : Int)]) ∧ Below w.heap.size w w') :=
    (lacks_any A B c d L T w.drew hS.good hR.good (hbr.old (Below.refl _ _).drew) hR.drew.row hl ht hrm.le (by unfold maxLen; have := hrm.max; omega) hrm.shape).mono (by rintro e w' ⟨rfl, hb⟩; exact ⟨rfl, (Below.refl _ w).drew.trans hb⟩)
  have HS := Lib.hid hS
  have HR := Lib.hid hR
  have HNE := Lib.hid hne
  clear hS hR hbr hrm hne
  go_enter Tryd.func13, Tryd.ntmps13
  go_upto_region 3 with (fail)
  go_region_law (first | (go_simp; go_at_call 27; refine H27.out.mono ?_; rintro e w' ⟨rfl, rfl⟩) | (go_simp; go_at_call 26; refine H26.out.mono ?_; rintro e w2 ⟨rfl, hb2⟩))
  all_goals
    have HB2 := Lib.hid hb2
    have HS2 := Lib.hid (HS.out.old hb2)
    have HR2 := Lib.hid (HR.out.old hb2)
    clear hb2
    cases hlk : lackF L T
    · have HE := Lib.hid (lackF_not HS.out.good HR.out.good hlk)
      have HLK := Lib.hid hlk
      clear hlk
      go_wp2
      go_ret
      exact ⟨by rw [HLK.out]; rfl, _, by rw [HE.out]; exact HS2.out, touch_of_below _ _ HB2.out, .inl rfl⟩
    · have HLK := Lib.hid hlk
      have hT0 : 0 < T.length := by
        cases T with
        | nil => simp [lackF] at hlk
        | cons p T => simp
      obtain ⟨b0, o0, hB0, _⟩ := HR.out.row hT0
      subst hB0
      clear hlk
      have hcg2 : w2.drew.cell? ⟨g, 0, none⟩ = some (.slice A L.length c) := by rw [World.cell?_drew, cell_of_row w2 g 0 _ 27 (0, 0) HS2.out.blk]; rfl
      have H27b : Hid (Calls Tryd.prog 27 #[q] w2.drew fun e w' => e = .returned (.slice (some ⟨b0, o0, none⟩) T.length d) ∧ w2.drew = w') := list_any _ _ _ _ _ HR2.out.drew
      have H28 : Hid (Calls Tryd.prog 28 #[.slice A L.length c, .slice (some ⟨b0, o0, none⟩) T.length d, .int .i64 ((newF L T : Nat) : Int)] w2.drew (MergePost base (.slice A L.length c) L T w2.drew)) :=
        merge_any base _ L T b0 o0 d w2.drew HS.out.good HR.out.good HS2.out.drew.own HR2.out.drew.row (HNE.out _ _ rfl) hT0 hl ht (Nat.le_trans hB HB2.out.size)
      go_upto_region 5 with (fail)
      go_region_law (first | (go_simp; go_at_call 27; refine H27b.out.mono ?_; rintro e w' ⟨rfl, rfl⟩) | (go_simp; go_at_call 28; refine H28.out.mono ?_; rintro e w3 ⟨v3, rfl, hO3, hG3, hat3⟩; obtain ⟨A3, c3, rfl⟩ := owns_slice hO3; have hbk3 := grown_blk hG3 HS2.out.drew.blk HS2.out.ne; have hcg3 : w3.cell? ⟨g, 0, none⟩ = some (.slice A L.length c) := (cell_of_row w3 g 0 _ 27 (0, 0) hbk3).trans rfl; have hfz3 : w3.frozen? ⟨g, 0, none⟩ = false := by simp [World.frozen?, hbk3]))
      all_goals
        have hne3 : (Value.slice A3 (joinF L T).length c3).ownBlock ≠ some g := by
          rcases hat3 with h | ⟨k, h, hk⟩
          · rw [h]; exact HS2.out.ne
          · rw [h]; intro e; injection e with e; have := HS2.out.lt; subst e; exact absurd hk (by simp; omega)
        have HSF := Lib.hid (set_field hbk3 hO3 hne3)
        have HG3 := Lib.hid hG3
        have HAT := Lib.hid hat3
        have HNE3 := Lib.hid hne3
        clear hO3 hG3 hat3 hne3 hbk3
        go_wp2
        go_ret
        refine ⟨by rw [HLK.out]; rfl, _, ⟨HS2.out.hb, HSF.out.1, HSF.out.2, (fun h => ?_), HNE3.out, joinF_good HS.out.good HR.out.good⟩, ?_, ?_⟩
        · exfalso
          have h1 := joinR_len2 L.reverse T.reverse
          have h2 := congrArg List.length h
          unfold joinF at h2
          rw [List.length_reverse, List.length_nil] at h2
          rw [List.length_reverse] at h1
          omega
        · refine ⟨HG3.out.os.trans HB2.out.os, HG3.out.tape.trans HB2.out.tape, HG3.out.output.trans HB2.out.output, ?_, fun k hk hkg hkv => ?_⟩
          · have h1 := HG3.out.size
            have h2 := HB2.out.size
            simp [World.setCell] at *
            omega
          · rw [setCell_other _ _ _ _ _ hkg, HG3.out.block k (Nat.lt_of_lt_of_le hk HB2.out.size) hkv]
            exact HB2.out.block k hk
        · rcases HAT.out with h | ⟨k, h, hk⟩
          · exact .inl h
          · exact .inr ⟨k, h, Nat.le_trans HB2.out.size hk⟩
end Go.Proofs.YtkkkglmjipnfaaaDoor
