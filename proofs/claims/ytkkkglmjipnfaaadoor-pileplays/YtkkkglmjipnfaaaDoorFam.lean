/-
  Some sets beside one another, the newest first; what the calls leave of them.
-/
import Derived.Test.YtkkkglmjipnfaaaDoorJn
namespace Go.Proofs.YtkkkglmjipnfaaaDoor
open Go.RowKit
set_option linter.unusedVariables false

abbrev SetV := Nat × Value × Bks
/-- Sets that share nothing, made since the world w0; nothing older has turned. -/
structure St (w0 w : World) (fs : List SetV) : Prop where
  set : ∀ f ∈ fs, SetAt w w0.heap.size f.1 f.2.1 f.2.2
  apart : fs.Pairwise (fun f g => Apart f.1 f.2.1 g.1 g.2.1)
  below : Below w0.heap.size w0 w
theorem St.zero {w0 w : World} (h : Below w0.heap.size w0 w) : St w0 w [] := ⟨by simp, List.Pairwise.nil, h⟩
theorem St.old {w0 w w' : World} {fs : List SetV} (h : St w0 w fs) (hb : Below w.heap.size w w') : St w0 w' fs :=
  ⟨fun f hf => (h.set f hf).old hb, h.apart, h.below.trans (hb.mono h.below.size)⟩
theorem St.more {w0 w w' : World} {fs : List SetV} {g : Nat} {v : Value} {L : Bks} (h : St w0 w fs) (hb : Below w.heap.size w w') (hn : SetAt w' w.heap.size g v L) : St w0 w' ((g, v, L) :: fs) := by
  have ho := h.old hb
  refine ⟨fun f hf => ?_, List.pairwise_cons.2 ⟨fun f hf => ?_, ho.apart⟩, ho.below⟩
  · rcases List.mem_cons.1 hf with rfl | hf
    · exact hn.base_le h.below.size
    · exact ho.set f hf
  · have hs := h.set f hf
    have h1 := hs.lt
    have h2 := hn.hb
    refine ⟨by show g ≠ f.1; omega, ?_, ?_, ?_⟩
    · intro e; have := (hn.row_ge _ e).1; omega
    · intro e; have := (hs.row_ge _ e).2; show False; simp only at this; omega
    · intro q e1 e2; have h3 := (hn.row_ge _ e1).1; have h4 := (hs.row_ge _ e2).2; omega
theorem St.fresh {w0 w : World} {fs : List SetV} (h : St w0 w fs) : St w0 (w.alloc (.cells #[.slice none 0 0] 27)) ((w.heap.size, .slice none 0 0, []) :: fs) :=
  h.more ((Below.refl _ _).alloc (Nat.le_refl _) _) (SetAt.fresh (Nat.le_refl _))
theorem St.swap {w0 w : World} {a b : SetV} {fs : List SetV} (h : St w0 w (a :: b :: fs)) : St w0 w (b :: a :: fs) := by
  refine ⟨fun f hf => h.set f (by simp at hf ⊢; rcases hf with h | h | h <;> simp [h]), ?_, h.below⟩
  have h1 := List.pairwise_cons.1 h.apart
  have h2 := List.pairwise_cons.1 h1.2
  exact List.pairwise_cons.2 ⟨fun f hf => by
    rcases List.mem_cons.1 hf with rfl | hf
    · exact (h1.1 b (by simp)).symm
    · exact h2.1 f hf, List.pairwise_cons.2 ⟨fun f hf => h1.1 f (by simp [hf]), h2.2⟩⟩
theorem St.tail {w0 w : World} {a : SetV} {fs : List SetV} (h : St w0 w (a :: fs)) : St w0 w fs := ⟨fun f hf => h.set f (by simp [hf]), (List.pairwise_cons.1 h.apart).2, h.below⟩
/-- A set is turned: the others stay. -/
theorem St.turn {w0 w w' : World} {g : Nat} {v v' : Value} {L L' : Bks} {fs : List SetV} (h : St w0 w ((g, v, L) :: fs)) (hs : SetAt w' w0.heap.size g v' L') (ht : Touch w w' g v.ownBlock) (hv : v'.ownBlock = v.ownBlock ∨ ∃ k, v'.ownBlock = some k ∧ w.heap.size ≤ k) : St w0 w' ((g, v', L') :: fs) := by
  have h1 := List.pairwise_cons.1 h.apart
  have h0 := h.set (g, v, L) (by simp)
  refine ⟨fun f hf => ?_, List.pairwise_cons.2 ⟨fun f hf => ?_, h1.2⟩, ?_⟩
  · rcases List.mem_cons.1 hf with rfl | hf
    · exact hs
    · exact (h.set f (by simp [hf])).touch ht (h1.1 f hf)
  · exact Apart.grow (h.set f (by simp [hf])) (h1.1 f hf) hv
  · exact touch_below h.below ht (h.below.size) h0.hb (fun q hq => (h0.row_ge q hq).1)
theorem St.rd {w0 w : World} {fs : List SetV} (h : St w0 w fs) {f : SetV} (hf : f ∈ fs) (hl : f.2.2.length ≤ 10000) : ∃ A c, f.2.1 = .slice A f.2.2.length c ∧ Rd w (.pointer (some ⟨f.1, 0, none⟩)) A c f.2.2 ∧ Room A c f.2.2 ∧ (f.2.2 = [] → A = none) := by
  have hs := h.set f hf
  obtain ⟨A, c, hv, hr⟩ := hs.rd (by omega)
  refine ⟨A, c, hv, hr, ?_, fun e => ?_⟩
  · rw [hv] at hs; exact hs.room
  · have := hs.isNil e; rw [hv] at this; injection this
theorem st_copy {w0 w : World} {fs : List SetV} (h : St w0 w fs) {f : SetV} (hf : f ∈ fs) (hl : f.2.2.length ≤ 10000) :
    Calls Tryd.prog 14 #[.pointer (some ⟨f.1, 0, none⟩)] w fun e w' => ∃ g v, e = .returned (.pointer (some ⟨g, 0, none⟩)) ∧ St w0 w' ((g, v, f.2.2) :: fs) := by
  obtain ⟨A, c, hv, hr, hm, hn⟩ := h.rd hf hl
  refine (copy_any _ _ _ _ _ hr hn).mono ?_
  rintro e w' ⟨g, v, rfl, hs, hb⟩
  exact ⟨g, v, rfl, h.more hb hs⟩
theorem st_less {w0 w : World} {fs : List SetV} (h : St w0 w fs) {f1 f2 : SetV} (hf1 : f1 ∈ fs) (hf2 : f2 ∈ fs) (hl1 : f1.2.2.length ≤ 10000) (hl2 : f2.2.2.length ≤ 10000) :
    Calls Tryd.prog 18 #[.pointer (some ⟨f1.1, 0, none⟩), .pointer (some ⟨f2.1, 0, none⟩)] w fun e w' => ∃ g v, e = .returned (.pointer (some ⟨g, 0, none⟩)) ∧ St w0 w' ((g, v, lessF f2.2.2 f1.2.2) :: fs) := by
  obtain ⟨A, c, hv, hr, hm, hn⟩ := h.rd hf1 hl1
  obtain ⟨A2, c2, hv2, hr2, hm2, hn2⟩ := h.rd hf2 hl2
  refine (less_any _ _ _ _ _ _ _ _ _ hr hr2 hl1 hl2 hm2).mono ?_
  rintro e w' ⟨g, v, rfl, hs, hb⟩
  exact ⟨g, v, rfl, h.more hb hs⟩
theorem st_same {w0 w : World} {fs : List SetV} (h : St w0 w fs) {f1 f2 : SetV} (hf1 : f1 ∈ fs) (hf2 : f2 ∈ fs) (hl1 : f1.2.2.length ≤ 10000) (hl2 : f2.2.2.length ≤ 10000) :
    Calls Tryd.prog 16 #[.pointer (some ⟨f1.1, 0, none⟩), .pointer (some ⟨f2.1, 0, none⟩)] w fun e w' => e = .returned (.bool (decide (f1.2.2 = f2.2.2))) ∧ St w0 w' fs := by
  obtain ⟨A, c, hv, hr, hm, hn⟩ := h.rd hf1 hl1
  obtain ⟨A2, c2, hv2, hr2, hm2, hn2⟩ := h.rd hf2 hl2
  refine (same_any _ _ _ _ _ _ _ _ _ hr hr2).mono ?_
  rintro e w' ⟨rfl, hb⟩
  exact ⟨rfl, h.old hb⟩
theorem st_len {w0 w : World} {fs : List SetV} (h : St w0 w fs) {f : SetV} (hf : f ∈ fs) (hl : f.2.2.length ≤ 1000) :
    Calls Tryd.prog 22 #[.pointer (some ⟨f.1, 0, none⟩)] w fun e w' => e = .returned (.int .i64 (lenF f.2.2 : Nat)) ∧ St w0 w' fs := by
  obtain ⟨A, c, hv, hr, hm, hn⟩ := h.rd hf (by omega)
  refine (len_any _ _ _ _ _ hr hl).mono ?_
  rintro e w' ⟨rfl, hb⟩
  exact ⟨rfl, h.old hb⟩
theorem st_has {w0 w : World} {fs : List SetV} (h : St w0 w fs) {f : SetV} (hf : f ∈ fs) (hl : f.2.2.length ≤ 1000) (n : Int) (h1 : -9223372036854775808 ≤ n) (h2 : n ≤ 9223372036854775807) :
    Calls Tryd.prog 21 #[.pointer (some ⟨f.1, 0, none⟩), .int .i64 n] w fun e w' => e = .returned (.bool (has f.2.2 n)) ∧ St w0 w' fs := by
  obtain ⟨A, c, hv, hr, hm, hn⟩ := h.rd hf (by omega)
  refine (has_any _ _ _ _ _ _ hr h1 h2).mono ?_
  rintro e w' ⟨rfl, hb⟩
  exact ⟨rfl, h.old hb⟩
theorem st_key {w0 w : World} {fs : List SetV} (h : St w0 w fs) {f : SetV} (hf : f ∈ fs) (hl : f.2.2.length ≤ 1000) :
    Calls Tryd.prog 17 #[.pointer (some ⟨f.1, 0, none⟩)] w fun e w' => e = .returned (.string (str (kF f.2.2))) ∧ St w0 w' fs := by
  obtain ⟨A, c, hv, hr, hm, hn⟩ := h.rd hf (by omega)
  refine (key_any _ _ _ _ _ hr hl).mono ?_
  rintro e w' ⟨rfl, hb⟩
  exact ⟨rfl, h.old hb⟩
theorem st_all {w0 w : World} {fs : List SetV} (h : St w0 w fs) (hT : Tab w0) {f : SetV} (hf : f ∈ fs) (hl : f.2.2.length ≤ 1000) :
    Calls Tryd.prog 20 #[.pointer (some ⟨f.1, 0, none⟩)] w fun e w' => ∃ A c, e = .returned (.slice A (allF f.2.2).length c) ∧ IR w' A (allF f.2.2) ∧ Below w.heap.size w w' ∧ St w0 w' fs := by
  obtain ⟨A, c, hv, hr, hm, hn⟩ := h.rd hf (by omega)
  refine (all_any _ _ _ _ _ hr hl (hT.old h.below)).mono ?_
  rintro e w' hp
  obtain ⟨A3, c3, rfl, hI, _, hb3⟩ := hp.rd
  exact ⟨A3, c3, rfl, hI, hb3, h.old hb3⟩
theorem st_add {w0 w : World} {fs : List SetV} {g : Nat} {v : Value} {L : Bks} (h : St w0 w ((g, v, L) :: fs)) (hl : L.length ≤ 1000) (n : Int) (h1 : 0 ≤ n) (h2 : n ≤ 9223372036854775807) :
    Calls Tryd.prog 12 #[.pointer (some ⟨g, 0, none⟩), .int .i64 n] w fun e w' => e = .returned (.bool (!has L n)) ∧ ∃ v' L', St w0 w' ((g, v', L') :: fs) ∧ (∀ m, has L' m = (has L m || decide (m = n))) ∧ L'.length ≤ L.length + 1 := by
  have h0 := h.set (g, v, L) (by simp)
  refine (add_any _ _ _ _ _ _ h0 (by show L.length ≤ _; omega) h.below.size h1 h2).mono ?_
  rintro e w' ⟨rfl, v', L', hs, hh, hl', ht, hv⟩
  exact ⟨rfl, v', L', h.turn hs ht hv, hh, hl'⟩
theorem st_join {w0 w : World} {fs : List SetV} {g : Nat} {v : Value} {L : Bks} (h : St w0 w ((g, v, L) :: fs)) {f : SetV} (hf : f ∈ fs) (hl : L.length ≤ 10000) (hl2 : f.2.2.length ≤ 10000) :
    Calls Tryd.prog 13 #[.pointer (some ⟨g, 0, none⟩), .pointer (some ⟨f.1, 0, none⟩)] w fun e w' => e = .returned (.bool (lackF L f.2.2)) ∧ ∃ v', St w0 w' ((g, v', joinF L f.2.2) :: fs) := by
  have h0 := h.set (g, v, L) (by simp)
  have ha := (List.pairwise_cons.1 h.apart).1 f hf
  obtain ⟨A2, c2, hv2, hr2, hm2, hn2⟩ := h.rd (f := f) (by simp [hf]) hl2
  refine (join_any _ _ _ _ _ _ _ _ _ h0 hr2 (fun b o e => fun e2 => ha.r b e2 (by rw [hv2, e]; rfl)) hl hl2 h.below.size).mono ?_
  rintro e w' ⟨rfl, v', hs, ht, hv⟩
  exact ⟨rfl, v', h.turn hs ht hv⟩
/-- Join with nil. -/
theorem st_join_nil {w0 w : World} {fs : List SetV} {g : Nat} {v : Value} {L : Bks} (h : St w0 w ((g, v, L) :: fs)) (hl : L.length ≤ 10000) :
    Calls Tryd.prog 13 #[.pointer (some ⟨g, 0, none⟩), .pointer none] w fun e w' => e = .returned (.bool false) ∧ ∃ v', St w0 w' ((g, v', L) :: fs) := by
  have h0 := h.set (g, v, L) (by simp)
  refine (join_any _ _ _ _ _ _ _ _ _ h0 (Rd.nil w) (fun b o e => by cases e) hl (by simp) h.below.size).mono ?_
  rintro e w' ⟨rfl, v', hs, ht, hv⟩
  refine ⟨rfl, v', ?_⟩
  have hj : joinF L [] = L := by unfold joinF; rw [List.reverse_nil, joinR_nil, List.reverse_reverse]
  rw [hj] at hs
  exact h.turn hs ht hv
theorem st_of {w0 w : World} {fs : List SetV} (h : St w0 w fs) (A : Option Addr) (c : Nat) (l : List Int) (hI : IR w A l) (hl : l.length ≤ 1000) (hn : A = none → l = []) (hx : ∀ x ∈ l, -9223372036854775808 ≤ x ∧ x ≤ 9223372036854775807) :
    Calls Tryd.prog 19 #[.slice A l.length c] w fun e w' => ∃ g v L, e = .returned (.pointer (some ⟨g, 0, none⟩)) ∧ St w0 w' ((g, v, L) :: fs) ∧ (∀ m, has L m = inl l m) ∧ L.length ≤ l.length := by
  refine (of_any A c l w hI hl hn hx).mono ?_
  rintro e w' ⟨g, v, L, rfl, hs, hh, hll, hb⟩
  exact ⟨g, v, L, rfl, h.more hb hs, hh, hll⟩
theorem i64_of_wf {x : Int} (h : (Lit.int .i64 x).wf = true) : -9223372036854775808 ≤ x ∧ x ≤ 9223372036854775807 := by
  simpa [Lit.wf, IntKind.min, IntKind.max, IntKind.bits, IntKind.signed] using h
end Go.Proofs.YtkkkglmjipnfaaaDoor
