/-
  Changes of what a copy has: what they leave.
-/
import Derived.Test.YtpjoggefklohjaaCf
import Derived.Test.YtpjoggefklohjaaQm
namespace Go.Proofs.Ytpjoggefklohjaa
open Go.RowKit
set_option linter.unusedVariables false

/-- Numbers and texts of blocks from 'base' on that were there in w7 may be others; all else is as in W0. -/
structure Drift (base : Nat) (w7 W0 W : World) : Prop where
  bel : Below base W0 W
  hi : ∀ k, w7.heap.size ≤ k → W.heap[k]? = W0.heap[k]?
  ints : ∀ b o K x, w7.cell? ⟨b, o, none⟩ = some (.int K x) → ∃ y, W.cell? ⟨b, o, none⟩ = some (.int K y)
  slices : ∀ b o A n c, w7.cell? ⟨b, o, none⟩ = some (.slice A n c) → W.cell? ⟨b, o, none⟩ = some (.slice A n c)
  strs : ∀ b o s, w7.cell? ⟨b, o, none⟩ = some (.string s) → ∃ s', W.cell? ⟨b, o, none⟩ = some (.string s')
  stay : Stay w7 W
theorem Drift.first {base : Nat} {w7 W0 : World} (h : Below w7.heap.size w7 W0) : Drift base w7 W0 W0 :=
  ⟨⟨rfl, rfl, rfl, Nat.le_refl _, fun _ _ => rfl⟩, fun _ _ => rfl, fun b o K x hx => ⟨x, cell_old h (World.block_lt_of_cell? w7 ⟨b, o, none⟩ hx) hx⟩, fun b o A n c hx => cell_old h (World.block_lt_of_cell? w7 ⟨b, o, none⟩ hx) hx, fun b o s hx => ⟨s, cell_old h (World.block_lt_of_cell? w7 ⟨b, o, none⟩ hx) hx⟩, Stay.old h⟩
theorem Drift.setInt {base : Nat} {w7 W0 W : World} (h : Drift base w7 W0 W) {b o : Nat} {K : IntKind} {x : Int} (hc : w7.cell? ⟨b, o, none⟩ = some (.int K x)) (hb : base ≤ b) (y : Int) : Drift base w7 W0 (W.setCell ⟨b, o, none⟩ (.int K y)) := by
  have hl := World.block_lt_of_cell? w7 ⟨b, o, none⟩ hc
  obtain ⟨y0, hy⟩ := h.ints b o K x hc
  refine ⟨h.bel.setCell (p := ⟨b, o, none⟩) hb _, fun k hk => (Below.heap_setCell W ⟨b, o, none⟩ _ k (fun e => by have e' : k = b := e; omega)).trans (h.hi k hk), fun b' o' K' x' hx => ?_, fun b' o' A n c hx => ?_, fun b' o' s' hx => ?_, h.stay.trans (Stay.set_ W ⟨b, o, none⟩ rfl _)⟩
  · by_cases he : (⟨b, o, none⟩ : Addr) = ⟨b', o', none⟩
    · rw [he] at hc hy ⊢
      rw [hx] at hc
      injection hc with hc
      injection hc with hc1 hc2
      subst hc1
      exact ⟨y, World.cell?_setCell_same W _ _ hy⟩
    · obtain ⟨z, hz⟩ := h.ints b' o' K' x' hx
      exact ⟨z, (World.cell?_setCell_other W _ _ _ he).trans hz⟩
  · by_cases he : (⟨b, o, none⟩ : Addr) = ⟨b', o', none⟩
    · rw [he, hx] at hc
      cases hc
    · exact (World.cell?_setCell_other W _ _ _ he).trans (h.slices b' o' A n c hx)
  · by_cases he : (⟨b, o, none⟩ : Addr) = ⟨b', o', none⟩
    · rw [he, hx] at hc
      cases hc
    · obtain ⟨z, hz⟩ := h.strs b' o' s' hx
      exact ⟨z, (World.cell?_setCell_other W _ _ _ he).trans hz⟩
theorem Drift.setStr {base : Nat} {w7 W0 W : World} (h : Drift base w7 W0 W) {b o : Nat} {s : ByteArray} (hc : w7.cell? ⟨b, o, none⟩ = some (.string s)) (hb : base ≤ b) (y : ByteArray) : Drift base w7 W0 (W.setCell ⟨b, o, none⟩ (.string y)) := by
  have hl := World.block_lt_of_cell? w7 ⟨b, o, none⟩ hc
  refine ⟨h.bel.setCell (p := ⟨b, o, none⟩) hb _, fun k hk => (Below.heap_setCell W ⟨b, o, none⟩ _ k (fun e => by have e' : k = b := e; omega)).trans (h.hi k hk), fun b' o' K' x' hx => ?_, fun b' o' A n c hx => ?_, fun b' o' s' hx => ?_, h.stay.trans (Stay.set_ W ⟨b, o, none⟩ rfl _)⟩
  · by_cases he : (⟨b, o, none⟩ : Addr) = ⟨b', o', none⟩
    · rw [he, hx] at hc
      cases hc
    · obtain ⟨z, hz⟩ := h.ints b' o' K' x' hx
      exact ⟨z, (World.cell?_setCell_other W _ _ _ he).trans hz⟩
  · by_cases he : (⟨b, o, none⟩ : Addr) = ⟨b', o', none⟩
    · rw [he, hx] at hc
      cases hc
    · exact (World.cell?_setCell_other W _ _ _ he).trans (h.slices b' o' A n c hx)
  · obtain ⟨z, hz⟩ := h.strs b' o' s' hx
    by_cases he : (⟨b, o, none⟩ : Addr) = ⟨b', o', none⟩
    · rw [he]
      exact ⟨y, World.cell?_setCell_same W _ _ hz⟩
    · exact ⟨z, (World.cell?_setCell_other W _ _ _ he).trans hz⟩
/-- A cell of a row that may be changed, in a world behind changes. -/
theorem Drift.int {base : Nat} {w7 W0 W : World} (h : Drift base w7 W0 W) {b o : Nat} {K : IntKind} {x : Int} (hc : w7.cell? ⟨b, o, none⟩ = some (.int K x)) {T : Nat} {cs : Array Value} (hB : Blk w7 b T cs) : ∃ y, W.cell? ⟨b, o, none⟩ = some (.int K y) ∧ W.frozen? ⟨b, o, none⟩ = false ∧ b < W.heap.size := by
  obtain ⟨y, hy⟩ := h.ints b o K x hc
  obtain ⟨cs', hB'⟩ := h.stay b T cs hB
  exact ⟨y, hy, hB'.frozen o, hB'.lt⟩
theorem FnRow.fnsB {w : World} {base : Nat} {X : Nat → Prop} {A : Option Addr} {n c : Nat} {L : List Fn} (h : FnRow w base X (.slice A n c) L) (hX : ∀ k, X k → base ≤ k) : FnsS (fun k => base ≤ k) w A L := fun hp => by
  obtain ⟨q, rfl, _, hqb, _, _, _⟩ := h.at_ 0 hp
  refine ⟨q, 0, rfl, hqb, fun i hi => ?_⟩
  obtain ⟨q', hq', _, _, _, _, Al, cl, At, ct, Ab, cb, r1, r2, r3, hc⟩ := h.at_ i hi
  injection hq' with hq'
  injection hq' with hq'
  subst hq'
  refine ⟨[.int .i64 L[i].name, .int .i64 L[i].params, .slice Al L[i].locals.length cl, .slice At L[i].sites.length ct, .slice Ab L[i].body.len cb], ⟨Al, cl, At, ct, Ab, cb, rfl, r1.below (fun k hk => hX k hk.2), r2.below (fun k hk => hX k hk.2), r3.kept (fun _ _ _ => rfl) (fun k hk _ => hX k hk.2)⟩, fun j u hj => by rw [Nat.zero_add]; exact hc j u hj⟩
/-- A module that was made is read the same where all from the call's own blocks on is the same. -/
theorem MkPost.apart {w w' : World} {M : Md} {e : Ending} (h : MkPost w M e w') : ∃ As cs Ag cg Af cf Ae ce, e = .returned (.agg #[.slice As M.strs.length cs, .slice Ag M.globs.length cg, .slice Af M.funcs.length cf, .slice Ae M.ents.length ce]) ∧ (∀ W, (∀ k, w.heap.size ≤ k → k < w'.heap.size → W.heap[k]? = w'.heap[k]?) → MdR W As Ag Af Ae M) ∧ Below w.heap.size w w' := by
  obtain ⟨Al, cl, A2, c2, Ax, cx, Ae, ce, rfl, h1, h2, h3, h4, hb⟩ := h
  refine ⟨Al, cl, A2, c2, Ax, cx, Ae, ce, rfl, fun W hW => ?_, hb⟩
  have hk : Kept (fun k => w.heap.size ≤ k) w' W := fun k hk hlt => hW k hk hlt
  exact ⟨(RdS.own h1).kept hk (fun _ _ _ => trivial) (by omega), (RdS.own h2).kept hk (fun _ _ _ => trivial) (by omega), (h3.fnsB (fun _ h => h)).kept hk (fun _ _ _ => trivial), (RdS.own h4).kept hk (fun _ _ _ => trivial) (by omega)⟩
end Go.Proofs.Ytpjoggefklohjaa
