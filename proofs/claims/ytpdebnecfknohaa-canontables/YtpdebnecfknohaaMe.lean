
/-
  What the last two loops of the reference's Make keep.
-/
import Derived.Test.YtpdebnecfknohaaMj
namespace Go.Proofs.Ytpdebnecfknohaa
open Go.RowKit
set_option linter.unusedVariables false
set_option maxRecDepth 20000

/-- While the entries are gathered: B3 is how many blocks there were. -/
structure MkE (w wr : World) (D Z : Array Value) (B3 : Nat) (S : List (List UInt8)) (gl : List Int) (L : List Fn) (En : List Int) (As : Option Addr) (ns cs : Nat) (Ag : Option Addr) (ng cg : Nat) (Af : Option Addr) (i cf : Nat) (Ae : Option Addr) (ne ce : Nat) : Prop where
  bel : Below w.heap.size w wr
  bd : Blk wr w.heap.size 24 D
  bz : Blk wr (w.heap.size + 1) 30 Z
  bm : Blk wr (w.heap.size + 1 + 1) 30 #[.slice As ns cs, .slice Ag ng cg, .slice Af i cf, .slice Ae ne ce]
  lens : S.length = ns ∧ gl.length = ng ∧ L.length = i ∧ En.length = ne
  os : wr.ownsRow (w.heap.size + 1 + 1 + 1) 9 1 (.slice As ns cs) ns (strV S)
  og : wr.ownsRow (w.heap.size + 1 + 1 + 1) 3 1 (.slice Ag ng cg) ng (intV gl)
  ogq : ∀ k, some k = (Value.slice Ag ng cg).ownBlock → k < B3
  oe : wr.ownsRow B3 3 1 (.slice Ae ne ce) ne (intV En)
  fr : FnRow wr (w.heap.size + 1 + 1 + 1) (fun k => some k ≠ (Value.slice As ns cs).ownBlock ∧ w.heap.size + 1 + 1 + 1 ≤ k ∧ k < B3) (.slice Af i cf) L
  frq : ∀ k, some k = (Value.slice Af i cf).ownBlock → k < B3
  nob : ∀ k, some k = (Value.slice Af i cf).ownBlock → ∀ t, t < i → wr.cell? ⟨k, t * 5 + 4, none⟩ = some (.slice none 0 0)
  b3 : w.heap.size + 1 + 1 + 1 ≤ B3 ∧ B3 ≤ wr.heap.size

section
variable {w wr : World} {D Z : Array Value} {B3 : Nat} {S : List (List UInt8)} {gl : List Int} {L : List Fn} {En : List Int} {As : Option Addr} {ns cs : Nat} {Ag : Option Addr} {ng cg : Nat} {Af : Option Addr} {i cf : Nat} {Ae : Option Addr} {ne ce : Nat}
theorem MkI.ents (h : MkI w wr D Z S gl L As ns cs Ag ng cg Af i cf) : MkE w wr D Z wr.heap.size S gl L [] As ns cs Ag ng cg Af i cf none 0 0 := by
  have zm := h.bm.lt
  refine ⟨h.bel, h.bd, h.bz, h.bm, ⟨h.lens.1, h.lens.2.1, h.lens.2.2, rfl⟩, h.os, h.og, fun k hk => (h.og.lt k hk.symm).2, ⟨rfl, .inl ⟨rfl, rfl⟩⟩, ?_, fun k hk => (h.fr.blk k hk).2.1, h.nob, by omega, Nat.le_refl _⟩
  exact h.fr.kept (fun _ _ => rfl) (fun _ _ _ => rfl) (fun k hk hlt => ⟨hk.1, hk.2, hlt⟩)
/-- An entry more. -/
theorem MkE.addEnt (h : MkE w wr D Z B3 S gl L En As ns cs Ag ng cg Af i cf Ae ne ce) (hl : ne ≤ 10000) (x : Int) :
    ∃ q5 c5 w5, (Builtin.append_ #[27, 27] 27 #[.slice Ae ne ce, .slice (some ⟨wr.heap.size, 0, none⟩) 1 1]).run Try.prog (wr.alloc (.cells #[.int .i64 x] 3)) = .ok (.slice (some ⟨q5, 0, none⟩) (ne + 1) c5) w5 ∧ w5.cell? ⟨w.heap.size + 1 + 1, 3, none⟩ = some (.slice Ae ne ce) ∧ w5.frozen? ⟨w.heap.size + 1 + 1, 3, none⟩ = false ∧
      Hid (MkE w (w5.setCell ⟨w.heap.size + 1 + 1, 3, none⟩ (.slice (some ⟨q5, 0, none⟩) (ne + 1) c5)) D Z B3 S gl L (En ++ [x]) As ns cs Ag ng cg Af i cf (some ⟨q5, 0, none⟩) (ne + 1) c5) := by
  obtain ⟨hb1, hb2⟩ := h.b3
  have zm := h.bm.lt
  obtain ⟨q5, c5, w5, hr, a1, a2, a3, a4, HO⟩ := row_step (j := 3) 3 27 8 (.int .i64 0) Try.underlying27 info3 rfl (by decide) (.int .i64 x) rfl (Below.refl _ wr) h.bm (by decide) rfl h.oe (by omega) (by omega)
  have O := HO.out
  have old : ∀ k, k < B3 → k ≠ w.heap.size + 1 + 1 → (w5.setCell ⟨w.heap.size + 1 + 1, 3, none⟩ (.slice (some ⟨q5, 0, none⟩) (ne + 1) c5)).heap[k]? = wr.heap[k]? := fun k hk hne => O.kept k (by omega) hne (fun e => by have := (h.oe.lt k e.symm).1; omega)
  have hkk : ∀ k, some k = (Value.slice Af i cf).ownBlock → (w5.setCell ⟨w.heap.size + 1 + 1, 3, none⟩ (.slice (some ⟨q5, 0, none⟩) (ne + 1) c5)).heap[k]? = wr.heap[k]? := fun k hk => old k (h.frq k hk) (by have := (h.fr.blk k hk).1; omega)
  have hsz := O.size
  refine ⟨q5, c5, w5, hr, a3, a4, ⟨O.bel _ _ h.bel (by omega) (by omega) (by omega), (old _ (by omega) (by omega)).trans h.bd, (old _ (by omega) (by omega)).trans h.bz, O.box, ⟨h.lens.1, h.lens.2.1, h.lens.2.2.1, by simp [h.lens.2.2.2]⟩, O.row h.oe h.bm h.os (by decide) (by decide), own_blocks h.og (fun k hk => old k (h.ogq k hk) (by have := (h.og.lt k hk.symm).1; omega)), h.ogq, by rw [intV_snoc]; exact O.own, ?_, h.frq, fun k hk t ht => (World.cell?_of_block (hkk k hk)).trans (h.nob k hk t ht), hb1, by omega⟩⟩
  exact h.fr.kept hkk (fun k hk _ => old k hk.2.2 (by have := hk.2.1; omega)) (fun k hk _ => hk)
end

/-- Statements in a row: the cells of one, as it lies. -/
def StS (X : Nat → Prop) (w : World) (cs : List Value) (s : St7) : Prop := ∃ va A c, cs = [.int .u8 s.k, .int .u8 s.a.1, .int .i64 s.a.2, .int .u8 s.b.1, .int .i64 s.b.2, va, .slice A s.sub.len c] ∧ ArgsS X w va s.xs ∧ BodyS X w A s.sub
theorem StS.kept {S S' : Nat → Prop} {w w' : World} {cs : List Value} {s : St7} (h : StS S w cs s) (hk : Kept S w w') (hS : ∀ k, S k → k < w.heap.size → S' k) : StS S' w' cs s := by
  obtain ⟨va, A, c, h1, h2, h3⟩ := h
  exact ⟨va, A, c, h1, h2.kept hk hS, h3.kept hk hS⟩
/-- A body of these. -/
def bdOf : List St7 → Bd
  | [] => .nil
  | s :: l => s.ahead (bdOf l)
theorem bdOf_len : ∀ l : List St7, (bdOf l).len = l.length
  | [] => rfl
  | s :: l => by simp [bdOf, St7.ahead, Bd.len, bdOf_len l]
/-- A row of statements of the call's own, whose parts lie in blocks of the kind X. -/
structure BdRow (w : World) (base : Nat) (X : Nat → Prop) (v : Value) (T : List St7) : Prop where
  own : ∃ css : List (List Value), w.ownsRow base 50 7 v T.length css.flatten ∧ css.length = T.length ∧ ∀ i (h : i < T.length), ∃ cs, css[i]? = some cs ∧ StS X w cs T[i]
theorem BdRow.nil (w : World) (base : Nat) (X : Nat → Prop) : BdRow w base X (.slice none 0 0) [] := ⟨[], ⟨rfl, .inl ⟨rfl, rfl⟩⟩, rfl, fun i h => by simp at h⟩
theorem BdRow.kept {w w' : World} {base : Nat} {X X' : Nat → Prop} {v : Value} {T : List St7} (h : BdRow w base X v T) (hv : ∀ k, some k = v.ownBlock → w'.heap[k]? = w.heap[k]?) (hk : Kept X w w') (hX : ∀ k, X k → k < w.heap.size → X' k) : BdRow w' base X' v T := by
  obtain ⟨css, h1, h2, h3⟩ := h.own
  refine ⟨css, own_blocks h1 hv, h2, fun i hi => ?_⟩
  obtain ⟨cs, e, hf⟩ := h3 i hi
  exact ⟨cs, e, hf.kept hk hX⟩
theorem BdRow.blk {w : World} {base : Nat} {X : Nat → Prop} {v : Value} {T : List St7} (h : BdRow w base X v T) : ∀ k, some k = v.ownBlock → base ≤ k ∧ k < w.heap.size ∧ ∃ cur, Blk w k 50 cur := fun k hk => by
  obtain ⟨css, h1, _, _⟩ := h.own
  rcases h1.2 with ⟨rfl, _⟩ | ⟨q, cap, cur, rfl, hq, hh, _⟩
  · simp [Value.ownBlock] at hk
  · have : k = q := by simpa [Value.ownBlock] using hk
    subst this
    exact ⟨hq, heap_ltM hh, cur, hh⟩
/-- It reads as a body. -/
theorem bdS_row {S : Nat → Prop} {w : World} {b : Nat} (hb : S b) : ∀ (T : List St7) (css : List (List Value)) (o : Nat), (∀ i (h : i < T.length), ∃ cs, css[i]? = some cs ∧ StS S w cs T[i]) → (∀ j u, css.flatten[j]? = some u → w.cell? ⟨b, o + j, none⟩ = some u) → BdS S w b o (bdOf T)
  | [], _, _, _, _ => trivial
  | s :: T, [], _, h, _ => by obtain ⟨cs, e, _⟩ := h 0 (by simp); simp at e
  | s :: T, c :: css, o, h, hc => by
    have h00 := h 0 (by simp)
    simp only [List.getElem_cons_zero] at h00
    obtain ⟨cs, e, va, A, cc, hcs, h1, h2⟩ := h00
    have e : c = cs := by simpa using e
    subst e
    subst hcs
    have g : ∀ j u, ([.int .u8 s.k, .int .u8 s.a.1, .int .i64 s.a.2, .int .u8 s.b.1, .int .i64 s.b.2, va, .slice A s.sub.len cc] : List Value)[j]? = some u → w.cell? ⟨b, o + j, none⟩ = some u := fun j u hj => hc j u (by
      rw [List.flatten_cons, List.getElem?_append_left ((List.getElem?_eq_some_iff.1 hj).1)]; exact hj)
    refine ⟨hb, ⟨g 0 _ rfl, g 1 _ rfl, g 2 _ rfl, g 3 _ rfl, g 4 _ rfl⟩, ⟨va, g 5 _ rfl, h1⟩, ⟨A, cc, g 6 _ rfl, h2⟩, ?_⟩
    refine bdS_row hb T css (o + 7) (fun i hi => ?_) (fun j u hj => ?_)
    · obtain ⟨cs, e, hs⟩ := h (i + 1) (by simpa using hi)
      exact ⟨cs, by simpa using e, by simpa using hs⟩
    · rw [Nat.add_assoc, Nat.add_comm 7 j, ← Nat.add_assoc]
      exact hc (j + 7) u (by rw [List.flatten_cons, List.getElem?_append_right (by simp)]; simpa using hj)
theorem BdRow.body {w : World} {base : Nat} {X S : Nat → Prop} {A : Option Addr} {n c : Nat} {T : List St7} (h : BdRow w base X (.slice A n c) T) (hX : ∀ k, X k → k < w.heap.size → S k) (hS : ∀ k, some k = (Value.slice A n c).ownBlock → S k) : BodyS S w A (bdOf T) ∧ n = (bdOf T).len := by
  obtain ⟨css, h1, h2, h3⟩ := h.own
  rw [bdOf_len]
  rcases h1.2 with ⟨e, h0⟩ | ⟨q, cap, cur, e, hq, hh, hc⟩
  · injection e with e1 e2 e3
    refine ⟨fun hp => ?_, by omega⟩
    rw [bdOf_len] at hp
    omega
  · injection e with e1 e2 e3
    subst e1; subst e2; subst e3
    refine ⟨fun hp => ⟨q, 0, rfl, bdS_row (hS q rfl) T css 0 (fun i hi => ?_) (fun j u hj => ?_)⟩, rfl⟩
    · obtain ⟨cs, e, hs⟩ := h3 i hi
      exact ⟨cs, e, hs.kept (fun _ _ _ => rfl) hX⟩
    · have := h1.cells (g := q) rfl j u hj
      rwa [Go.WideShapes.add_plain] at this
theorem info50 : (Try.prog.info? 50).map (fun i => (i.zero, i.size, i.bytes)) = some (some (.agg #[.int .u8 0, .int .u8 0, .int .i64 0, .int .u8 0, .int .i64 0, .slice none 0 0, .slice none 0 0]), 7, 88) := by kernel_rfl
end Go.Proofs.Ytpdebnecfknohaa
