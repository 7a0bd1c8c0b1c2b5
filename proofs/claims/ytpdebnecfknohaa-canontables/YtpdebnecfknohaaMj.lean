
/-
  What the loops of the reference's Make keep, while a function is made.
-/
import Derived.Test.YtpdebnecfknohaaRw
namespace Go.Proofs.Ytpdebnecfknohaa
open Go.RowKit
set_option linter.unusedVariables false
set_option maxRecDepth 20000

theorem strV_snoc (l : List (List UInt8)) (x : List UInt8) : strV (l ++ [x]) = strV l ++ [.string (bs x)] := by simp [strV]
theorem intV_snoc (l : List Int) (x : Int) : intV (l ++ [x]) = intV l ++ [.int .i64 x] := by simp [intV]

/-- While a function is made: the draft's box, the result's, the module's, the function's, and their rows. -/
structure MkJ (w wr : World) (D Z : Array Value) (q9 : Nat) (S : List (List UInt8)) (gl : List Int) (L : List Fn) (f0 f1 : Int) (loc sit : List Int) (As : Option Addr) (ns cs : Nat) (Ag : Option Addr) (ng cg : Nat) (Af : Option Addr) (i cf : Nat) (Al : Option Addr) (nl cl : Nat) (At : Option Addr) (nt ct : Nat) : Prop where
  bel : Below w.heap.size w wr
  bd : Blk wr w.heap.size 24 D
  bz : Blk wr (w.heap.size + 1) 30 Z
  bm : Blk wr (w.heap.size + 1 + 1) 30 #[.slice As ns cs, .slice Ag ng cg, .slice Af i cf, .slice none 0 0]
  bf : Blk wr q9 40 #[.int .i64 f0, .int .i64 f1, .slice Al nl cl, .slice At nt ct, .slice none 0 0]
  lens : S.length = ns ∧ gl.length = ng ∧ L.length = i ∧ loc.length = nl ∧ sit.length = nt
  os : wr.ownsRow (w.heap.size + 1 + 1 + 1) 9 1 (.slice As ns cs) ns (strV S)
  og : wr.ownsRow (w.heap.size + 1 + 1 + 1) 3 1 (.slice Ag ng cg) ng (intV gl)
  ogq : ∀ k, some k = (Value.slice Ag ng cg).ownBlock → k < q9
  ol : wr.ownsRow q9 3 1 (.slice Al nl cl) nl (intV loc)
  ot : wr.ownsRow q9 3 1 (.slice At nt ct) nt (intV sit)
  ne : ∀ k, some k = (Value.slice Al nl cl).ownBlock → some k ≠ (Value.slice At nt ct).ownBlock
  fr : FnRow wr (w.heap.size + 1 + 1 + 1) (fun k => some k ≠ (Value.slice As ns cs).ownBlock ∧ w.heap.size + 1 + 1 + 1 ≤ k ∧ k < q9) (.slice Af i cf) L
  frq : ∀ k, some k = (Value.slice Af i cf).ownBlock → k < q9
  q9 : w.heap.size + 1 + 1 + 1 ≤ q9
  nob : ∀ k, some k = (Value.slice Af i cf).ownBlock → ∀ t, t < i → wr.cell? ⟨k, t * 5 + 4, none⟩ = some (.slice none 0 0)

section
variable {w wr : World} {D Z : Array Value} {q9 : Nat} {S : List (List UInt8)} {gl : List Int} {L : List Fn} {f0 f1 : Int} {loc sit : List Int} {As : Option Addr} {ns cs : Nat} {Ag : Option Addr} {ng cg : Nat} {Af : Option Addr} {i cf : Nat} {Al : Option Addr} {nl cl : Nat} {At : Option Addr} {nt ct : Nat}
/-- A string more. -/
theorem MkJ.addStr (h : MkJ w wr D Z q9 S gl L f0 f1 loc sit As ns cs Ag ng cg Af i cf Al nl cl At nt ct) (hl : ns ≤ 10000) (x : List UInt8) (w3 : World) (hb : Below wr.heap.size wr w3) :
    ∃ q5 c5 w5, (Builtin.append_ #[26, 26] 26 #[.slice As ns cs, .slice (some ⟨w3.heap.size, 0, none⟩) 1 1]).run Try.prog (w3.alloc (.cells #[.string (bs x)] 9)) = .ok (.slice (some ⟨q5, 0, none⟩) (ns + 1) c5) w5 ∧ w3.cell? ⟨w.heap.size + 1 + 1, 0, none⟩ = some (.slice As ns cs) ∧ w.heap.size + 1 + 1 < w3.heap.size ∧ w5.cell? ⟨w.heap.size + 1 + 1, 0, none⟩ = some (.slice As ns cs) ∧ w5.frozen? ⟨w.heap.size + 1 + 1, 0, none⟩ = false ∧
      Hid (MkJ w (w5.setCell ⟨w.heap.size + 1 + 1, 0, none⟩ (.slice (some ⟨q5, 0, none⟩) (ns + 1) c5)) D Z q9 (S ++ [x]) gl L f0 f1 loc sit (some ⟨q5, 0, none⟩) (ns + 1) c5 Ag ng cg Af i cf Al nl cl At nt ct) := by
  have hq := h.q9
  have zq := h.bf.lt
  obtain ⟨q5, c5, w5, hr, a1, a2, a3, a4, HO⟩ := row_step (j := 0) 9 26 16 (.string ⟨#[]⟩) Try.underlying26 info9 rfl (by decide) (.string (bs x)) rfl hb h.bm (by decide) rfl h.os (by omega) (by omega)
  have O := HO.out
  have hkk : ∀ k, some k = (Value.slice Af i cf).ownBlock → (w5.setCell ⟨w.heap.size + 1 + 1, 0, none⟩ (.slice (some ⟨q5, 0, none⟩) (ns + 1) c5)).heap[k]? = wr.heap[k]? := fun k hk => by
    obtain ⟨b1, b2, cur, b3⟩ := h.fr.blk k hk
    exact (O.blk h.os b3 (by omega) (by decide)).trans b3.symm
  refine ⟨q5, c5, w5, hr, a1, a2, a3, a4, ⟨O.bel _ _ h.bel (by omega) (by omega) (by omega), O.blk h.os h.bd (by omega) (by decide), O.blk h.os h.bz (by omega) (by decide), O.box, O.blk h.os h.bf (by omega) (by decide), ⟨by simp [h.lens.1], h.lens.2⟩, by rw [strV_snoc]; exact O.own, O.row h.os h.bm h.og (by decide) (by decide), h.ogq, O.row h.os h.bm h.ol (by decide) (by decide), O.row h.os h.bm h.ot (by decide) (by decide), h.ne, ?_, h.frq, hq, fun k hk t ht => (World.cell?_of_block (hkk k hk)).trans (h.nob k hk t ht)⟩⟩
  refine h.fr.kept hkk (fun k hk hlt => O.kept k hlt (by omega) hk.1) (fun k hk hlt => ⟨fun e => ?_, hk.2⟩)
  rcases O.fresh k e with e | e
  · exact hk.1 e
  · omega
/-- A local more. -/
theorem MkJ.addLoc (h : MkJ w wr D Z q9 S gl L f0 f1 loc [] As ns cs Ag ng cg Af i cf Al nl cl none 0 0) (hl : nl ≤ 10000) (x : Int) :
    ∃ q5 c5 w5, (Builtin.append_ #[27, 27] 27 #[.slice Al nl cl, .slice (some ⟨wr.heap.size, 0, none⟩) 1 1]).run Try.prog (wr.alloc (.cells #[.int .i64 x] 3)) = .ok (.slice (some ⟨q5, 0, none⟩) (nl + 1) c5) w5 ∧ w5.cell? ⟨q9, 2, none⟩ = some (.slice Al nl cl) ∧ w5.frozen? ⟨q9, 2, none⟩ = false ∧
      Hid (MkJ w (w5.setCell ⟨q9, 2, none⟩ (.slice (some ⟨q5, 0, none⟩) (nl + 1) c5)) D Z q9 S gl L f0 f1 (loc ++ [x]) [] As ns cs Ag ng cg Af i cf (some ⟨q5, 0, none⟩) (nl + 1) c5 none 0 0) := by
  have hq := h.q9
  have zq := h.bf.lt
  obtain ⟨q5, c5, w5, hr, a1, a2, a3, a4, HO⟩ := row_step (j := 2) 3 27 8 (.int .i64 0) Try.underlying27 info3 rfl (by decide) (.int .i64 x) rfl (Below.refl _ wr) h.bf (by decide) rfl h.ol (by omega) (by omega)
  have O := HO.out
  have old : ∀ k, k < q9 → (w5.setCell ⟨q9, 2, none⟩ (.slice (some ⟨q5, 0, none⟩) (nl + 1) c5)).heap[k]? = wr.heap[k]? := fun k hk => O.kept k (by omega) (by omega) (fun e => by have := (h.ol.lt k e.symm).1; omega)
  refine ⟨q5, c5, w5, hr, a3, a4, ⟨O.bel _ _ h.bel (by omega) (by omega) (by omega), (old _ (by omega)).trans h.bd, (old _ (by omega)).trans h.bz, (old _ (by omega)).trans h.bm, O.box, ⟨h.lens.1, h.lens.2.1, h.lens.2.2.1, by simp [h.lens.2.2.2.1], rfl⟩, O.row h.ol h.bf h.os (by decide) (by decide), own_blocks h.og (fun k hk => old k (h.ogq k hk)), h.ogq, by rw [intV_snoc]; exact O.own, ⟨rfl, .inl ⟨rfl, rfl⟩⟩, fun k _ e => by simp [Value.ownBlock] at e, ?_, h.frq, hq, fun k hk t ht => (World.cell?_of_block (old k (h.frq k hk))).trans (h.nob k hk t ht)⟩⟩
  exact h.fr.kept (fun k hk => old k (h.frq k hk)) (fun k hk _ => old k hk.2.2) (fun k hk _ => hk)
/-- A site more. -/
theorem MkJ.addSit (h : MkJ w wr D Z q9 S gl L f0 f1 loc sit As ns cs Ag ng cg Af i cf Al nl cl At nt ct) (hl : nt ≤ 10000) (x : Int) :
    ∃ q5 c5 w5, (Builtin.append_ #[27, 27] 27 #[.slice At nt ct, .slice (some ⟨wr.heap.size, 0, none⟩) 1 1]).run Try.prog (wr.alloc (.cells #[.int .i64 x] 3)) = .ok (.slice (some ⟨q5, 0, none⟩) (nt + 1) c5) w5 ∧ w5.cell? ⟨q9, 3, none⟩ = some (.slice At nt ct) ∧ w5.frozen? ⟨q9, 3, none⟩ = false ∧
      Hid (MkJ w (w5.setCell ⟨q9, 3, none⟩ (.slice (some ⟨q5, 0, none⟩) (nt + 1) c5)) D Z q9 S gl L f0 f1 loc (sit ++ [x]) As ns cs Ag ng cg Af i cf Al nl cl (some ⟨q5, 0, none⟩) (nt + 1) c5) := by
  have hq := h.q9
  have zq := h.bf.lt
  obtain ⟨q5, c5, w5, hr, a1, a2, a3, a4, HO⟩ := row_step (j := 3) 3 27 8 (.int .i64 0) Try.underlying27 info3 rfl (by decide) (.int .i64 x) rfl (Below.refl _ wr) h.bf (by decide) rfl h.ot (by omega) (by omega)
  have O := HO.out
  have old : ∀ k, k < q9 → (w5.setCell ⟨q9, 3, none⟩ (.slice (some ⟨q5, 0, none⟩) (nt + 1) c5)).heap[k]? = wr.heap[k]? := fun k hk => O.kept k (by omega) (by omega) (fun e => by have := (h.ot.lt k e.symm).1; omega)
  have hlb : ∀ k, some k = (Value.slice Al nl cl).ownBlock → k < wr.heap.size ∧ k ≠ q9 := fun k hk => by
    rcases h.ol.2 with ⟨e, _⟩ | ⟨g, cap, cur, e, _, hh, _⟩
    · rw [e] at hk; simp [Value.ownBlock] at hk
    · have e0 : k = g := by rw [e] at hk; simpa [Value.ownBlock] using hk
      subst e0
      exact ⟨heap_ltM hh, fun e0 => by subst e0; exact absurd (h.bf.uniq hh) (by decide)⟩
  refine ⟨q5, c5, w5, hr, a3, a4, ⟨O.bel _ _ h.bel (by omega) (by omega) (by omega), (old _ (by omega)).trans h.bd, (old _ (by omega)).trans h.bz, (old _ (by omega)).trans h.bm, O.box, ⟨h.lens.1, h.lens.2.1, h.lens.2.2.1, h.lens.2.2.2.1, by simp [h.lens.2.2.2.2]⟩, O.row h.ot h.bf h.os (by decide) (by decide), own_blocks h.og (fun k hk => old k (h.ogq k hk)), h.ogq, own_blocks h.ol (fun k hk => O.kept k (hlb k hk).1 (hlb k hk).2 (h.ne k hk)), by rw [intV_snoc]; exact O.own, fun k hk e => ?_, ?_, h.frq, hq, fun k hk t ht => (World.cell?_of_block (old k (h.frq k hk))).trans (h.nob k hk t ht)⟩⟩
  · rcases O.fresh k e with e | e
    · exact h.ne k hk e
    · have := (hlb k hk).1; omega
  · exact h.fr.kept (fun k hk => old k (h.frq k hk)) (fun k hk _ => old k hk.2.2) (fun k hk _ => hk)
end

/-- Between two functions. -/
structure MkI (w wr : World) (D Z : Array Value) (S : List (List UInt8)) (gl : List Int) (L : List Fn) (As : Option Addr) (ns cs : Nat) (Ag : Option Addr) (ng cg : Nat) (Af : Option Addr) (i cf : Nat) : Prop where
  bel : Below w.heap.size w wr
  bd : Blk wr w.heap.size 24 D
  bz : Blk wr (w.heap.size + 1) 30 Z
  bm : Blk wr (w.heap.size + 1 + 1) 30 #[.slice As ns cs, .slice Ag ng cg, .slice Af i cf, .slice none 0 0]
  lens : S.length = ns ∧ gl.length = ng ∧ L.length = i
  os : wr.ownsRow (w.heap.size + 1 + 1 + 1) 9 1 (.slice As ns cs) ns (strV S)
  og : wr.ownsRow (w.heap.size + 1 + 1 + 1) 3 1 (.slice Ag ng cg) ng (intV gl)
  fr : FnRow wr (w.heap.size + 1 + 1 + 1) (fun k => some k ≠ (Value.slice As ns cs).ownBlock ∧ w.heap.size + 1 + 1 + 1 ≤ k) (.slice Af i cf) L
  nob : ∀ k, some k = (Value.slice Af i cf).ownBlock → ∀ t, t < i → wr.cell? ⟨k, t * 5 + 4, none⟩ = some (.slice none 0 0)

section
variable {w wr : World} {D Z : Array Value} {S : List (List UInt8)} {gl : List Int} {L : List Fn} {As : Option Addr} {ns cs : Nat} {Ag : Option Addr} {ng cg : Nat} {Af : Option Addr} {i cf : Nat}
/-- A string more, between two functions. -/
theorem MkI.addStr (h : MkI w wr D Z S gl L As ns cs Ag ng cg Af i cf) (hl : ns ≤ 10000) (x : List UInt8) (w3 : World) (hb : Below wr.heap.size wr w3) :
    ∃ q5 c5 w5, (Builtin.append_ #[26, 26] 26 #[.slice As ns cs, .slice (some ⟨w3.heap.size, 0, none⟩) 1 1]).run Try.prog (w3.alloc (.cells #[.string (bs x)] 9)) = .ok (.slice (some ⟨q5, 0, none⟩) (ns + 1) c5) w5 ∧ w3.cell? ⟨w.heap.size + 1 + 1, 0, none⟩ = some (.slice As ns cs) ∧ w.heap.size + 1 + 1 < w3.heap.size ∧ w5.cell? ⟨w.heap.size + 1 + 1, 0, none⟩ = some (.slice As ns cs) ∧ w5.frozen? ⟨w.heap.size + 1 + 1, 0, none⟩ = false ∧
      Hid (MkI w (w5.setCell ⟨w.heap.size + 1 + 1, 0, none⟩ (.slice (some ⟨q5, 0, none⟩) (ns + 1) c5)) D Z (S ++ [x]) gl L (some ⟨q5, 0, none⟩) (ns + 1) c5 Ag ng cg Af i cf) := by
  have zm := h.bm.lt
  obtain ⟨q5, c5, w5, hr, a1, a2, a3, a4, HO⟩ := row_step (j := 0) 9 26 16 (.string ⟨#[]⟩) Try.underlying26 info9 rfl (by decide) (.string (bs x)) rfl hb h.bm (by decide) rfl h.os (by omega) (by omega)
  have O := HO.out
  have hkk : ∀ k, some k = (Value.slice Af i cf).ownBlock → (w5.setCell ⟨w.heap.size + 1 + 1, 0, none⟩ (.slice (some ⟨q5, 0, none⟩) (ns + 1) c5)).heap[k]? = wr.heap[k]? := fun k hk => by
    obtain ⟨b1, b2, cur, b3⟩ := h.fr.blk k hk
    exact (O.blk h.os b3 (by omega) (by decide)).trans b3.symm
  refine ⟨q5, c5, w5, hr, a1, a2, a3, a4, ⟨O.bel _ _ h.bel (by omega) (by omega) (by omega), O.blk h.os h.bd (by omega) (by decide), O.blk h.os h.bz (by omega) (by decide), O.box, ⟨by simp [h.lens.1], h.lens.2⟩, by rw [strV_snoc]; exact O.own, O.row h.os h.bm h.og (by decide) (by decide), ?_, fun k hk t ht => (World.cell?_of_block (hkk k hk)).trans (h.nob k hk t ht)⟩⟩
  refine h.fr.kept hkk (fun k hk hlt => O.kept k hlt (by omega) hk.1) (fun k hk hlt => ⟨fun e => ?_, hk.2⟩)
  rcases O.fresh k e with e | e
  · exact hk.1 e
  · omega
/-- A function is begun. -/
theorem MkI.begin (h : MkI w wr D Z S gl L As ns cs Ag ng cg Af i cf) (f0 f1 : Int) :
    MkJ w (wr.alloc (.cells #[.int .i64 f0, .int .i64 f1, .slice none 0 0, .slice none 0 0, .slice none 0 0] 40)) D Z wr.heap.size S gl L f0 f1 [] [] As ns cs Ag ng cg Af i cf none 0 0 none 0 0 := by
  have zm := h.bm.lt
  have hb : Below wr.heap.size wr (wr.alloc (.cells #[.int .i64 f0, .int .i64 f1, .slice none 0 0, .slice none 0 0, .slice none 0 0] 40)) := (Below.refl _ _).alloc (Nat.le_refl _) _
  refine ⟨h.bel.alloc h.bel.size _, h.bd.alloc _, h.bz.alloc _, h.bm.alloc _, Blk.new wr 40 _, ⟨h.lens.1, h.lens.2.1, h.lens.2.2, rfl, rfl⟩, h.os.alloc _, h.og.alloc _, fun k hk => (h.og.lt k hk.symm).2, ⟨rfl, .inl ⟨rfl, rfl⟩⟩, ⟨rfl, .inl ⟨rfl, rfl⟩⟩, fun k hk => by simp [Value.ownBlock] at hk, ?_, fun k hk => (h.fr.blk k hk).2.1, by omega, fun k hk t ht => (World.cell?_of_block (hb.block k (h.fr.blk k hk).2.1)).trans (h.nob k hk t ht)⟩
  exact h.fr.kept (fun k hk => hb.block k (h.fr.blk k hk).2.1) (fun k hk hlt => hb.block k hlt) (fun k hk hlt => ⟨hk.1, hk.2, hlt⟩)
/-- A function is done. -/
theorem MkJ.done {q9 : Nat} {f0 f1 : Int} {loc sit : List Int} {Al : Option Addr} {nl cl : Nat} {At : Option Addr} {nt ct : Nat} (h : MkJ w wr D Z q9 S gl L f0 f1 loc sit As ns cs Ag ng cg Af i cf Al nl cl At nt ct) (hl : i ≤ 10000) :
    ∃ q5 c5 w5, (Builtin.append_ #[28, 28] 28 #[.slice Af i cf, .slice (some ⟨wr.heap.size, 0, none⟩) 1 1]).run Try.prog (wr.alloc (.cells #[.int .i64 f0, .int .i64 f1, .slice Al nl cl, .slice At nt ct, .slice none 0 0] 40)) = .ok (.slice (some ⟨q5, 0, none⟩) (i + 1) c5) w5 ∧ w5.cell? ⟨w.heap.size + 1 + 1, 2, none⟩ = some (.slice Af i cf) ∧ w5.frozen? ⟨w.heap.size + 1 + 1, 2, none⟩ = false ∧
      Hid (MkI w (w5.setCell ⟨w.heap.size + 1 + 1, 2, none⟩ (.slice (some ⟨q5, 0, none⟩) (i + 1) c5)) D Z S gl (L ++ [⟨f0, f1, loc, sit, .nil⟩]) As ns cs Ag ng cg (some ⟨q5, 0, none⟩) (i + 1) c5) := by
  have hq := h.q9
  have zq := h.bf.lt
  obtain ⟨hl1, hl2, hl3, hl4, hl5⟩ := h.lens
  have hup : ∀ k, q9 ≤ k → some k ≠ (Value.slice Af i cf).ownBlock := fun k hk e => by have := h.frq k e; omega
  have hne : ∀ (v : Value) (n : Nat) (l : List Int), wr.ownsRow q9 3 1 v n (intV l) → ∀ k, some k = v.ownBlock → some k ≠ (Value.slice As ns cs).ownBlock := fun v n l ho k hk e => by
    rcases ho.2 with ⟨e0, _⟩ | ⟨g, cap, cur, e0, _, hh, _⟩
    · rw [e0] at hk; simp [Value.ownBlock] at hk
    · have e1 : k = g := by rw [e0] at hk; simpa [Value.ownBlock] using hk
      subst e1
      exact own_ne h.os (show Blk wr k 3 cur from hh) (by decide) e
  have rd : ∀ (A : Option Addr) (n c : Nat) (l : List Int), wr.ownsRow q9 3 1 (.slice A n c) n (intV l) → RdS (fun k => some k ≠ (Value.slice Af i cf).ownBlock ∧ some k ≠ (Value.slice As ns cs).ownBlock ∧ w.heap.size + 1 + 1 + 1 ≤ k) wr A n 1 (intV l) := fun A n c l ho => by
    have h0 := RdS.own ho
    refine ⟨h0.1, fun hp => ?_⟩
    obtain ⟨b, o, hA, hb, hc⟩ := h0.2 hp
    refine ⟨b, o, hA, ⟨hup b hb, ?_, by omega⟩, hc⟩
    rcases ho.2 with ⟨_, e0⟩ | ⟨g, cap, cur, e0, _, _⟩
    · omega
    · have e1 : A = some ⟨g, 0, none⟩ := by injection e0
      have e2 : b = g := by rw [e1] at hA; injection hA with hA; injection hA with hA _; exact hA.symm
      exact hne _ n l ho b (by rw [e1, e2]; rfl)
  have hF : FnRow wr (w.heap.size + 1 + 1 + 1) (fun k => some k ≠ (Value.slice As ns cs).ownBlock ∧ w.heap.size + 1 + 1 + 1 ≤ k) (.slice Af i cf) L := h.fr.kept (fun _ _ => rfl) (fun _ _ _ => rfl) (fun k hk _ => ⟨hk.1, hk.2.1⟩)
  obtain ⟨q5, c5, w5, hr, hat, hg, hF5, hcl, hcz⟩ := FnRow.push hF (by omega) (by omega) ⟨f0, f1, loc, sit, .nil⟩ Al At none cl ct 0 ⟨Al, cl, At, ct, none, 0, rfl, by simp only; rw [hl4]; exact rd _ _ _ _ h.ol, by simp only; rw [hl5]; exact rd _ _ _ _ h.ot, noBody _ _ _⟩
  simp only [hl3, hl4, hl5, Bd.len] at hr hF5 hg hcl hcz
  have keep : ∀ k, k < wr.heap.size → some k ≠ (Value.slice Af i cf).ownBlock → w5.heap[k]? = wr.heap[k]? := fun k hk hne => by rw [hg.block k (by simp; omega) hne, heap_alloc_old _ _ hk]
  have kb : ∀ {k t : Nat} {ds : Array Value}, Blk wr k t ds → t ≠ 40 → Blk w5 k t ds := fun {k t ds} hb ht => (keep k hb.lt (fun e => by obtain ⟨_, _, cur, b3⟩ := h.fr.blk k e; exact ht (hb.uniq b3))).trans hb
  have km := kb h.bm (by decide)
  have sz := hg.size
  have ko : ∀ {B2 e2 n2 : Nat} {v2 : Value} {zs : List Value}, wr.ownsRow B2 e2 1 v2 n2 zs → e2 ≠ 40 → e2 ≠ 30 → (w5.setCell ⟨w.heap.size + 1 + 1, 2, none⟩ (.slice (some ⟨q5, 0, none⟩) (i + 1) c5)).ownsRow B2 e2 1 v2 n2 zs := fun {B2 e2 n2 v2 zs} ho h35 h32 => own_blocks ho (fun k hk => by
    rcases ho.2 with ⟨rfl, _⟩ | ⟨g, cap, cur, rfl, _, hh, _⟩
    · simp [Value.ownBlock] at hk
    · have e1 : k = g := by simpa [Value.ownBlock] using hk
      subst e1
      have hb5 : Blk w5 k e2 cur := kb (show Blk wr k e2 cur from hh) h35
      rw [Below.heap_setCell w5 ⟨w.heap.size + 1 + 1, 2, none⟩ _ k (fun e => by have e' : k = w.heap.size + 1 + 1 := e; subst e'; exact h32 (hb5.uniq km))]
      exact hb5.trans hh.symm)
  refine ⟨q5, c5, w5, hr, km.cell 2, km.frozen 2, ⟨?_, (kb h.bd (by decide)).far (by show _ ≠ w.heap.size + 1 + 1; omega) _, (kb h.bz (by decide)).far (by show _ ≠ w.heap.size + 1 + 1; omega) _, km.set_ 2 _, ⟨hl1, hl2, by simp [hl3]⟩, ko h.os (by decide) (by decide), ko h.og (by decide) (by decide), ?_, fun k hk t ht => ?_⟩⟩
  · refine Below.set1 ((h.bel.alloc h.bel.size _).grown hg (by have := h.bel.size; simp; omega) (fun k hk => ?_)) (by omega) _
    have := (h.fr.blk k hk.symm).1; omega
  · refine hF5.kept (fun k hk => Below.heap_setCell w5 ⟨w.heap.size + 1 + 1, 2, none⟩ _ k (fun e => ?_)) (fun k hk _ => Below.heap_setCell w5 ⟨w.heap.size + 1 + 1, 2, none⟩ _ k (fun e => ?_)) (fun k hk _ => hk)
    · obtain ⟨_, _, cur, b3⟩ := hF5.blk k hk
      have e' : k = w.heap.size + 1 + 1 := e
      subst e'
      exact absurd (b3.uniq km) (by decide)
    · have e' : k = w.heap.size + 1 + 1 := e
      omega
  · have e0 : k = q5 := by simpa [Value.ownBlock] using hk
    subst e0
    have e1 : (w5.setCell ⟨w.heap.size + 1 + 1, 2, none⟩ (.slice (some ⟨k, 0, none⟩) (i + 1) c5)).heap[k]? = w5.heap[k]? := Below.heap_setCell w5 ⟨w.heap.size + 1 + 1, 2, none⟩ _ k (fun e => by
      obtain ⟨_, _, cur, b3⟩ := hF5.blk k hk
      have e' : k = w.heap.size + 1 + 1 := e
      subst e'
      exact absurd (b3.uniq km) (by decide))
    rw [World.cell?_of_block (a := ⟨k, t * 5 + 4, none⟩) e1]
    rcases Nat.lt_or_ge t i with hti | hti
    · obtain ⟨css, h1, _, _⟩ := h.fr.own
      rcases h1.2 with ⟨_, h0⟩ | ⟨g, cap, cur, e, _⟩
      · omega
      · have hk2 : some g = (Value.slice Af i cf).ownBlock := by rw [e]; rfl
        rw [hcl g hk2 (t * 5 + 4) (by omega)]
        exact h.nob g hk2 t hti
    · obtain rfl : t = i := by omega
      exact hcz
end
end Go.Proofs.Ytpdebnecfknohaa
