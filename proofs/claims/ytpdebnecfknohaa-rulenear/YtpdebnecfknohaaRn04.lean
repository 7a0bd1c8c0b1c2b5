/-
  Parts: Mj Me Ma Mb Mh Mk Za.
-/
import Derived.Test.YtpdebnecfknohaaRn00
import Derived.Test.YtpdebnecfknohaaRn01
import Derived.Test.YtpdebnecfknohaaRn02
import Derived.Test.YtpdebnecfknohaaRn03
import Derived.Deep.DeepCutAuto
import Derived.Deep.CutBlock
namespace Go.Proofs.Ytpdebnecfknohaa
open Go.RowKit
set_option linter.unusedVariables false
set_option maxRecDepth 20000
theorem strV_snoc (l : List (List UInt8)) (x : List UInt8) : strV (l ++ [x]) = strV l ++ [.string (bs x)] := by simp [strV]
theorem intV_snoc (l : List Int) (x : Int) : intV (l ++ [x]) = intV l ++ [.int .i64 x] := by simp [intV]
/-- While a function is made: the draft's box, the result's, the module's, the function's, and their rows. -/
structure MkJ (w wr : World) (D Z : Array Value) (q9 : Nat) (S : List (List UInt8)) (gl : List Int) (L : List Fn) (f0 f1 : Int) (loc sit : List Int) (As : Option Addr) (ns cs : Nat) (Ag : Option Addr) (ng cg : Nat) (Af : Option Addr) (i cf : Nat) (Al : Option Addr) (nl cl : Nat) (At : Option Addr) (nt ct : Nat) : Prop where
  bel : Below w.heap.size w wr
  bd : Blk wr w.heap.size 24 D
  bz : Blk wr (w.heap.size + 1) 30 Z
  bm : Blk wr (w.heap.size + 1 + 1) 30 #[.slice As ns cs, .slice Ag ng cg, .slice Af i cf, .slice none 0 0]
  bf : Blk wr q9 40 #[.int .i64 f0, .int .i64 f1, .slice Al nl cl, .slice At nt ct, .slice none 0 0]
  lens : S.length = ns ∧ gl.length = ng ∧ L.length = i ∧ loc.length = nl ∧ sit.length = nt
  os : wr.ownsRow (w.heap.size + 1 + 1 + 1) 9 1 (.slice As ns cs) ns (strV S)
  og : wr.ownsRow (w.heap.size + 1 + 1 + 1) 3 1 (.slice Ag ng cg) ng (intV gl)
  ogq : ∀ k, some k = (Value.slice Ag ng cg).ownBlock → k < q9
  ol : wr.ownsRow q9 3 1 (.slice Al nl cl) nl (intV loc)
  ot : wr.ownsRow q9 3 1 (.slice At nt ct) nt (intV sit)
  ne : ∀ k, some k = (Value.slice Al nl cl).ownBlock → some k ≠ (Value.slice At nt ct).ownBlock
  fr : FnRow wr (w.heap.size + 1 + 1 + 1) (fun k => some k ≠ (Value.slice As ns cs).ownBlock ∧ w.heap.size + 1 + 1 + 1 ≤ k ∧ k < q9) (.slice Af i cf) L
  frq : ∀ k, some k = (Value.slice Af i cf).ownBlock → k < q9
  q9 : w.heap.size + 1 + 1 + 1 ≤ q9
  nob : ∀ k, some k = (Value.slice Af i cf).ownBlock → ∀ t, t < i → wr.cell? ⟨k, t * 5 + 4, none⟩ = some (.slice none 0 0)
section
variable {w wr : World} {D Z : Array Value} {q9 : Nat} {S : List (List UInt8)} {gl : List Int} {L : List Fn} {f0 f1 : Int} {loc sit : List Int} {As : Option Addr} {ns cs : Nat} {Ag : Option Addr} {ng cg : Nat} {Af : Option Addr} {i cf : Nat} {Al : Option Addr} {nl cl : Nat} {At : Option Addr} {nt ct : Nat}
/-- A string more. -/
theorem MkJ.addStr (h : MkJ w wr D Z q9 S gl L f0 f1 loc sit As ns cs Ag ng cg Af i cf Al nl cl At nt ct) (hl : ns ≤ 10000) (x : List UInt8) (w3 : World) (hb : Below wr.heap.size wr w3) :
    ∃ q5 c5 w5, (Builtin.append_ #[26, 26] 26 #[.slice As ns cs, .slice (some ⟨w3.heap.size, 0, none⟩) 1 1]).run Try.prog (w3.alloc (.cells #[.string (bs x)] 9)) = .ok (.slice (some ⟨q5, 0, none⟩) (ns + 1) c5) w5 ∧ w3.cell? ⟨w.heap.size + 1 + 1, 0, none⟩ = some (.slice As ns cs) ∧ w.heap.size + 1 + 1 < w3.heap.size ∧ w5.cell? ⟨w.heap.size + 1 + 1, 0, none⟩ = some (.slice As ns cs) ∧ w5.frozen? ⟨w.heap.size + 1 + 1, 0, none⟩ = false ∧
      Hid (MkJ w (w5.setCell ⟨w.heap.size + 1 + 1, 0, none⟩ (.slice (some ⟨q5, 0, none⟩) (ns + 1) c5)) D Z q9 (S ++ [x]) gl L f0 f1 loc sit (some ⟨q5, 0, none⟩) (ns + 1) c5 Ag ng cg Af i cf Al nl cl At nt ct) := by
  have hq := h.q9
  have zq := h.bf.lt
  obtain ⟨q5, c5, w5, hr, a1, a2, a3, a4, HO⟩ := row_step (j := 0) 9 26 16 (.string ⟨#[]⟩) Try.underlying26 info9 rfl (by decide) (.string (bs x)) rfl hb h.bm (by decide) rfl h.os (by omega) (by omega)
  have O := HO.out
  have hkk : ∀ k, some k = (Value.slice Af i cf).ownBlock → (w5.setCell ⟨w.heap.size + 1 + 1, 0, none⟩ (.slice (some ⟨q5, 0, none⟩) (ns + 1) c5)).heap[k]? = wr.heap[k]? := fun k hk => by
    obtain ⟨b1, b2, cur, b3⟩ := h.fr.blk k hk
    exact (O.blk h.os b3 (by omega) (by decide)).trans b3.symm
  refine ⟨q5, c5, w5, hr, a1, a2, a3, a4, ⟨O.bel _ _ h.bel (by omega) (by omega) (by omega), O.blk h.os h.bd (by omega) (by decide), O.blk h.os h.bz (by omega) (by decide), O.box, O.blk h.os h.bf (by omega) (by decide), ⟨by simp [h.lens.1], h.lens.2⟩, by rw [strV_snoc]; exact O.own, O.row h.os h.bm h.og (by decide) (by decide), h.ogq, O.row h.os h.bm h.ol (by decide) (by decide), O.row h.os h.bm h.ot (by decide) (by decide), h.ne, ?_, h.frq, hq, fun k hk t ht => (World.cell?_of_block (hkk k hk)).trans (h.nob k hk t ht)⟩⟩
  refine h.fr.kept hkk (fun k hk hlt => O.kept k hlt (by omega) hk.1) (fun k hk hlt => ⟨fun e => ?_, hk.2⟩)
  rcases O.fresh k e with e | e
  · exact hk.1 e
  · omega
/-- A local more. -/
theorem MkJ.addLoc (h : MkJ w wr D Z q9 S gl L f0 f1 loc [] As ns cs Ag ng cg Af i cf Al nl cl none 0 0) (hl : nl ≤ 10000) (x : Int) :
    ∃ q5 c5 w5, (Builtin.append_ #[27, 27] 27 #[.slice Al nl cl, .slice (some ⟨wr.heap.size, 0, none⟩) 1 1]).run Try.prog (wr.alloc (.cells #[.int .i64 x] 3)) = .ok (.slice (some ⟨q5, 0, none⟩) (nl + 1) c5) w5 ∧ w5.cell? ⟨q9, 2, none⟩ = some (.slice Al nl cl) ∧ w5.frozen? ⟨q9, 2, none⟩ = false ∧
      Hid (MkJ w (w5.setCell ⟨q9, 2, none⟩ (.slice (some ⟨q5, 0, none⟩) (nl + 1) c5)) D Z q9 S gl L f0 f1 (loc ++ [x]) [] As ns cs Ag ng cg Af i cf (some ⟨q5, 0, none⟩) (nl + 1) c5 none 0 0) := by
  have hq := h.q9
  have zq := h.bf.lt
  obtain ⟨q5, c5, w5, hr, a1, a2, a3, a4, HO⟩ := row_step (j := 2) 3 27 8 (.int .i64 0) Try.underlying27 info3 rfl (by decide) (.int .i64 x) rfl (Below.refl _ wr) h.bf (by decide) rfl h.ol (by omega) (by omega)
  have O := HO.out
  have old : ∀ k, k < q9 → (w5.setCell ⟨q9, 2, none⟩ (.slice (some ⟨q5, 0, none⟩) (nl + 1) c5)).heap[k]? = wr.heap[k]? := fun k hk => O.kept k (by omega) (by omega) (fun e => by have := (h.ol.lt k e.symm).1; omega)
  refine ⟨q5, c5, w5, hr, a3, a4, ⟨O.bel _ _ h.bel (by omega) (by omega) (by omega), (old _ (by omega)).trans h.bd, (old _ (by omega)).trans h.bz, (old _ (by omega)).trans h.bm, O.box, ⟨h.lens.1, h.lens.2.1, h.lens.2.2.1, by simp [h.lens.2.2.2.1], rfl⟩, O.row h.ol h.bf h.os (by decide) (by decide), own_blocks h.og (fun k hk => old k (h.ogq k hk)), h.ogq, by rw [intV_snoc]; exact O.own, ⟨rfl, .inl ⟨rfl, rfl⟩⟩, fun k _ e => by simp [Value.ownBlock] at e, ?_, h.frq, hq, fun k hk t ht => (World.cell?_of_block (old k (h.frq k hk))).trans (h.nob k hk t ht)⟩⟩
  exact h.fr.kept (fun k hk => old k (h.frq k hk)) (fun k hk _ => old k hk.2.2) (fun k hk _ => hk)
/-- A site more. -/
theorem MkJ.addSit (h : MkJ w wr D Z q9 S gl L f0 f1 loc sit As ns cs Ag ng cg Af i cf Al nl cl At nt ct) (hl : nt ≤ 10000) (x : Int) :
    ∃ q5 c5 w5, (Builtin.append_ #[27, 27] 27 #[.slice At nt ct, .slice (some ⟨wr.heap.size, 0, none⟩) 1 1]).run Try.prog (wr.alloc (.cells #[.int .i64 x] 3)) = .ok (.slice (some ⟨q5, 0, none⟩) (nt + 1) c5) w5 ∧ w5.cell? ⟨q9, 3, none⟩ = some (.slice At nt ct) ∧ w5.frozen? ⟨q9, 3, none⟩ = false ∧
      Hid (MkJ w (w5.setCell ⟨q9, 3, none⟩ (.slice (some ⟨q5, 0, none⟩) (nt + 1) c5)) D Z q9 S gl L f0 f1 loc (sit ++ [x]) As ns cs Ag ng cg Af i cf Al nl cl (some ⟨q5, 0, none⟩) (nt + 1) c5) := by
  have hq := h.q9
  have zq := h.bf.lt
  obtain ⟨q5, c5, w5, hr, a1, a2, a3, a4, HO⟩ := row_step (j := 3) 3 27 8 (.int .i64 0) Try.underlying27 info3 rfl (by decide) (.int .i64 x) rfl (Below.refl _ wr) h.bf (by decide) rfl h.ot (by omega) (by omega)
  have O := HO.out
  have old : ∀ k, k < q9 → (w5.setCell ⟨q9, 3, none⟩ (.slice (some ⟨q5, 0, none⟩) (nt + 1) c5)).heap[k]? = wr.heap[k]? := fun k hk => O.kept k (by omega) (by omega) (fun e => by have := (h.ot.lt k e.symm).1; omega)
  have hlb : ∀ k, some k = (Value.slice Al nl cl).ownBlock → k < wr.heap.size ∧ k ≠ q9 := fun k hk => by
    rcases h.ol.2 with ⟨e, _⟩ | ⟨g, cap, cur, e, _, hh, _⟩
    · rw [e] at hk; simp [Value.ownBlock] at hk
    · have e0 : k = g := by rw [e] at hk; simpa [Value.ownBlock] using hk
      subst e0
      exact ⟨heap_ltM hh, fun e0 => by subst e0; exact absurd (h.bf.uniq hh) (by decide)⟩
  refine ⟨q5, c5, w5, hr, a3, a4, ⟨O.bel _ _ h.bel (by omega) (by omega) (by omega), (old _ (by omega)).trans h.bd, (old _ (by omega)).trans h.bz, (old _ (by omega)).trans h.bm, O.box, ⟨h.lens.1, h.lens.2.1, h.lens.2.2.1, h.lens.2.2.2.1, by simp [h.lens.2.2.2.2]⟩, O.row h.ot h.bf h.os (by decide) (by decide), own_blocks h.og (fun k hk => old k (h.ogq k hk)), h.ogq, own_blocks h.ol (fun k hk => O.kept k (hlb k hk).1 (hlb k hk).2 (h.ne k hk)), by rw [intV_snoc]; exact O.own, fun k hk e => ?_, ?_, h.frq, hq, fun k hk t ht => (World.cell?_of_block (old k (h.frq k hk))).trans (h.nob k hk t ht)⟩⟩
  · rcases O.fresh k e with e | e
    · exact h.ne k hk e
    · have := (hlb k hk).1; omega
  · exact h.fr.kept (fun k hk => old k (h.frq k hk)) (fun k hk _ => old k hk.2.2) (fun k hk _ => hk)
end
/-- Between two functions. -/
structure MkI (w wr : World) (D Z : Array Value) (S : List (List UInt8)) (gl : List Int) (L : List Fn) (As : Option Addr) (ns cs : Nat) (Ag : Option Addr) (ng cg : Nat) (Af : Option Addr) (i cf : Nat) : Prop where
  bel : Below w.heap.size w wr
  bd : Blk wr w.heap.size 24 D
  bz : Blk wr (w.heap.size + 1) 30 Z
  bm : Blk wr (w.heap.size + 1 + 1) 30 #[.slice As ns cs, .slice Ag ng cg, .slice Af i cf, .slice none 0 0]
  lens : S.length = ns ∧ gl.length = ng ∧ L.length = i
  os : wr.ownsRow (w.heap.size + 1 + 1 + 1) 9 1 (.slice As ns cs) ns (strV S)
  og : wr.ownsRow (w.heap.size + 1 + 1 + 1) 3 1 (.slice Ag ng cg) ng (intV gl)
  fr : FnRow wr (w.heap.size + 1 + 1 + 1) (fun k => some k ≠ (Value.slice As ns cs).ownBlock ∧ w.heap.size + 1 + 1 + 1 ≤ k) (.slice Af i cf) L
  nob : ∀ k, some k = (Value.slice Af i cf).ownBlock → ∀ t, t < i → wr.cell? ⟨k, t * 5 + 4, none⟩ = some (.slice none 0 0)
section
variable {w wr : World} {D Z : Array Value} {S : List (List UInt8)} {gl : List Int} {L : List Fn} {As : Option Addr} {ns cs : Nat} {Ag : Option Addr} {ng cg : Nat} {Af : Option Addr} {i cf : Nat}
/-- A string more, between two functions. -/
theorem MkI.addStr (h : MkI w wr D Z S gl L As ns cs Ag ng cg Af i cf) (hl : ns ≤ 10000) (x : List UInt8) (w3 : World) (hb : Below wr.heap.size wr w3) :
    ∃ q5 c5 w5, (Builtin.append_ #[26, 26] 26 #[.slice As ns cs, .slice (some ⟨w3.heap.size, 0, none⟩) 1 1]).run Try.prog (w3.alloc (.cells #[.string (bs x)] 9)) = .ok (.slice (some ⟨q5, 0, none⟩) (ns + 1) c5) w5 ∧ w3.cell? ⟨w.heap.size + 1 + 1, 0, none⟩ = some (.slice As ns cs) ∧ w.heap.size + 1 + 1 < w3.heap.size ∧ w5.cell? ⟨w.heap.size + 1 + 1, 0, none⟩ = some (.slice As ns cs) ∧ w5.frozen? ⟨w.heap.size + 1 + 1, 0, none⟩ = false ∧
      Hid (MkI w (w5.setCell ⟨w.heap.size + 1 + 1, 0, none⟩ (.slice (some ⟨q5, 0, none⟩) (ns + 1) c5)) D Z (S ++ [x]) gl L (some ⟨q5, 0, none⟩) (ns + 1) c5 Ag ng cg Af i cf) := by
  have zm := h.bm.lt
  obtain ⟨q5, c5, w5, hr, a1, a2, a3, a4, HO⟩ := row_step (j := 0) 9 26 16 (.string ⟨#[]⟩) Try.underlying26 info9 rfl (by decide) (.string (bs x)) rfl hb h.bm (by decide) rfl h.os (by omega) (by omega)
  have O := HO.out
  have hkk : ∀ k, some k = (Value.slice Af i cf).ownBlock → (w5.setCell ⟨w.heap.size + 1 + 1, 0, none⟩ (.slice (some ⟨q5, 0, none⟩) (ns + 1) c5)).heap[k]? = wr.heap[k]? := fun k hk => by
    obtain ⟨b1, b2, cur, b3⟩ := h.fr.blk k hk
    exact (O.blk h.os b3 (by omega) (by decide)).trans b3.symm
  refine ⟨q5, c5, w5, hr, a1, a2, a3, a4, ⟨O.bel _ _ h.bel (by omega) (by omega) (by omega), O.blk h.os h.bd (by omega) (by decide), O.blk h.os h.bz (by omega) (by decide), O.box, ⟨by simp [h.lens.1], h.lens.2⟩, by rw [strV_snoc]; exact O.own, O.row h.os h.bm h.og (by decide) (by decide), ?_, fun k hk t ht => (World.cell?_of_block (hkk k hk)).trans (h.nob k hk t ht)⟩⟩
  refine h.fr.kept hkk (fun k hk hlt => O.kept k hlt (by omega) hk.1) (fun k hk hlt => ⟨fun e => ?_, hk.2⟩)
  rcases O.fresh k e with e | e
  · exact hk.1 e
  · omega
/-- A function is begun. -/
theorem MkI.begin (h : MkI w wr D Z S gl L As ns cs Ag ng cg Af i cf) (f0 f1 : Int) :
    MkJ w (wr.alloc (.cells #[.int .i64 f0, .int .i64 f1, .slice none 0 0, .slice none 0 0, .slice none 0 0] 40)) D Z wr.heap.size S gl L f0 f1 [] [] As ns cs Ag ng cg Af i cf none 0 0 none 0 0 := by
  have zm := h.bm.lt
  have hb : Below wr.heap.size wr (wr.alloc (.cells #[.int .i64 f0, .int .i64 f1, .slice none 0 0, .slice none 0 0, .slice none 0 0] 40)) := (Below.refl _ _).alloc (Nat.le_refl _) _
  refine ⟨h.bel.alloc h.bel.size _, h.bd.alloc _, h.bz.alloc _, h.bm.alloc _, Blk.new wr 40 _, ⟨h.lens.1, h.lens.2.1, h.lens.2.2, rfl, rfl⟩, h.os.alloc _, h.og.alloc _, fun k hk => (h.og.lt k hk.symm).2, ⟨rfl, .inl ⟨rfl, rfl⟩⟩, ⟨rfl, .inl ⟨rfl, rfl⟩⟩, fun k hk => by simp [Value.ownBlock] at hk, ?_, fun k hk => (h.fr.blk k hk).2.1, by omega, fun k hk t ht => (World.cell?_of_block (hb.block k (h.fr.blk k hk).2.1)).trans (h.nob k hk t ht)⟩
  exact h.fr.kept (fun k hk => hb.block k (h.fr.blk k hk).2.1) (fun k hk hlt => hb.block k hlt) (fun k hk hlt => ⟨hk.1, hk.2, hlt⟩)
/-- A function is done. -/
theorem MkJ.done {q9 : Nat} {f0 f1 : Int} {loc sit : List Int} {Al : Option Addr} {nl cl : Nat} {At : Option Addr} {nt ct : Nat} (h : MkJ w wr D Z q9 S gl L f0 f1 loc sit As ns cs Ag ng cg Af i cf Al nl cl At nt ct) (hl : i ≤ 10000) :
    ∃ q5 c5 w5, (Builtin.append_ #[28, 28] 28 #[.slice Af i cf, .slice (some ⟨wr.heap.size, 0, none⟩) 1 1]).run Try.prog (wr.alloc (.cells #[.int .i64 f0, .int .i64 f1, .slice Al nl cl, .slice At nt ct, .slice none 0 0] 40)) = .ok (.slice (some ⟨q5, 0, none⟩) (i + 1) c5) w5 ∧ w5.cell? ⟨w.heap.size + 1 + 1, 2, none⟩ = some (.slice Af i cf) ∧ w5.frozen? ⟨w.heap.size + 1 + 1, 2, none⟩ = false ∧
      Hid (MkI w (w5.setCell ⟨w.heap.size + 1 + 1, 2, none⟩ (.slice (some ⟨q5, 0, none⟩) (i + 1) c5)) D Z S gl (L ++ [⟨f0, f1, loc, sit, .nil⟩]) As ns cs Ag ng cg (some ⟨q5, 0, none⟩) (i + 1) c5) := by
  have hq := h.q9
  have zq := h.bf.lt
  obtain ⟨hl1, hl2, hl3, hl4, hl5⟩ := h.lens
  have hup : ∀ k, q9 ≤ k → some k ≠ (Value.slice Af i cf).ownBlock := fun k hk e => by have := h.frq k e; omega
  have hne : ∀ (v : Value) (n : Nat) (l : List Int), wr.ownsRow q9 3 1 v n (intV l) → ∀ k, some k = v.ownBlock → some k ≠ (Value.slice As ns cs).ownBlock := fun v n l ho k hk e => by
    rcases ho.2 with ⟨e0, _⟩ | ⟨g, cap, cur, e0, _, hh, _⟩
    · rw [e0] at hk; simp [Value.ownBlock] at hk
    · have e1 : k = g := by rw [e0] at hk; simpa [Value.ownBlock] using hk
      subst e1
      exact own_ne h.os (show Blk wr k 3 cur from hh) (by decide) e
  have rd : ∀ (A : Option Addr) (n c : Nat) (l : List Int), wr.ownsRow q9 3 1 (.slice A n c) n (intV l) → RdS (fun k => some k ≠ (Value.slice Af i cf).ownBlock ∧ some k ≠ (Value.slice As ns cs).ownBlock ∧ w.heap.size + 1 + 1 + 1 ≤ k) wr A n 1 (intV l) := fun A n c l ho => by
    have h0 := RdS.own ho
    refine ⟨h0.1, fun hp => ?_⟩
    obtain ⟨b, o, hA, hb, hc⟩ := h0.2 hp
    refine ⟨b, o, hA, ⟨hup b hb, ?_, by omega⟩, hc⟩
    rcases ho.2 with ⟨_, e0⟩ | ⟨g, cap, cur, e0, _, _⟩
    · omega
    · have e1 : A = some ⟨g, 0, none⟩ := by injection e0
      have e2 : b = g := by rw [e1] at hA; injection hA with hA; injection hA with hA _; exact hA.symm
      exact hne _ n l ho b (by rw [e1, e2]; rfl)
  have hF : FnRow wr (w.heap.size + 1 + 1 + 1) (fun k => some k ≠ (Value.slice As ns cs).ownBlock ∧ w.heap.size + 1 + 1 + 1 ≤ k) (.slice Af i cf) L := h.fr.kept (fun _ _ => rfl) (fun _ _ _ => rfl) (fun k hk _ => ⟨hk.1, hk.2.1⟩)
  obtain ⟨q5, c5, w5, hr, hat, hg, hF5, hcl, hcz⟩ := FnRow.push hF (by omega) (by omega) ⟨f0, f1, loc, sit, .nil⟩ Al At none cl ct 0 ⟨Al, cl, At, ct, none, 0, rfl, by simp only; rw [hl4]; exact rd _ _ _ _ h.ol, by simp only; rw [hl5]; exact rd _ _ _ _ h.ot, noBody _ _ _⟩
  simp only [hl3, hl4, hl5, Bd.len] at hr hF5 hg hcl hcz
  have keep : ∀ k, k < wr.heap.size → some k ≠ (Value.slice Af i cf).ownBlock → w5.heap[k]? = wr.heap[k]? := fun k hk hne => by rw [hg.block k (by simp; omega) hne, heap_alloc_old _ _ hk]
  have kb : ∀ {k t : Nat} {ds : Array Value}, Blk wr k t ds → t ≠ 40 → Blk w5 k t ds := fun {k t ds} hb ht => (keep k hb.lt (fun e => by obtain ⟨_, _, cur, b3⟩ := h.fr.blk k e; exact ht (hb.uniq b3))).trans hb
  have km := kb h.bm (by decide)
  have sz := hg.size
  have ko : ∀ {B2 e2 n2 : Nat} {v2 : Value} {zs : List Value}, wr.ownsRow B2 e2 1 v2 n2 zs → e2 ≠ 40 → e2 ≠ 30 → (w5.setCell ⟨w.heap.size + 1 + 1, 2, none⟩ (.slice (some ⟨q5, 0, none⟩) (i + 1) c5)).ownsRow B2 e2 1 v2 n2 zs := fun {B2 e2 n2 v2 zs} ho h35 h32 => own_blocks ho (fun k hk => by
    rcases ho.2 with ⟨rfl, _⟩ | ⟨g, cap, cur, rfl, _, hh, _⟩
    · simp [Value.ownBlock] at hk
    · have e1 : k = g := by simpa [Value.ownBlock] using hk
      subst e1
      have hb5 : Blk w5 k e2 cur := kb (show Blk wr k e2 cur from hh) h35
      rw [Below.heap_setCell w5 ⟨w.heap.size + 1 + 1, 2, none⟩ _ k (fun e => by have e' : k = w.heap.size + 1 + 1 := e; subst e'; exact h32 (hb5.uniq km))]
      exact hb5.trans hh.symm)
  refine ⟨q5, c5, w5, hr, km.cell 2, km.frozen 2, ⟨?_, (kb h.bd (by decide)).far (by show _ ≠ w.heap.size + 1 + 1; omega) _, (kb h.bz (by decide)).far (by show _ ≠ w.heap.size + 1 + 1; omega) _, km.set_ 2 _, ⟨hl1, hl2, by simp [hl3]⟩, ko h.os (by decide) (by decide), ko h.og (by decide) (by decide), ?_, fun k hk t ht => ?_⟩⟩
  · refine Below.set1 ((h.bel.alloc h.bel.size _).grown hg (by have := h.bel.size; simp; omega) (fun k hk => ?_)) (by omega) _
    have := (h.fr.blk k hk.symm).1; omega
  · refine hF5.kept (fun k hk => Below.heap_setCell w5 ⟨w.heap.size + 1 + 1, 2, none⟩ _ k (fun e => ?_)) (fun k hk _ => Below.heap_setCell w5 ⟨w.heap.size + 1 + 1, 2, none⟩ _ k (fun e => ?_)) (fun k hk _ => hk)
    · obtain ⟨_, _, cur, b3⟩ := hF5.blk k hk
      have e' : k = w.heap.size + 1 + 1 := e
      subst e'
      exact absurd (b3.uniq km) (by decide)
    · have e' : k = w.heap.size + 1 + 1 := e
      omega
  · have e0 : k = q5 := by simpa [Value.ownBlock] using hk
    subst e0
    have e1 : (w5.setCell ⟨w.heap.size + 1 + 1, 2, none⟩ (.slice (some ⟨k, 0, none⟩) (i + 1) c5)).heap[k]? = w5.heap[k]? := Below.heap_setCell w5 ⟨w.heap.size + 1 + 1, 2, none⟩ _ k (fun e => by
      obtain ⟨_, _, cur, b3⟩ := hF5.blk k hk
      have e' : k = w.heap.size + 1 + 1 := e
      subst e'
      exact absurd (b3.uniq km) (by decide))
    rw [World.cell?_of_block (a := ⟨k, t * 5 + 4, none⟩) e1]
    rcases Nat.lt_or_ge t i with hti | hti
    · obtain ⟨css, h1, _, _⟩ := h.fr.own
      rcases h1.2 with ⟨_, h0⟩ | ⟨g, cap, cur, e, _⟩
      · omega
      · have hk2 : some g = (Value.slice Af i cf).ownBlock := by rw [e]; rfl
        rw [hcl g hk2 (t * 5 + 4) (by omega)]
        exact h.nob g hk2 t hti
    · obtain rfl : t = i := by omega
      exact hcz
end
end Go.Proofs.Ytpdebnecfknohaa
namespace Go.Proofs.Ytpdebnecfknohaa
open Go.RowKit
set_option linter.unusedVariables false
set_option maxRecDepth 20000
/-- While the entries are gathered: B3 is how many blocks there were. -/
structure MkE (w wr : World) (D Z : Array Value) (B3 : Nat) (S : List (List UInt8)) (gl : List Int) (L : List Fn) (En : List Int) (As : Option Addr) (ns cs : Nat) (Ag : Option Addr) (ng cg : Nat) (Af : Option Addr) (i cf : Nat) (Ae : Option Addr) (ne ce : Nat) : Prop where
  bel : Below w.heap.size w wr
  bd : Blk wr w.heap.size 24 D
  bz : Blk wr (w.heap.size + 1) 30 Z
  bm : Blk wr (w.heap.size + 1 + 1) 30 #[.slice As ns cs, .slice Ag ng cg, .slice Af i cf, .slice Ae ne ce]
  lens : S.length = ns ∧ gl.length = ng ∧ L.length = i ∧ En.length = ne
  os : wr.ownsRow (w.heap.size + 1 + 1 + 1) 9 1 (.slice As ns cs) ns (strV S)
  og : wr.ownsRow (w.heap.size + 1 + 1 + 1) 3 1 (.slice Ag ng cg) ng (intV gl)
  ogq : ∀ k, some k = (Value.slice Ag ng cg).ownBlock → k < B3
  oe : wr.ownsRow B3 3 1 (.slice Ae ne ce) ne (intV En)
  fr : FnRow wr (w.heap.size + 1 + 1 + 1) (fun k => some k ≠ (Value.slice As ns cs).ownBlock ∧ w.heap.size + 1 + 1 + 1 ≤ k ∧ k < B3) (.slice Af i cf) L
  frq : ∀ k, some k = (Value.slice Af i cf).ownBlock → k < B3
  nob : ∀ k, some k = (Value.slice Af i cf).ownBlock → ∀ t, t < i → wr.cell? ⟨k, t * 5 + 4, none⟩ = some (.slice none 0 0)
  b3 : w.heap.size + 1 + 1 + 1 ≤ B3 ∧ B3 ≤ wr.heap.size
section
variable {w wr : World} {D Z : Array Value} {B3 : Nat} {S : List (List UInt8)} {gl : List Int} {L : List Fn} {En : List Int} {As : Option Addr} {ns cs : Nat} {Ag : Option Addr} {ng cg : Nat} {Af : Option Addr} {i cf : Nat} {Ae : Option Addr} {ne ce : Nat}
theorem MkI.ents (h : MkI w wr D Z S gl L As ns cs Ag ng cg Af i cf) : MkE w wr D Z wr.heap.size S gl L [] As ns cs Ag ng cg Af i cf none 0 0 := by
  have zm := h.bm.lt
  refine ⟨h.bel, h.bd, h.bz, h.bm, ⟨h.lens.1, h.lens.2.1, h.lens.2.2, rfl⟩, h.os, h.og, fun k hk => (h.og.lt k hk.symm).2, ⟨rfl, .inl ⟨rfl, rfl⟩⟩, ?_, fun k hk => (h.fr.blk k hk).2.1, h.nob, by omega, Nat.le_refl _⟩
  exact h.fr.kept (fun _ _ => rfl) (fun _ _ _ => rfl) (fun k hk hlt => ⟨hk.1, hk.2, hlt⟩)
/-- An entry more. -/
theorem MkE.addEnt (h : MkE w wr D Z B3 S gl L En As ns cs Ag ng cg Af i cf Ae ne ce) (hl : ne ≤ 10000) (x : Int) :
    ∃ q5 c5 w5, (Builtin.append_ #[27, 27] 27 #[.slice Ae ne ce, .slice (some ⟨wr.heap.size, 0, none⟩) 1 1]).run Try.prog (wr.alloc (.cells #[.int .i64 x] 3)) = .ok (.slice (some ⟨q5, 0, none⟩) (ne + 1) c5) w5 ∧ w5.cell? ⟨w.heap.size + 1 + 1, 3, none⟩ = some (.slice Ae ne ce) ∧ w5.frozen? ⟨w.heap.size + 1 + 1, 3, none⟩ = false ∧
      Hid (MkE w (w5.setCell ⟨w.heap.size + 1 + 1, 3, none⟩ (.slice (some ⟨q5, 0, none⟩) (ne + 1) c5)) D Z B3 S gl L (En ++ [x]) As ns cs Ag ng cg Af i cf (some ⟨q5, 0, none⟩) (ne + 1) c5) := by
  obtain ⟨hb1, hb2⟩ := h.b3
  have zm := h.bm.lt
  obtain ⟨q5, c5, w5, hr, a1, a2, a3, a4, HO⟩ := row_step (j := 3) 3 27 8 (.int .i64 0) Try.underlying27 info3 rfl (by decide) (.int .i64 x) rfl (Below.refl _ wr) h.bm (by decide) rfl h.oe (by omega) (by omega)
  have O := HO.out
  have old : ∀ k, k < B3 → k ≠ w.heap.size + 1 + 1 → (w5.setCell ⟨w.heap.size + 1 + 1, 3, none⟩ (.slice (some ⟨q5, 0, none⟩) (ne + 1) c5)).heap[k]? = wr.heap[k]? := fun k hk hne => O.kept k (by omega) hne (fun e => by have := (h.oe.lt k e.symm).1; omega)
  have hkk : ∀ k, some k = (Value.slice Af i cf).ownBlock → (w5.setCell ⟨w.heap.size + 1 + 1, 3, none⟩ (.slice (some ⟨q5, 0, none⟩) (ne + 1) c5)).heap[k]? = wr.heap[k]? := fun k hk => old k (h.frq k hk) (by have := (h.fr.blk k hk).1; omega)
  have hsz := O.size
  refine ⟨q5, c5, w5, hr, a3, a4, ⟨O.bel _ _ h.bel (by omega) (by omega) (by omega), (old _ (by omega) (by omega)).trans h.bd, (old _ (by omega) (by omega)).trans h.bz, O.box, ⟨h.lens.1, h.lens.2.1, h.lens.2.2.1, by simp [h.lens.2.2.2]⟩, O.row h.oe h.bm h.os (by decide) (by decide), own_blocks h.og (fun k hk => old k (h.ogq k hk) (by have := (h.og.lt k hk.symm).1; omega)), h.ogq, by rw [intV_snoc]; exact O.own, ?_, h.frq, fun k hk t ht => (World.cell?_of_block (hkk k hk)).trans (h.nob k hk t ht), hb1, by omega⟩⟩
  exact h.fr.kept hkk (fun k hk _ => old k hk.2.2 (by have := hk.2.1; omega)) (fun k hk _ => hk)
end
/-- Statements in a row: the cells of one, as it lies. -/
def StS (X : Nat → Prop) (w : World) (cs : List Value) (s : St7) : Prop := ∃ va A c, cs = [.int .u8 s.k, .int .u8 s.a.1, .int .i64 s.a.2, .int .u8 s.b.1, .int .i64 s.b.2, va, .slice A s.sub.len c] ∧ ArgsS X w va s.xs ∧ BodyS X w A s.sub
theorem StS.kept {S S' : Nat → Prop} {w w' : World} {cs : List Value} {s : St7} (h : StS S w cs s) (hk : Kept S w w') (hS : ∀ k, S k → k < w.heap.size → S' k) : StS S' w' cs s := by
  obtain ⟨va, A, c, h1, h2, h3⟩ := h
  exact ⟨va, A, c, h1, h2.kept hk hS, h3.kept hk hS⟩
/-- A body of these. -/
def bdOf : List St7 → Bd
  | [] => .nil
  | s :: l => s.ahead (bdOf l)
theorem bdOf_len : ∀ l : List St7, (bdOf l).len = l.length
  | [] => rfl
  | s :: l => by simp [bdOf, St7.ahead, Bd.len, bdOf_len l]
/-- A row of statements of the call's own, whose parts lie in blocks of the kind X. -/
structure BdRow (w : World) (base : Nat) (X : Nat → Prop) (v : Value) (T : List St7) : Prop where
  own : ∃ css : List (List Value), w.ownsRow base 50 7 v T.length css.flatten ∧ css.length = T.length ∧ ∀ i (h : i < T.length), ∃ cs, css[i]? = some cs ∧ StS X w cs T[i]
theorem BdRow.nil (w : World) (base : Nat) (X : Nat → Prop) : BdRow w base X (.slice none 0 0) [] := ⟨[], ⟨rfl, .inl ⟨rfl, rfl⟩⟩, rfl, fun i h => by simp at h⟩
theorem BdRow.kept {w w' : World} {base : Nat} {X X' : Nat → Prop} {v : Value} {T : List St7} (h : BdRow w base X v T) (hv : ∀ k, some k = v.ownBlock → w'.heap[k]? = w.heap[k]?) (hk : Kept X w w') (hX : ∀ k, X k → k < w.heap.size → X' k) : BdRow w' base X' v T := by
  obtain ⟨css, h1, h2, h3⟩ := h.own
  refine ⟨css, own_blocks h1 hv, h2, fun i hi => ?_⟩
  obtain ⟨cs, e, hf⟩ := h3 i hi
  exact ⟨cs, e, hf.kept hk hX⟩
theorem BdRow.blk {w : World} {base : Nat} {X : Nat → Prop} {v : Value} {T : List St7} (h : BdRow w base X v T) : ∀ k, some k = v.ownBlock → base ≤ k ∧ k < w.heap.size ∧ ∃ cur, Blk w k 50 cur := fun k hk => by
  obtain ⟨css, h1, _, _⟩ := h.own
  rcases h1.2 with ⟨rfl, _⟩ | ⟨q, cap, cur, rfl, hq, hh, _⟩
  · simp [Value.ownBlock] at hk
  · have : k = q := by simpa [Value.ownBlock] using hk
    subst this
    exact ⟨hq, heap_ltM hh, cur, hh⟩
/-- It reads as a body. -/
theorem bdS_row {S : Nat → Prop} {w : World} {b : Nat} (hb : S b) : ∀ (T : List St7) (css : List (List Value)) (o : Nat), (∀ i (h : i < T.length), ∃ cs, css[i]? = some cs ∧ StS S w cs T[i]) → (∀ j u, css.flatten[j]? = some u → w.cell? ⟨b, o + j, none⟩ = some u) → BdS S w b o (bdOf T)
  | [], _, _, _, _ => trivial
  | s :: T, [], _, h, _ => by obtain ⟨cs, e, _⟩ := h 0 (by simp); simp at e
  | s :: T, c :: css, o, h, hc => by
    have h00 := h 0 (by simp)
    simp only [List.getElem_cons_zero] at h00
    obtain ⟨cs, e, va, A, cc, hcs, h1, h2⟩ := h00
    have e : c = cs := by simpa using e
    subst e
    subst hcs
    have g : ∀ j u, ([.int .u8 s.k, .int .u8 s.a.1, .int .i64 s.a.2, .int .u8 s.b.1, .int .i64 s.b.2, va, .slice A s.sub.len cc] : List Value)[j]? = some u → w.cell? ⟨b, o + j, none⟩ = some u := fun j u hj => hc j u (by
      rw [List.flatten_cons, List.getElem?_append_left ((List.getElem?_eq_some_iff.1 hj).1)]; exact hj)
    refine ⟨hb, ⟨g 0 _ rfl, g 1 _ rfl, g 2 _ rfl, g 3 _ rfl, g 4 _ rfl⟩, ⟨va, g 5 _ rfl, h1⟩, ⟨A, cc, g 6 _ rfl, h2⟩, ?_⟩
    refine bdS_row hb T css (o + 7) (fun i hi => ?_) (fun j u hj => ?_)
    · obtain ⟨cs, e, hs⟩ := h (i + 1) (by simpa using hi)
      exact ⟨cs, by simpa using e, by simpa using hs⟩
    · rw [Nat.add_assoc, Nat.add_comm 7 j, ← Nat.add_assoc]
      exact hc (j + 7) u (by rw [List.flatten_cons, List.getElem?_append_right (by simp)]; simpa using hj)
theorem BdRow.body {w : World} {base : Nat} {X S : Nat → Prop} {A : Option Addr} {n c : Nat} {T : List St7} (h : BdRow w base X (.slice A n c) T) (hX : ∀ k, X k → k < w.heap.size → S k) (hS : ∀ k, some k = (Value.slice A n c).ownBlock → S k) : BodyS S w A (bdOf T) ∧ n = (bdOf T).len := by
  obtain ⟨css, h1, h2, h3⟩ := h.own
  rw [bdOf_len]
  rcases h1.2 with ⟨e, h0⟩ | ⟨q, cap, cur, e, hq, hh, hc⟩
  · injection e with e1 e2 e3
    refine ⟨fun hp => ?_, by omega⟩
    rw [bdOf_len] at hp
    omega
  · injection e with e1 e2 e3
    subst e1; subst e2; subst e3
    refine ⟨fun hp => ⟨q, 0, rfl, bdS_row (hS q rfl) T css 0 (fun i hi => ?_) (fun j u hj => ?_)⟩, rfl⟩
    · obtain ⟨cs, e, hs⟩ := h3 i hi
      exact ⟨cs, e, hs.kept (fun _ _ _ => rfl) hX⟩
    · have := h1.cells (g := q) rfl j u hj
      rwa [Go.WideShapes.add_plain] at this
theorem info50 : (Try.prog.info? 50).map (fun i => (i.zero, i.size, i.bytes)) = some (some (.agg #[.int .u8 0, .int .u8 0, .int .i64 0, .int .u8 0, .int .i64 0, .slice none 0 0, .slice none 0 0]), 7, 88) := by kernel_rfl
end Go.Proofs.Ytpdebnecfknohaa
namespace Go.Proofs.Ytpdebnecfknohaa
open Go.RowKit
set_option linter.unusedVariables false
set_option maxRecDepth 20000
/-- While the statements are made: W1 is the world ahead, g the functions' row. -/
structure MkA (w W1 wr : World) (g n : Nat) (Vs : List Value) (Ts : List (List St7)) : Prop where
  bel : Below w.heap.size w wr
  size : W1.heap.size ≤ wr.heap.size
  keep : ∀ k, k < W1.heap.size → k ≠ g → wr.heap[k]? = W1.heap[k]?
  gin : w.heap.size ≤ g ∧ g < W1.heap.size
  row : ∃ cur0 cur, Blk W1 g 40 cur0 ∧ Blk wr g 40 cur ∧ n * 5 ≤ cur.size ∧ ∀ i, i < n → cur[i * 5 + 4]? = Vs[i]? ∧ ∀ t, t < 4 → cur[i * 5 + t]? = cur0[i * 5 + t]?
  lens : Vs.length = n ∧ Ts.length = n
  bodies : ∀ (i : Nat) (v : Value) (T : List St7), Vs[i]? = some v → Ts[i]? = some T → BdRow wr W1.heap.size (fun k => W1.heap.size ≤ k ∧ ∀ u ∈ Vs, some k ≠ u.ownBlock) v T
  apart : ∀ (i j : Nat) (v u : Value), i ≠ j → Vs[i]? = some v → Vs[j]? = some u → ∀ k, some k = v.ownBlock → some k ≠ u.ownBlock
section
variable {w W1 wr : World} {g n : Nat} {Vs : List Value} {Ts : List (List St7)}
theorem MkA.blk (h : MkA w W1 wr g n Vs Ts) {i : Nat} {v : Value} (hv : Vs[i]? = some v) : ∀ k, some k = v.ownBlock → W1.heap.size ≤ k ∧ k < wr.heap.size := fun k hk => by
  have hi : i < Ts.length := by have := (List.getElem?_eq_some_iff.1 hv).1; rw [h.lens.2]; rw [h.lens.1] at this; exact this
  obtain ⟨a, b, _⟩ := (h.bodies i v _ hv (List.getElem?_eq_getElem hi)).blk k hk
  exact ⟨a, b⟩
theorem MkA.core (h : MkA w W1 wr g n Vs Ts) {j : Nat} (hj : j < n) {v : Value} {T : List St7} (hv : Vs[j]? = some v) (hT : Ts[j]? = some T) {wA wf : World} {q5 c5 : Nat} (s : St7) (cs : List Value)
    (hbA : Below wr.heap.size wr wA) (hq : some q5 = v.ownBlock ∨ wA.heap.size ≤ q5) (hsz : wA.heap.size ≤ wf.heap.size) (hwf : Below w.heap.size w wf)
    (hkeep : ∀ k, k < wA.heap.size → k ≠ g → some k ≠ v.ownBlock → wf.heap[k]? = wA.heap[k]?)
    (hg : ∀ cur, Blk wA g 40 cur → Blk wf g 40 (cur.setIfInBounds (j * 5 + 4) (.slice (some ⟨q5, 0, none⟩) (T.length + 1) c5)))
    (css : List (List Value)) (h2 : css.length = T.length) (h3 : ∀ i (h : i < T.length), ∃ cs, css[i]? = some cs ∧ StS (fun k => W1.heap.size ≤ k ∧ ∀ u ∈ Vs, some k ≠ u.ownBlock) wr cs T[i])
    (hown : wf.ownsRow W1.heap.size 50 7 (.slice (some ⟨q5, 0, none⟩) (T.length + 1) c5) (T.length + 1) (css.flatten ++ cs))
    (hs : StS (fun k => wr.heap.size ≤ k) wA cs s) :
    MkA w W1 wf g n (Vs.set j (.slice (some ⟨q5, 0, none⟩) (T.length + 1) c5)) (Ts.set j (T ++ [s])) := by
  obtain ⟨hl1, hl2⟩ := h.lens
  have hs1 := hbA.size
  have hs0 := h.size
  have hgi := h.gin
  have hvb := h.blk hv
  have hmem : ∀ u ∈ Vs, ∀ k, some k = u.ownBlock → W1.heap.size ≤ k ∧ k < wr.heap.size := fun u hu k hk => by
    obtain ⟨i, hi, e⟩ := List.mem_iff_getElem.1 hu
    exact h.blk (i := i) (by rw [List.getElem?_eq_getElem hi, e]) k hk
  have kq : ∀ k, k < wr.heap.size → k ≠ g → some k ≠ v.ownBlock → wf.heap[k]? = wr.heap[k]? := fun k h1 h2 h3 => (hkeep k (by omega) h2 h3).trans (hbA.block k h1)
  have hX : ∀ k, (W1.heap.size ≤ k ∧ ∀ u ∈ Vs, some k ≠ u.ownBlock) → k < wr.heap.size → (W1.heap.size ≤ k ∧ ∀ u ∈ Vs.set j (.slice (some ⟨q5, 0, none⟩) (T.length + 1) c5), some k ≠ u.ownBlock) := fun k hk hlt => by
    refine ⟨hk.1, fun u hu => ?_⟩
    rcases List.mem_or_eq_of_mem_set hu with hu | rfl
    · exact hk.2 u hu
    · intro e
      have e : k = q5 := by simpa [Value.ownBlock] using e
      subst e
      rcases hq with hq | hq
      · exact hk.2 v (List.mem_of_getElem? hv) hq
      · omega
  have hXk : Kept (fun k => W1.heap.size ≤ k ∧ ∀ u ∈ Vs, some k ≠ u.ownBlock) wr wf := fun k hk hlt => kq k hlt (by have := hk.1; omega) (hk.2 v (List.mem_of_getElem? hv))
  refine ⟨hwf, by omega, fun k hk hkg => ?_, hgi, ?_, ⟨by simp [hl1], by simp [hl2]⟩, fun i u T' hu hT' => ?_, fun i i' u u' hne hu hu' k hk => ?_⟩
  · rw [kq k (by omega) hkg (fun e => by have := hvb k e; omega)]
    exact h.keep k hk hkg
  · obtain ⟨cur0, cur, b0, b1, hcs, hc⟩ := h.row
    refine ⟨cur0, _, b0, hg cur (b1.old hbA), by simpa using hcs, fun i hi => ?_⟩
    obtain ⟨c1, c2⟩ := hc i hi
    refine ⟨?_, fun t ht => ?_⟩
    · by_cases hij : i = j
      · subst hij
        rw [Array.getElem?_setIfInBounds_self_of_lt (by omega), List.getElem?_set_self (by omega)]
      · rw [Array.getElem?_setIfInBounds_ne (by omega), List.getElem?_set_ne (by omega)]
        exact c1
    · rw [Array.getElem?_setIfInBounds_ne (by omega)]
      exact c2 t ht
  · by_cases hij : i = j
    · subst hij
      rw [List.getElem?_set_self (by omega)] at hu hT'
      injection hu with hu
      injection hT' with hT'
      subst hu; subst hT'
      refine ⟨css ++ [cs], ?_, by simp [h2], fun i' hi' => ?_⟩
      · rw [List.flatten_append]
        simpa using hown
      · by_cases hlt : i' < T.length
        · obtain ⟨c', e, hf⟩ := h3 i' hlt
          refine ⟨c', by rw [List.getElem?_append_left (by omega)]; exact e, ?_⟩
          rw [List.getElem_append_left hlt]
          exact hf.kept hXk hX
        · obtain rfl : i' = T.length := by simp at hi'; omega
          refine ⟨cs, by rw [List.getElem?_append_right (by omega), h2, Nat.sub_self]; rfl, ?_⟩
          rw [List.getElem_append_right (Nat.le_refl _)]
          simp only [Nat.sub_self, List.getElem_cons_zero]
          refine hs.kept (fun k hk hlt => hkeep k hlt (by omega) (fun e => by have := hvb k e; omega)) (fun k hk hlt => ⟨by omega, fun u hu e => ?_⟩)
          rcases List.mem_or_eq_of_mem_set hu with hu | rfl
          · have := hmem u hu k e; omega
          · have e : k = q5 := by simpa [Value.ownBlock] using e
            subst e
            rcases hq with hq | hq
            · have := hvb k hq; omega
            · omega
    · rw [List.getElem?_set_ne (by omega)] at hu hT'
      refine (h.bodies i u T' hu hT').kept (fun k hk => ?_) hXk hX
      have := h.blk hu k hk
      exact kq k this.2 (by omega) (h.apart i j u v hij hu hv k hk)
  · have hnew : ∀ (i2 : Nat) (u2 : Value), i2 ≠ j → Vs[i2]? = some u2 → ∀ k2, some k2 = (Value.slice (some ⟨q5, 0, none⟩) (T.length + 1) c5).ownBlock → some k2 ≠ u2.ownBlock := fun i2 u2 hn2 hu2 k2 hk2 e2 => by
      have hk3 : q5 = k2 := by have : k2 = q5 := by simpa [Value.ownBlock] using hk2
                               exact this.symm
      subst hk3
      rcases hq with hq | hq
      · exact h.apart j i2 v u2 (fun e => hn2 e.symm) hv hu2 q5 hq e2
      · have := h.blk hu2 q5 e2; omega
    by_cases hij : i = j
    · subst hij
      rw [List.getElem?_set_self (by omega)] at hu
      injection hu with hu
      subst hu
      rw [List.getElem?_set_ne hne] at hu'
      exact hnew i' u' (fun e => hne e.symm) hu' k hk
    · rw [List.getElem?_set_ne (by omega)] at hu
      by_cases hij' : i' = j
      · subst hij'
        rw [List.getElem?_set_self (by omega)] at hu'
        injection hu' with hu'
        subst hu'
        intro e
        exact hnew i u hij hu k e hk
      · rw [List.getElem?_set_ne (by omega)] at hu'
        exact h.apart i i' u u' hne hu hu' k hk
end
/-- A statement more. -/
theorem push46 (base : Nat) (v : Value) (n : Nat) (xs us : List Value) (w : World) (h : w.ownsRow base 50 7 v n xs) (hl : n ≤ 100000) (hb : base ≤ w.heap.size) (z : Nat) (hlen : us.length = 7) (hone : ∀ u ∈ us, u.oneCell' = true) (hz : ∀ j u, us[j]? = some u → w.cell? ⟨z, j, none⟩ = some u) :
    ∃ q c w', (Builtin.append_ #[38, 38] 38 #[v, .slice (some ⟨z, 0, none⟩) 1 1]).run Try.prog w = .ok (.slice (some ⟨q, 0, none⟩) (n + 1) c) w' ∧ w'.ownsRow base 50 7 (.slice (some ⟨q, 0, none⟩) (n + 1) c) (n + 1) (xs ++ us) ∧ w.grownBy w' v.ownBlock ∧ (some q = v.ownBlock ∨ q = w.heap.size) := by
  obtain ⟨i0, hi0, hz0, hz1, hz2⟩ := info_parts info50
  obtain ⟨v5, w5, hr5, hO5, hg5, _, hat⟩ := run_append_own_at (P := Try.prog) w base 38 38 50 i0 (.agg #[.int .u8 0, .int .u8 0, .int .i64 0, .int .u8 0, .int .i64 0, .slice none 0 0, .slice none 0 0]) 7 88 Try.underlying38 hi0 hz0 hz1 hz2 rfl (by decide) v n _ h ⟨z, 0, none⟩ 1 1 us (by omega) (fun j u hj => by rw [Go.WideShapes.add_plain, Nat.zero_add]; exact hz j u hj) hone (by unfold maxLen; omega) (by omega) hb
  obtain ⟨q5, c5, rfl⟩ : ∃ q5 c5, v5 = .slice (some ⟨q5, 0, none⟩) (n + 1) c5 := by
    rcases hO5.2 with ⟨_, h1⟩ | ⟨k, cap, cur, hv, _⟩
    · omega
    · exact ⟨k, cap, hv⟩
  refine ⟨q5, c5, w5, hr5, hO5, hg5, ?_⟩
  rcases hat with h | h
  · exact .inl h
  · refine .inr ?_
    have : some q5 = some w.heap.size := h
    injection this
theorem flat_get (m : Nat) : ∀ (css : List (List Value)) (i : Nat) (c : List Value) (t : Nat), (∀ c ∈ css, c.length = m) → css[i]? = some c → t < m → css.flatten[i * m + t]? = c[t]?
  | [], i, c, t, _, h, _ => by simp at h
  | d :: css, 0, c, t, hm, h, ht => by
    have e : d = c := by simpa using h
    subst e
    rw [List.flatten_cons, Nat.zero_mul, Nat.zero_add, List.getElem?_append_left (by rw [hm d (by simp)]; exact ht)]
  | d :: css, i + 1, c, t, hm, h, ht => by
    have h' : css[i]? = some c := by simpa using h
    have hd := hm d (by simp)
    rw [List.flatten_cons, List.getElem?_append_right (by rw [hd, Nat.succ_mul]; omega), hd, show (i + 1) * m + t - m = i * m + t from by rw [Nat.succ_mul]; omega]
    exact flat_get m css i c t (fun c hc => hm c (by simp [hc])) h' ht
section
variable {w W1 wr : World} {g n : Nat} {Vs : List Value} {Ts : List (List St7)}
/-- A function, while the statements are made. -/
theorem MkA.fn (h : MkA w W1 wr g n Vs Ts) {base cf : Nat} {X : Nat → Prop} {L : List Fn} (hF : FnRow W1 base X (.slice (some ⟨g, 0, none⟩) n cf) L) (hL : L.length = n) (i : Nat) (hi : i < L.length) :
    ∃ Al cl At ct v, Vs[i]? = some v ∧ (wr.cell? ⟨g, i * 5, none⟩ = some (.int .i64 L[i].name) ∧ wr.cell? ⟨g, i * 5 + 1, none⟩ = some (.int .i64 L[i].params) ∧ wr.cell? ⟨g, i * 5 + 2, none⟩ = some (.slice Al L[i].locals.length cl) ∧ wr.cell? ⟨g, i * 5 + 3, none⟩ = some (.slice At L[i].sites.length ct) ∧ wr.cell? ⟨g, i * 5 + 4, none⟩ = some v) ∧ RdS (fun k => k ≠ g ∧ X k) W1 Al L[i].locals.length 1 (intV L[i].locals) ∧ RdS (fun k => k ≠ g ∧ X k) W1 At L[i].sites.length 1 (intV L[i].sites) := by
  obtain ⟨css, h1, h2, h3⟩ := hF.own
  obtain ⟨cur0, cur, b0, b1, hcs, hc⟩ := h.row
  have hall : ∀ c ∈ css, c.length = 5 := fun c hc => by
    obtain ⟨k, hk, e⟩ := List.mem_iff_getElem.1 hc
    obtain ⟨cs, e2, Al, cl, As, cs', Ab, cb, e3, _⟩ := h3 k (by omega)
    rw [List.getElem?_eq_getElem hk, e] at e2
    injection e2 with e2
    rw [e2, e3]; rfl
  obtain ⟨cs, e, Al, cl, At, ct, Ab, cb, hcs', r1, r2, _⟩ := h3 i hi
  have hin : i < n := by omega
  obtain ⟨c1, c2⟩ := hc i hin
  have hv : i < Vs.length := by rw [h.lens.1]; exact hin
  have get : ∀ t, t < 4 → wr.cell? ⟨g, i * 5 + t, none⟩ = cs[t]? := fun t ht => by
    rw [b1.cell, c2 t ht, ← b0.cell, ← flat_get 5 css i cs t hall e (by omega)]
    rw [hL] at h1
    exact h1.cellAt _ (by omega)
  have w1 : ∀ {A : Option Addr} {m : Nat} {xs : List Value}, RdS (fun k => some k ≠ (Value.slice (some ⟨g, 0, none⟩) n cf).ownBlock ∧ X k) W1 A m 1 xs → RdS (fun k => k ≠ g ∧ X k) W1 A m 1 xs := fun hr => hr.below (fun k hk => ⟨fun e => hk.1 (by rw [e]; rfl), hk.2⟩)
  subst hcs'
  refine ⟨Al, cl, At, ct, Vs[i], List.getElem?_eq_getElem hv, ⟨get 0 (by omega), get 1 (by omega), get 2 (by omega), get 3 (by omega), ?_⟩, w1 r1, w1 r2⟩
  rw [b1.cell, c1, List.getElem?_eq_getElem hv]
theorem MkA.push42 (h : MkA w W1 wr g n Vs Ts) {j o nb : Nat} (hj : j < n) (ho : o = j * 5 + 4) {v : Value} {T : List St7} (hv : Vs[j]? = some v) (hT : Ts[j]? = some T) (hnb : T.length = nb) (hl : nb ≤ 1000) (s : St7) (Aa A : Option Addr) (ca c na nS : Nat) (hna : na = s.xs.length) (hnS : nS = s.sub.len) {w3 : World} (hb3 : Below wr.heap.size wr w3) (hA : ArgsS (fun k => wr.heap.size ≤ k) w3 (.slice Aa na ca) s.xs) (hB : BodyS (fun k => wr.heap.size ≤ k) w3 A s.sub) :
    ∃ q5 c5 w5, (Builtin.append_ #[38, 38] 38 #[v, .slice (some ⟨w3.heap.size, 0, none⟩) 1 1]).run Try.prog (w3.alloc (.cells #[.int .u8 s.k, .int .u8 s.a.1, .int .i64 s.a.2, .int .u8 s.b.1, .int .i64 s.b.2, .slice Aa na ca, .slice A nS c] 50)) = .ok (.slice (some ⟨q5, 0, none⟩) (nb + 1) c5) w5 ∧ w5.cell? ⟨g, o, none⟩ = some v ∧ w5.frozen? ⟨g, o, none⟩ = false ∧
      Hid (MkA w W1 (w5.setCell ⟨g, o, none⟩ (.slice (some ⟨q5, 0, none⟩) (nb + 1) c5)) g n (Vs.set j (.slice (some ⟨q5, 0, none⟩) (nb + 1) c5)) (Ts.set j (T ++ [s]))) := by
  subst ho; subst hnb; subst hna; subst hnS
  obtain ⟨css, h1, h2, h3⟩ := (h.bodies j v T hv hT).own
  have hs0 := h.size
  have hs3 := hb3.size
  have hgi := h.gin
  have hvb := h.blk hv
  obtain ⟨cur0, cur, b0, b1, hcs, hc⟩ := h.row
  have b3 : Blk (w3.alloc (.cells #[.int .u8 s.k, .int .u8 s.a.1, .int .i64 s.a.2, .int .u8 s.b.1, .int .i64 s.b.2, .slice Aa s.xs.length ca, .slice A s.sub.len c] 50)) g 40 cur := (b1.old hb3).alloc _
  have hz : ∀ j u, ([.int .u8 s.k, .int .u8 s.a.1, .int .i64 s.a.2, .int .u8 s.b.1, .int .i64 s.b.2, .slice Aa s.xs.length ca, .slice A s.sub.len c] : List Value)[j]? = some u → (w3.alloc (.cells #[.int .u8 s.k, .int .u8 s.a.1, .int .i64 s.a.2, .int .u8 s.b.1, .int .i64 s.b.2, .slice Aa s.xs.length ca, .slice A s.sub.len c] 50)).cell? ⟨w3.heap.size, j, none⟩ = some u := fun j u hj => by
    rw [(Blk.new w3 50 _).cell]; simpa using hj
  have hbA : Below wr.heap.size wr (w3.alloc (.cells #[.int .u8 s.k, .int .u8 s.a.1, .int .i64 s.a.2, .int .u8 s.b.1, .int .i64 s.b.2, .slice Aa s.xs.length ca, .slice A s.sub.len c] 50)) := hb3.alloc hs3 _
  have hsA : StS (fun k => wr.heap.size ≤ k) (w3.alloc (.cells #[.int .u8 s.k, .int .u8 s.a.1, .int .i64 s.a.2, .int .u8 s.b.1, .int .i64 s.b.2, .slice Aa s.xs.length ca, .slice A s.sub.len c] 50)) [.int .u8 s.k, .int .u8 s.a.1, .int .i64 s.a.2, .int .u8 s.b.1, .int .i64 s.b.2, .slice Aa s.xs.length ca, .slice A s.sub.len c] s :=
    ⟨_, A, c, rfl, hA.kept (fun k _ hk => heap_alloc_old _ _ hk) (fun _ h _ => h), hB.kept (fun k _ hk => heap_alloc_old _ _ hk) (fun _ h _ => h)⟩
  generalize w3.alloc (.cells #[.int .u8 s.k, .int .u8 s.a.1, .int .i64 s.a.2, .int .u8 s.b.1, .int .i64 s.b.2, .slice Aa s.xs.length ca, .slice A s.sub.len c] 50) = wA at *
  have hsA2 := hbA.size
  obtain ⟨q5, c5, w5, hr, hO, hg, hat⟩ := push46 W1.heap.size v T.length css.flatten _ wA (own_old h1 hbA) (by omega) (by omega) w3.heap.size rfl (by intro u hu; simp at hu; rcases hu with rfl | rfl | rfl | rfl | rfl | rfl | rfl <;> rfl) hz
  have hgv : some g ≠ v.ownBlock := fun e => by have := hvb g e; omega
  have b5 : Blk w5 g 40 cur := b3.grown hg hgv
  have hq : some q5 = v.ownBlock ∨ wA.heap.size ≤ q5 := by rcases hat with h | h; exact .inl h; exact .inr (by omega)
  have hqg : q5 ≠ g := fun e => by subst e; rcases hq with hq | hq; exact hgv hq; omega
  refine ⟨q5, c5, w5, hr, ?_, b5.frozen _, ?_⟩
  · rw [b5.cell, (hc j hj).1, hv]
  · refine h.core hj hv hT s _ hbA hq (by have := hg.size; simp [World.setCell]; omega) ?_ (fun k hk hkg hkv => ?_) (fun cur' hc' => ?_) css h2 h3 ?_ hsA
    · exact Below.set1 ((h.bel.trans (hbA.mono h.bel.size)).grown hg (by have := h.bel.size; omega) (fun k hk => by have := hvb k hk.symm; omega)) hgi.1 _
    · rw [Below.heap_setCell w5 ⟨g, j * 5 + 4, none⟩ _ k hkg, hg.block k hk hkv]
    · exact (hc'.grown hg hgv).set_ _ _
    · exact own_blocks hO (fun k hk => Below.heap_setCell w5 ⟨g, j * 5 + 4, none⟩ _ k (fun e => by
        have e1 : k = q5 := by simpa [Value.ownBlock] using hk
        have e2 : k = g := e
        omega))
end
section
variable {w wr : World} {D Z : Array Value} {B3 : Nat} {S : List (List UInt8)} {gl : List Int} {L : List Fn} {En : List Int} {As : Option Addr} {ns cs : Nat} {Ag : Option Addr} {ng cg : Nat} {Af : Option Addr} {i cf : Nat} {Ae : Option Addr} {ne ce : Nat}
theorem MkE.start (h : MkE w wr D Z B3 S gl L En As ns cs Ag ng cg Af i cf Ae ne ce) (hi : 0 < i) : ∃ g, Af = some ⟨g, 0, none⟩ ∧ w.heap.size + 1 + 1 + 1 ≤ g ∧ MkA w wr wr g i (List.replicate i (.slice none 0 0)) (List.replicate i []) := by
  obtain ⟨css, h1, h2, h3⟩ := h.fr.own
  have hL := h.lens.2.2.1
  rcases h1.2 with ⟨_, h0⟩ | ⟨q, cap, cur, e, hq, hh, hnc, _, hcs, htake⟩
  · omega
  · injection e with e1 e2 e3
    subst e1
    refine ⟨q, rfl, hq, h.bel, Nat.le_refl _, fun _ _ _ => rfl, ⟨by omega, heap_ltM hh⟩, ⟨cur, cur, hh, hh, by rw [hcs]; exact Nat.mul_le_mul (by omega) (Nat.le_refl _), fun t ht => ⟨?_, fun _ _ => rfl⟩⟩, ⟨by simp, by simp⟩, fun t v T hv hT => ?_, fun t t' v u hne hv hu k hk => ?_⟩
    · have := h.nob q rfl t ht
      rw [Blk.cell (show Blk wr q 40 cur from hh)] at this
      rw [this, List.getElem?_replicate, if_pos ht]
    · rw [List.getElem?_replicate] at hv hT
      split at hv
      · rename_i hlt
        rw [if_pos hlt] at hT
        injection hv with hv
        injection hT with hT
        subst hv; subst hT
        exact BdRow.nil _ _ _
      · cases hv
    · rw [List.getElem?_replicate] at hv
      split at hv
      · injection hv with hv
        subst hv
        simp [Value.ownBlock] at hk
      · cases hv
end
end Go.Proofs.Ytpdebnecfknohaa
namespace Go.Proofs.Ytpdebnecfknohaa
open Go.RowKit
set_option linter.unusedVariables false
set_option maxRecDepth 20000
theorem own_set7 {w : World} {base e q n c p : Nat} {xs zs : List Value} (hz : zs.length = 7) (hp : xs.length = p) (h : w.ownsRow base e 7 (.slice (some ⟨q, 0, none⟩) n c) n (xs ++ zs)) (v0 v1 v2 v3 v4 v5 v6 : Value) :
    (((((((w.setCell ⟨q, p, none⟩ v0).setCell ⟨q, p + 1, none⟩ v1).setCell ⟨q, p + 2, none⟩ v2).setCell ⟨q, p + 3, none⟩ v3).setCell ⟨q, p + 4, none⟩ v4).setCell ⟨q, p + 5, none⟩ v5).setCell ⟨q, p + 6, none⟩ v6).ownsRow base e 7 (.slice (some ⟨q, 0, none⟩) n c) n (xs ++ [v0, v1, v2, v3, v4, v5, v6]) := by
  have := ((((((((h.stored p v0).1).stored (p + 1) v1).1.stored (p + 2) v2).1.stored (p + 3) v3).1.stored (p + 4) v4).1.stored (p + 5) v5).1.stored (p + 6) v6).1
  have e : (((((((xs ++ zs).set p v0).set (p + 1) v1).set (p + 2) v2).set (p + 3) v3).set (p + 4) v4).set (p + 5) v5).set (p + 6) v6 = xs ++ [v0, v1, v2, v3, v4, v5, v6] := by
    subst hp
    match zs, hz with
    | [z0, z1, z2, z3, z4, z5, z6], _ => simp
  rwa [e] at this
theorem far7 {w : World} {q p k : Nat} (hk : k ≠ q) (v0 v1 v2 v3 v4 v5 v6 : Value) : (((((((w.setCell ⟨q, p, none⟩ v0).setCell ⟨q, p + 1, none⟩ v1).setCell ⟨q, p + 2, none⟩ v2).setCell ⟨q, p + 3, none⟩ v3).setCell ⟨q, p + 4, none⟩ v4).setCell ⟨q, p + 5, none⟩ v5).setCell ⟨q, p + 6, none⟩ v6).heap[k]? = w.heap[k]? := by
  rw [Below.heap_setCell _ _ _ _ hk, Below.heap_setCell _ _ _ _ hk, Below.heap_setCell _ _ _ _ hk, Below.heap_setCell _ _ _ _ hk, Below.heap_setCell _ _ _ _ hk, Below.heap_setCell _ _ _ _ hk, Below.heap_setCell _ _ _ _ hk]
section
variable {w W1 wr : World} {g n : Nat} {Vs : List Value} {Ts : List (List St7)}
/-- Blocks more. -/
theorem MkA.more (h : MkA w W1 wr g n Vs Ts) {wq : World} (hb : Below wr.heap.size wr wq) : MkA w W1 wq g n Vs Ts := by
  have hs := h.size
  have hz := hb.size
  have hgi := h.gin
  refine ⟨h.bel.trans (hb.mono h.bel.size), by omega, fun k hk hne => (hb.block k (by omega)).trans (h.keep k hk hne), hgi, ?_, h.lens, fun i v T hv hT => ?_, h.apart⟩
  · obtain ⟨cur0, cur, b0, b1, hc⟩ := h.row
    exact ⟨cur0, cur, b0, b1.old hb, hc⟩
  · exact (h.bodies i v T hv hT).kept (fun k hk => hb.block k (h.blk hv k hk).2) (fun k _ hlt => hb.block k hlt) (fun _ h _ => h)
/-- A body's slice. -/
theorem MkA.slice (h : MkA w W1 wr g n Vs Ts) {j : Nat} {v : Value} {T : List St7} (hv : Vs[j]? = some v) (hT : Ts[j]? = some T) : ∃ Ab cb, v = .slice Ab T.length cb := by
  obtain ⟨css, h1, _, _⟩ := (h.bodies j v T hv hT).own
  rcases h1.2 with ⟨e, h0⟩ | ⟨q, cap, cur, e, _⟩
  · exact ⟨none, 0, by rw [e, h0]⟩
  · exact ⟨_, _, e⟩
theorem MkA.push40 (h : MkA w W1 wr g n Vs Ts) {j o nb p : Nat} (hj : j < n) (ho : o = j * 5 + 4) {v : Value} {T : List St7} (hv : Vs[j]? = some v) (hT : Ts[j]? = some T) (hnb : T.length = nb) (hp : p = nb * 7) (hl : nb ≤ 1000) (s : St7) (Aa A : Option Addr) (ca c na nS : Nat) (hna : na = s.xs.length) (hnS : nS = s.sub.len) {wA : World} (hbA : Below wr.heap.size wr wA) (hA : ArgsS (fun k => wr.heap.size ≤ k) wA (.slice Aa na ca) s.xs) (hB : BodyS (fun k => wr.heap.size ≤ k) wA A s.sub) (z : Nat) (hz : Blk wA z 50 #[.int .u8 0, .int .u8 0, .int .i64 0, .int .u8 0, .int .i64 0, .slice none 0 0, .slice none 0 0]) :
    ∃ q5 c5 w5, (Builtin.append_ #[38, 38] 38 #[v, .slice (some ⟨z, 0, none⟩) 1 1]).run Try.prog wA = .ok (.slice (some ⟨q5, 0, none⟩) (nb + 1) c5) w5 ∧ w5.cell? ⟨g, o, none⟩ = some v ∧ w5.frozen? ⟨g, o, none⟩ = false ∧ nb + 1 ≤ c5 ∧ (∀ q, q < W1.heap.size → q ≠ g → w5.heap[q]? = W1.heap[q]?) ∧
      (∀ wz, wz = w5.setCell ⟨g, o, none⟩ (.slice (some ⟨q5, 0, none⟩) (nb + 1) c5) → q5 < wz.heap.size ∧ (wz.cell? ⟨q5, p, none⟩ = some (.int .u8 0) ∧ wz.cell? ⟨q5, p + 1, none⟩ = some (.int .u8 0) ∧ wz.cell? ⟨q5, p + 2, none⟩ = some (.int .i64 0) ∧ wz.cell? ⟨q5, p + 3, none⟩ = some (.int .u8 0) ∧ wz.cell? ⟨q5, p + 4, none⟩ = some (.int .i64 0) ∧ wz.cell? ⟨q5, p + 5, none⟩ = some (.slice none 0 0) ∧ wz.cell? ⟨q5, p + 6, none⟩ = some (.slice none 0 0)) ∧ (∀ t, wz.frozen? ⟨q5, t, none⟩ = false) ∧
        Hid (MkA w W1 (((((((wz.setCell ⟨q5, p, none⟩ (.int .u8 s.k)).setCell ⟨q5, p + 1, none⟩ (.int .u8 s.a.1)).setCell ⟨q5, p + 2, none⟩ (.int .i64 s.a.2)).setCell ⟨q5, p + 3, none⟩ (.int .u8 s.b.1)).setCell ⟨q5, p + 4, none⟩ (.int .i64 s.b.2)).setCell ⟨q5, p + 5, none⟩ (.slice Aa na ca)).setCell ⟨q5, p + 6, none⟩ (.slice A nS c)) g n (Vs.set j (.slice (some ⟨q5, 0, none⟩) (nb + 1) c5)) (Ts.set j (T ++ [s])))) := by
  subst ho; subst hnb; subst hna; subst hnS; subst hp
  obtain ⟨css, h1, h2, h3⟩ := (h.bodies j v T hv hT).own
  have hs0 := h.size
  have hsA2 := hbA.size
  have hgi := h.gin
  have hvb := h.blk hv
  obtain ⟨cur0, cur, b0, b1, hcs, hc⟩ := h.row
  have b3 : Blk wA g 40 cur := b1.old hbA
  have hsA : StS (fun k => wr.heap.size ≤ k) wA [.int .u8 s.k, .int .u8 s.a.1, .int .i64 s.a.2, .int .u8 s.b.1, .int .i64 s.b.2, .slice Aa s.xs.length ca, .slice A s.sub.len c] s := ⟨_, A, c, rfl, hA, hB⟩
  have hzz : ∀ j u, ([.int .u8 0, .int .u8 0, .int .i64 0, .int .u8 0, .int .i64 0, .slice none 0 0, .slice none 0 0] : List Value)[j]? = some u → wA.cell? ⟨z, j, none⟩ = some u := fun j u hj => by
    rw [hz.cell]; simpa using hj
  obtain ⟨q5, c5, w5, hr, hO, hg, hat⟩ := push46 W1.heap.size v T.length css.flatten _ wA (own_old h1 hbA) (by omega) (by omega) z rfl (by intro u hu; simp at hu; rcases hu with rfl | rfl | rfl | rfl | rfl <;> rfl) hzz
  have hgv : some g ≠ v.ownBlock := fun e => by have := hvb g e; omega
  have b5 : Blk w5 g 40 cur := b3.grown hg hgv
  have hq : some q5 = v.ownBlock ∨ wA.heap.size ≤ q5 := by rcases hat with h | h; exact .inl h; exact .inr (by omega)
  have hqg : q5 ≠ g := fun e => by subst e; rcases hq with hq | hq; exact hgv hq; omega
  have hqb : w.heap.size ≤ q5 := by
    rcases hq with hq | hq
    · have := hvb q5 hq; omega
    · have := h.bel.size; omega
  have hlen : css.flatten.length = T.length * 7 := h1.1
  have hcc : T.length + 1 ≤ c5 := by
    rcases hO.2 with ⟨e, _⟩ | ⟨_, cap, _, e, _, _, hh, _⟩
    · cases e
    · injection e with _ _ e; omega
  refine ⟨q5, c5, w5, hr, by rw [b5.cell, (hc j hj).1, hv], b5.frozen _, hcc, fun q hq1 hq2 => ((hg.block q (by omega) (fun e => by have := hvb q e; omega)).trans (hbA.block q (by omega))).trans (h.keep q hq1 hq2), ?_⟩
  rintro wz rfl
  have hOz : (w5.setCell ⟨g, j * 5 + 4, none⟩ (.slice (some ⟨q5, 0, none⟩) (T.length + 1) c5)).ownsRow W1.heap.size 50 7 (.slice (some ⟨q5, 0, none⟩) (T.length + 1) c5) (T.length + 1) (css.flatten ++ [.int .u8 0, .int .u8 0, .int .i64 0, .int .u8 0, .int .i64 0, .slice none 0 0, .slice none 0 0]) :=
    own_blocks hO (fun k hk => Below.heap_setCell w5 ⟨g, j * 5 + 4, none⟩ _ k (fun e => by
        have e1 : k = q5 := by simpa [Value.ownBlock] using hk
        have e2 : k = g := e
        omega))
  have cell : ∀ t, t < 7 → (w5.setCell ⟨g, j * 5 + 4, none⟩ (.slice (some ⟨q5, 0, none⟩) (T.length + 1) c5)).cell? ⟨q5, T.length * 7 + t, none⟩ = ([.int .u8 0, .int .u8 0, .int .i64 0, .int .u8 0, .int .i64 0, .slice none 0 0, .slice none 0 0] : List Value)[t]? := fun t ht => by
    rw [hOz.cellAt _ (by omega), List.getElem?_append_right (by omega), hlen]
    congr 1
    omega
  refine ⟨(hOz.lt q5 rfl).2, ⟨cell 0 (by omega), cell 1 (by omega), cell 2 (by omega), cell 3 (by omega), cell 4 (by omega), cell 5 (by omega), cell 6 (by omega)⟩, fun t => hOz.frozenAt t, ?_⟩
  refine h.core hj hv hT s _ hbA hq (by have := hg.size; simp [World.setCell]; omega) ?_ (fun k hk hkg hkv => ?_) (fun cur' hc' => ?_) css h2 h3 ?_ hsA
  · exact Below.set1 (Below.set1 (Below.set1 (Below.set1 (Below.set1 (Below.set1 (Below.set1 (Below.set1 ((h.bel.trans (hbA.mono h.bel.size)).grown hg (by have := h.bel.size; omega) (fun k hk => by have := hvb k hk.symm; omega)) hgi.1 _) hqb _) hqb _) hqb _) hqb _) hqb _) hqb _) hqb _
  · have hkq : k ≠ q5 := fun e => by subst e; rcases hq with hq | hq; exact hkv hq; omega
    rw [far7 hkq, Below.heap_setCell w5 ⟨g, j * 5 + 4, none⟩ _ k hkg, hg.block k hk hkv]
  · exact (far7 (fun e => hqg e.symm) _ _ _ _ _ _ _).trans ((hc'.grown hg hgv).set_ _ _)
  · exact own_set7 rfl hlen hOz _ _ _ _ _ _ _
end
end Go.Proofs.Ytpdebnecfknohaa
namespace Go.Proofs.Ytpdebnecfknohaa
open Go.RowKit
set_option linter.unusedVariables false
set_option maxRecDepth 20000
def ints (n : Nat) : List Int := (List.range n).map fun (j : Nat) => (j : Int)
theorem ints_succ (n : Nat) : ints (n + 1) = ints n ++ [(n : Int)] := by simp [ints, List.range_succ]
theorem ints_len (n : Nat) : (ints n).length = n := by simp [ints]
/-- The globals' names. -/
def gnames (st n : Nat) : List (List UInt8) := (List.range n).map fun j => nameF (j * st)
theorem gnames_succ (st n : Nat) : gnames st (n + 1) = gnames st n ++ [nameF (n * st)] := by simp [gnames, List.range_succ]
theorem gnames_len (st n : Nat) : (gnames st n).length = n := by simp [gnames]
def pF (F i : Nat) : Nat := (i + F / 4) % 4
def nlF (F i : Nat) : Nat := pF F i + 1 + i % 3
def nsF (i : Nat) : Nat := 1 + i % 2
def fnameF (i : Nat) : List UInt8 := [102, UInt8.ofNat (48 + i)]
def namesF (a n : Nat) : List (List UInt8) := (List.range n).map fun j => nameF (a + j)
def seqI (a n : Nat) : List Int := (List.range n).map fun (j : Nat) => ((a + j : Nat) : Int)
theorem namesF_succ (a n : Nat) : namesF a (n + 1) = namesF a n ++ [nameF (a + n)] := by simp [namesF, List.range_succ]
theorem seqI_succ (a n : Nat) : seqI a (n + 1) = seqI a n ++ [((a + n : Nat) : Int)] := by simp [seqI, List.range_succ]
theorem namesF_len (a n : Nat) : (namesF a n).length = n := by simp [namesF]
theorem seqI_len (a n : Nat) : (seqI a n).length = n := by simp [seqI]
/-- The strings ahead of Canon, behind i functions. -/
def mkS (g0 : List (List UInt8)) (F : Nat) : Nat → List (List UInt8)
  | 0 => g0
  | i + 1 => ((mkS g0 F i ++ [fnameF i]) ++ namesF 100 (nlF F i)) ++ namesF 200 (nsF i)
def mkL (g0 : List (List UInt8)) (F : Nat) : Nat → List Fn
  | 0 => []
  | i + 1 => mkL g0 F i ++ [⟨((mkS g0 F i).length : Int), (pF F i : Int), seqI ((mkS g0 F i).length + 1) (nlF F i), seqI ((mkS g0 F i).length + 1 + nlF F i) (nsF i), .nil⟩]
theorem mkS_len (g0 : List (List UInt8)) (F i : Nat) : (mkS g0 F i).length ≤ g0.length + 10 * i := by
  induction i with
  | zero => simp [mkS]
  | succ i ih =>
    simp only [mkS, List.length_append, namesF_len, List.length_singleton, nlF, nsF, pF]
    omega
/-- The entries. -/
def entsF (E : Nat) : Nat → List Int
  | 0 => []
  | i + 1 => if E / 2 ^ i % 2 = 1 then entsF E i ++ [(i : Int)] else entsF E i
theorem entsF_len (E i : Nat) : (entsF E i).length ≤ i := by
  induction i with
  | zero => simp [entsF]
  | succ i ih =>
    simp only [entsF]
    split
    · simp; omega
    · omega
/-- An act. -/
structure Ac where
  k : Nat
  a : Nat
  b : Nat
  c : Nat
/-- Where an act goes. -/
def actJ (n na i : Nat) : Nat := if na < 60 then i * n / na else i * n / 60
/-- The bodies behind so many acts. -/
def mkT (F ng n na : Nat) (acts : List Ac) : Nat → List (List St7)
  | 0 => List.replicate n []
  | i + 1 => (mkT F ng n na acts i).set (actJ n na i) ((mkT F ng n na acts i).getD (actJ n na i) [] ++ [stm (nlF F (actJ n na i)) ng n (nsF (actJ n na i)) (pF F) (acts.getD i ⟨0, 0, 0, 0⟩).k (acts.getD i ⟨0, 0, 0, 0⟩).a (acts.getD i ⟨0, 0, 0, 0⟩).b (acts.getD i ⟨0, 0, 0, 0⟩).c])
theorem mkT_len (F ng n na : Nat) (acts : List Ac) (k : Nat) : (mkT F ng n na acts k).length = n := by
  induction k with
  | zero => simp [mkT]
  | succ k ih => simp [mkT, ih]
theorem mkT_le (F ng n na : Nat) (acts : List Ac) (k : Nat) : ∀ T ∈ mkT F ng n na acts k, T.length ≤ k := by
  induction k with
  | zero => intro T hT; simp [mkT] at hT; simp [hT.2]
  | succ k ih =>
    intro T hT
    simp only [mkT] at hT
    rcases List.mem_or_eq_of_mem_set hT with h | rfl
    · have := ih T h; omega
    · simp only [List.length_append, List.length_singleton]
      by_cases hj : actJ n na k < (mkT F ng n na acts k).length
      · have := ih _ (List.getElem_mem hj)
        rw [List.getD_eq_getElem?_getD, List.getElem?_eq_getElem hj]
        simpa using this
      · rw [List.getD_eq_getElem?_getD, List.getElem?_eq_none (by omega)]
        simp
theorem mkL_len (g0 : List (List UInt8)) (F i : Nat) : (mkL g0 F i).length = i := by
  induction i with
  | zero => rfl
  | succ i ih => simp [mkL, ih]
theorem mkL_get (g0 : List (List UInt8)) (F n i : Nat) (h : i < n) : (mkL g0 F n)[i]? = some ⟨((mkS g0 F i).length : Int), (pF F i : Int), seqI ((mkS g0 F i).length + 1) (nlF F i), seqI ((mkS g0 F i).length + 1 + nlF F i) (nsF i), .nil⟩ := by
  induction n with
  | zero => omega
  | succ n ih =>
    simp only [mkL]
    by_cases hi : i < n
    · rw [List.getElem?_append_left (by rw [mkL_len]; exact hi)]
      exact ih hi
    · obtain rfl : i = n := by omega
      rw [List.getElem?_append_right (by rw [mkL_len]; exact Nat.le_refl _), mkL_len, Nat.sub_self]
      rfl
def AcsAt (w : World) (A : Option Addr) (l : List Ac) : Prop := 0 < l.length → ∃ b o, A = some ⟨b, o, none⟩ ∧ ∀ i (h : i < l.length), w.cell? ⟨b, o + i * 4, none⟩ = some (.int .u8 (l[i].k : Int)) ∧ w.cell? ⟨b, o + i * 4 + 1, none⟩ = some (.int .u8 (l[i].a : Int)) ∧ w.cell? ⟨b, o + i * 4 + 2, none⟩ = some (.int .u8 (l[i].b : Int)) ∧ w.cell? ⟨b, o + i * 4 + 3, none⟩ = some (.int .u8 (l[i].c : Int))
theorem own_lt {w : World} {base e size n : Nat} {v : Value} {xs : List Value} (h : w.ownsRow base e size v n xs) : ∀ k, some k = v.ownBlock → k < w.heap.size := fun k hk => by
  rcases h.2 with ⟨rfl, _⟩ | ⟨q, cap, cur, rfl, hq, hh, _⟩
  · simp [Value.ownBlock] at hk
  · have : k = q := by simpa [Value.ownBlock] using hk
    subst this
    exact heap_ltM hh
theorem own_ge {w : World} {base e size n : Nat} {v : Value} {xs : List Value} (h : w.ownsRow base e size v n xs) : ∀ k, some k = v.ownBlock → base ≤ k := fun k hk => by
  rcases h.2 with ⟨rfl, _⟩ | ⟨q, cap, cur, rfl, hq, hh, _⟩
  · simp [Value.ownBlock] at hk
  · have : k = q := by simpa [Value.ownBlock] using hk
    subst this
    exact hq
/-- Functions and their bodies. -/
def fillB (L : List Fn) (Ts : List (List St7)) : List Fn := List.zipWith (fun f T => ⟨f.name, f.params, f.locals, f.sites, bdOf T⟩) L Ts
theorem fillB_len (L : List Fn) (Ts : List (List St7)) (h : Ts.length = L.length) : (fillB L Ts).length = L.length := by simp [fillB, h]
theorem fillB_mem {L : List Fn} {Ts : List (List St7)} {f : Fn} (h : f ∈ fillB L Ts) : ∃ f0 ∈ L, f.name = f0.name ∧ f.locals = f0.locals ∧ f.sites = f0.sites := by
  obtain ⟨i, hi, rfl⟩ := List.mem_iff_getElem.1 h
  simp only [fillB, List.getElem_zipWith]
  exact ⟨_, List.getElem_mem _, rfl, rfl, rfl⟩
section
variable {w W1 wr : World} {g n : Nat} {Vs : List Value} {Ts : List (List St7)}
theorem MkA.done (h : MkA w W1 wr g n Vs Ts) {D Z : Array Value} {B3 : Nat} {S : List (List UInt8)} {gl : List Int} {L : List Fn} {En : List Int} {As Ag Ae : Option Addr} {ns cs ng cg cf ne ce : Nat} (hE : MkE w W1 D Z B3 S gl L En As ns cs Ag ng cg (some ⟨g, 0, none⟩) n cf Ae ne ce) :
    RdS (fun _ => True) wr As ns 1 (strV S) ∧ RdS (fun _ => True) wr Ag ng 1 (intV gl) ∧ wr.ownsRow B3 3 1 (.slice Ae ne ce) ne (intV En) ∧ FnsS (fun k => w.heap.size + 1 + 1 + 1 ≤ k) wr (some ⟨g, 0, none⟩) (fillB L Ts) := by
  obtain ⟨cur0, cur, b0, b1, hcs, hc⟩ := h.row
  have hkp : ∀ {base e m c : Nat} {A : Option Addr} {xs : List Value}, e ≠ 40 → W1.ownsRow base e 1 (.slice A m c) m xs → wr.ownsRow base e 1 (.slice A m c) m xs := fun he ho => own_blocks ho (fun k hk => h.keep k (own_lt ho k hk) (fun e2 => by subst e2; exact own_ne ho b0 he hk))
  have hb := hE.b3
  have hs := h.size
  refine ⟨(RdS.own (hkp (by decide) hE.os)).below (fun _ _ => trivial), (RdS.own (hkp (by decide) hE.og)).below (fun _ _ => trivial), hkp (by decide) hE.oe, fun hp => ⟨g, 0, rfl, (hE.fr.blk g rfl).1, fun i hi => ?_⟩⟩
  have hL := hE.lens.2.2.1
  have hiL : i < L.length := by rw [fillB_len _ _ (by rw [h.lens.2, hL])] at hi; exact hi
  have hiT : i < Ts.length := by rw [h.lens.2, ← hL]; exact hiL
  obtain ⟨Al, cl, At, ct, v, hv, ⟨f0, f1, f2, f3, f4⟩, r1, r2⟩ := h.fn hE.fr hL i hiL
  obtain ⟨Ab, cb, rfl⟩ := h.slice hv (List.getElem?_eq_getElem hiT)
  have hvb := h.blk hv
  obtain ⟨hB, hBl⟩ := (h.bodies i _ _ hv (List.getElem?_eq_getElem hiT)).body (S := fun k => w.heap.size + 1 + 1 + 1 ≤ k) (fun k hk _ => by have := hk.1; omega) (fun k hk => by have := hvb k hk; omega)
  have e : (fillB L Ts)[i] = ⟨L[i].name, L[i].params, L[i].locals, L[i].sites, bdOf Ts[i]⟩ := by simp [fillB]
  have kk : Kept (fun k => k ≠ g ∧ (some k ≠ (Value.slice As ns cs).ownBlock ∧ w.heap.size + 1 + 1 + 1 ≤ k ∧ k < B3)) W1 wr := fun k hk hl => h.keep k hl hk.1
  rw [hBl] at f4
  refine ⟨[.int .i64 L[i].name, .int .i64 L[i].params, .slice Al L[i].locals.length cl, .slice At L[i].sites.length ct, .slice Ab (bdOf Ts[i]).len cb], ?_, fun j u hj => ?_⟩
  · rw [e]
    exact ⟨Al, cl, At, ct, Ab, cb, rfl, r1.kept kk (fun k hk _ => hk.2.2.1) (by decide), r2.kept kk (fun k hk _ => hk.2.2.1) (by decide), hB⟩
  · rw [Nat.zero_add]
    match j, hj with
    | 0, hj => injection hj with hj; subst hj; exact f0
    | 1, hj => injection hj with hj; subst hj; exact f1
    | 2, hj => injection hj with hj; subst hj; exact f2
    | 3, hj => injection hj with hj; subst hj; exact f3
    | 4, hj => injection hj with hj; subst hj; exact f4
end
theorem mkS_mono (g0 : List (List UInt8)) (F i n : Nat) (h : i ≤ n) : (mkS g0 F i).length ≤ (mkS g0 F n).length := by
  induction n with
  | zero => obtain rfl : i = 0 := by omega
            exact Nat.le_refl _
  | succ n ih =>
    by_cases hi : i = n + 1
    · subst hi; exact Nat.le_refl _
    · refine Nat.le_trans (ih (by omega)) ?_
      simp only [mkS, List.length_append]
      omega
theorem mkL_ok (g0 : List (List UInt8)) (F n : Nat) (f : Fn) (h : f ∈ mkL g0 F n) : (0 ≤ f.name ∧ f.name < (mkS g0 F n).length) ∧ (f.locals.length ≤ 1000 ∧ ∀ i ∈ f.locals, 0 ≤ i ∧ i < (mkS g0 F n).length) ∧ (f.sites.length ≤ 1000 ∧ ∀ i ∈ f.sites, 0 ≤ i ∧ i < (mkS g0 F n).length) := by
  obtain ⟨i, hi, rfl⟩ := List.mem_iff_getElem.1 h
  have hin : i < n := by rw [mkL_len] at hi; exact hi
  have e := mkL_get g0 F n i hin
  rw [List.getElem?_eq_getElem hi, Option.some.injEq] at e
  rw [e]
  have h1 := mkS_mono g0 F (i + 1) n hin
  simp only [mkS, List.length_append, namesF_len, List.length_singleton] at h1
  have hb : nlF F i ≤ 10 ∧ nsF i ≤ 10 := by unfold nlF nsF pF; omega
  refine ⟨by dsimp only; omega, ⟨by rw [seqI_len]; omega, fun x hx => ?_⟩, ⟨by rw [seqI_len]; omega, fun x hx => ?_⟩⟩ <;>
  · simp only [seqI, List.mem_map, List.mem_range] at hx
    obtain ⟨t, ht, rfl⟩ := hx
    omega
/-- What Make makes ahead of Canon. -/
def mkM (gs : List (List UInt8)) (gl : List Int) (F E : Nat) (acts : List Ac) : Md :=
  ⟨mkS gs F (1 + F % 4), gl, fillB (mkL gs F (1 + F % 4)) (mkT F gl.length (1 + F % 4) acts.length acts (min acts.length 60)), entsF E (1 + F % 4)⟩
theorem mkM_ok (g0 : List (List UInt8)) (gl : List Int) (F n : Nat) (Ts : List (List St7)) (En : List Int) (hn : n ≤ 4) (hg : g0.length ≤ 4) (hgl : gl.length ≤ 4) (hb : ∀ x ∈ gl, 0 ≤ x ∧ x < (g0.length : Int)) (hT : Ts.length = n) : (Md.mk (mkS g0 F n) gl (fillB (mkL g0 F n) Ts) En).Ok := by
  have h0 := mkS_len g0 F n
  have h1 := mkS_mono g0 F 0 n (Nat.zero_le _)
  simp only [mkS] at h1
  refine ⟨by dsimp only; omega, ⟨by dsimp only; omega, fun x hx => ?_⟩, ?_, fun f hf => ?_⟩
  · have := hb x hx; dsimp only; omega
  · dsimp only; rw [fillB_len _ _ (by rw [hT, mkL_len]), mkL_len]; omega
  · obtain ⟨f0, hf0, e1, e2, e3⟩ := fillB_mem hf
    have := mkL_ok g0 F n f0 hf0
    rw [e1, e2, e3]
    exact this
/-- What a module leaves behind that was made: rows of its own. -/
def MkPost (w : World) (M : Md) (e : Ending) (w' : World) : Prop :=
  ∃ Al cl A2 c2 Ax cx Ae ce, e = .returned (.agg #[.slice Al M.strs.length cl, .slice A2 M.globs.length c2, .slice Ax M.funcs.length cx, .slice Ae M.ents.length ce]) ∧
    w'.ownsRow w.heap.size 9 1 (.slice Al M.strs.length cl) M.strs.length (strV M.strs) ∧
    w'.ownsRow w.heap.size 3 1 (.slice A2 M.globs.length c2) M.globs.length (intV M.globs) ∧
    FnRow w' w.heap.size (fun k => w.heap.size ≤ k) (.slice Ax M.funcs.length cx) M.funcs ∧
    w'.ownsRow w.heap.size 3 1 (.slice Ae M.ents.length ce) M.ents.length (intV M.ents) ∧ Below w.heap.size w w'
theorem own_base {w : World} {base base' e size n : Nat} {v : Value} {xs : List Value} (h : w.ownsRow base e size v n xs) (hb : base' ≤ base) : w.ownsRow base' e size v n xs := by
  refine ⟨h.1, ?_⟩
  rcases h.2 with h | ⟨k, cap, cur, hv, hq, rest⟩
  · exact .inl h
  · exact .inr ⟨k, cap, cur, hv, Nat.le_trans hb hq, rest⟩
end Go.Proofs.Ytpdebnecfknohaa
namespace Go.Proofs.Ytpdebnecfknohaa
open Go.RowKit
set_option linter.unusedVariables false
set_option maxRecDepth 20000
set_option linter.unusedSimpArgs false
/-- What several ways come to, shown once. -/
theorem later5 {A : Prop} {F X : World → Option Addr → Option Addr → Nat → Nat → Prop} (h1 : (∀ w a b c d, F w a b c d → X w a b c d) → A) (h2 : ∀ w a b c d, F w a b c d → X w a b c d) : A := h1 h2
theorem listed_eq {P : Program} {md : Region.Mode} {ops : Array Oper} {Q : Exit → Act → World → Prop} {S : World → Prop} {fuel : Nat} {l l' : Array Bool} {a : Act} {w : World} (h : l = l') (hw : wpAnyH P md ops Q S fuel l' a w) : wpAnyH P md ops Q S fuel l a w := by rw [h]; exact hw
end Go.Proofs.Ytpdebnecfknohaa
namespace Go.Proofs.Ytpdebnecfknohaa
open Go.RowKit
set_option linter.unusedVariables false
set_option maxRecDepth 20000
/-- A function's cells: names and sites in blocks of S1, its body in blocks of S2, its body's slice meets P. -/
def FnP (P : Value → Prop) (S1 S2 : Nat → Prop) (w : World) (cs : List Value) (f : Fn) : Prop := ∃ Al cl As cs' Ab cb, cs = [.int .i64 f.name, .int .i64 f.params, .slice Al f.locals.length cl, .slice As f.sites.length cs', .slice Ab f.body.len cb] ∧ P (.slice Ab f.body.len cb) ∧ RdS S1 w Al f.locals.length 1 (intV f.locals) ∧ RdS S1 w As f.sites.length 1 (intV f.sites) ∧ BodyS S2 w Ab f.body
theorem FnP.kept {P : Value → Prop} {S1 S2 S1' S2' : Nat → Prop} {w w' : World} {cs : List Value} {f : Fn} (h : FnP P S1 S2 w cs f) (hk1 : Kept S1 w w') (hk2 : Kept S2 w w') (hS1 : ∀ k, S1 k → k < w.heap.size → S1' k) (hS2 : ∀ k, S2 k → k < w.heap.size → S2' k) : FnP P S1' S2' w' cs f := by
  obtain ⟨Al, cl, As, cs', Ab, cb, h1, hp, h2, h3, h4⟩ := h
  exact ⟨Al, cl, As, cs', Ab, cb, h1, hp, h2.kept hk1 hS1 (by decide), h3.kept hk1 hS1 (by decide), h4.kept hk2 hS2⟩
theorem FnP.fn {P : Value → Prop} {S1 S2 : Nat → Prop} {w : World} {cs : List Value} {f : Fn} (h : FnP P S1 S2 w cs f) : FnS (fun k => S1 k ∨ S2 k) w cs f := by
  obtain ⟨Al, cl, As, cs', Ab, cb, h1, hp, h2, h3, h4⟩ := h
  exact ⟨Al, cl, As, cs', Ab, cb, h1, h2.below (fun _ h => .inl h), h3.below (fun _ h => .inl h), h4.kept (fun _ _ _ => rfl) (fun _ h _ => .inr h)⟩
/-- Functions in a row of the call's own, whose other blocks are not that row's. -/
structure FnRowP (P : Nat → Value → Prop) (w : World) (base : Nat) (X1 X2 : Nat → Prop) (v : Value) (L : List Fn) : Prop where
  own : ∃ css : List (List Value), w.ownsRow base 40 5 v L.length css.flatten ∧ css.length = L.length ∧ ∀ i (h : i < L.length), ∃ cs, css[i]? = some cs ∧ FnP (P i) (fun k => some k ≠ v.ownBlock ∧ X1 k) (fun k => some k ≠ v.ownBlock ∧ X2 k) w cs L[i]
theorem FnRowP.nil (P : Nat → Value → Prop) (w : World) (base : Nat) (X1 X2 : Nat → Prop) : FnRowP P w base X1 X2 (.slice none 0 0) [] := ⟨[], ⟨rfl, .inl ⟨rfl, rfl⟩⟩, rfl, fun i h => by simp at h⟩
theorem FnRowP.blk {P : Nat → Value → Prop} {w : World} {base : Nat} {X1 X2 : Nat → Prop} {v : Value} {L : List Fn} (h : FnRowP P w base X1 X2 v L) : ∀ k, some k = v.ownBlock → base ≤ k ∧ k < w.heap.size ∧ ∃ cur, Blk w k 40 cur := fun k hk => by
  obtain ⟨css, h1, _, _⟩ := h.own
  rcases h1.2 with ⟨rfl, _⟩ | ⟨q, cap, cur, rfl, hq, hh, _⟩
  · simp [Value.ownBlock] at hk
  · have : k = q := by simpa [Value.ownBlock] using hk
    subst this
    exact ⟨hq, heap_ltM hh, cur, hh⟩
/-- Blocks that this row and its functions lie in are as they were. -/
theorem FnRowP.kept {P : Nat → Value → Prop} {w w' : World} {base : Nat} {X1 X2 X1' X2' : Nat → Prop} {v : Value} {L : List Fn} (h : FnRowP P w base X1 X2 v L) (hv : ∀ k, some k = v.ownBlock → w'.heap[k]? = w.heap[k]?) (hk : ∀ k, X1 k ∨ X2 k → k < w.heap.size → w'.heap[k]? = w.heap[k]?) (hX1 : ∀ k, X1 k → k < w.heap.size → X1' k) (hX2 : ∀ k, X2 k → k < w.heap.size → X2' k) : FnRowP P w' base X1' X2' v L := by
  obtain ⟨css, h1, h2, h3⟩ := h.own
  refine ⟨css, own_blocks h1 hv, h2, fun i hi => ?_⟩
  obtain ⟨cs, e, hf⟩ := h3 i hi
  exact ⟨cs, e, hf.kept (fun k hk' hlt => hk k (.inl hk'.2) hlt) (fun k hk' hlt => hk k (.inr hk'.2) hlt) (fun k hk' hlt => ⟨hk'.1, hX1 k hk'.2 hlt⟩) (fun k hk' hlt => ⟨hk'.1, hX2 k hk'.2 hlt⟩)⟩
theorem FnRowP.old {P : Nat → Value → Prop} {w w' : World} {base : Nat} {X1 X2 : Nat → Prop} {v : Value} {L : List Fn} (h : FnRowP P w base X1 X2 v L) (hb : Below w.heap.size w w') : FnRowP P w' base X1 X2 v L :=
  h.kept (fun k hk => hb.block k (h.blk k hk).2.1) (fun k _ hlt => hb.block k hlt) (fun _ h _ => h) (fun _ h _ => h)
/-- One function more, in a row; w4 the world ahead of it. -/
theorem FnRowP.push {P : Nat → Value → Prop} {w4 : World} {base : Nat} {X1 X2 : Nat → Prop} {v : Value} {L : List Fn} (h : FnRowP P w4 base X1 X2 v L) (hl : L.length ≤ 1000000) (hb : base ≤ w4.heap.size) (f : Fn) (A1 A2 A3 : Option Addr) (c1 c2 c3 : Nat)
    (hf : FnP (P L.length) (fun k => some k ≠ v.ownBlock ∧ X1 k) (fun k => some k ≠ v.ownBlock ∧ X2 k) w4 [.int .i64 f.name, .int .i64 f.params, .slice A1 f.locals.length c1, .slice A2 f.sites.length c2, .slice A3 f.body.len c3] f) :
    ∃ q c w', (Builtin.append_ #[28, 28] 28 #[v, .slice (some ⟨w4.heap.size, 0, none⟩) 1 1]).run Try.prog (w4.alloc (.cells #[.int .i64 f.name, .int .i64 f.params, .slice A1 f.locals.length c1, .slice A2 f.sites.length c2, .slice A3 f.body.len c3] 40)) = .ok (.slice (some ⟨q, 0, none⟩) (L.length + 1) c) w' ∧ (some q = v.ownBlock ∨ q = w4.heap.size + 1) ∧ (w4.alloc (.cells #[.int .i64 f.name, .int .i64 f.params, .slice A1 f.locals.length c1, .slice A2 f.sites.length c2, .slice A3 f.body.len c3] 40)).grownBy w' v.ownBlock ∧ FnRowP P w' base X1 X2 (.slice (some ⟨q, 0, none⟩) (L.length + 1) c) (L ++ [f]) ∧ ((∀ k, some k = v.ownBlock → ∀ j, j < L.length * 5 → w'.cell? ⟨q, j, none⟩ = w4.cell? ⟨k, j, none⟩) ∧ w'.cell? ⟨q, L.length * 5 + 4, none⟩ = some (.slice A3 f.body.len c3)) := by
  obtain ⟨css, h1, h2, h3⟩ := h.own
  obtain ⟨q, c, w', hr, hO, hg, hat⟩ := pushF base v L.length css.flatten f.name f.params A1 A2 A3 f.locals.length f.sites.length f.body.len c1 c2 c3 w4 h1 hl hb
  refine ⟨q, c, w', hr, hat, hg, ⟨css ++ [[.int .i64 f.name, .int .i64 f.params, .slice A1 f.locals.length c1, .slice A2 f.sites.length c2, .slice A3 f.body.len c3]], ?_, by simp [h2], fun i hi => ?_⟩, fun k hk j hj => ?_, ?_⟩
  · rw [show (L ++ [f]).length = L.length + 1 from by simp, List.flatten_append]
    simpa using hO
  · have hkp : ∀ X : Nat → Prop, ∀ k, (some k ≠ v.ownBlock ∧ X k) → k < w4.heap.size → w'.heap[k]? = w4.heap[k]? := fun X k hk hlt => by
      rw [hg.block k (by simp; omega) hk.1, heap_alloc_old _ _ hlt]
    have hS : ∀ X : Nat → Prop, ∀ k, (some k ≠ v.ownBlock ∧ X k) → k < w4.heap.size → (some k ≠ (Value.slice (some ⟨q, 0, none⟩) (L.length + 1) c).ownBlock ∧ X k) := fun X k hkx hlt => by
      refine ⟨?_, hkx.2⟩
      have hk := hkx.1
      intro e
      have e : k = q := by simpa [Value.ownBlock] using e
      subst e
      rcases hat with h | h
      · exact hk h
      · omega
    by_cases hlt : i < L.length
    · obtain ⟨cs, e, hfi⟩ := h3 i hlt
      refine ⟨cs, by rw [List.getElem?_append_left (by omega)]; exact e, ?_⟩
      rw [List.getElem_append_left hlt]
      exact hfi.kept (hkp _) (hkp _) (hS _) (hS _)
    · obtain rfl : i = L.length := by simp at hi; omega
      refine ⟨[.int .i64 f.name, .int .i64 f.params, .slice A1 f.locals.length c1, .slice A2 f.sites.length c2, .slice A3 f.body.len c3], by rw [List.getElem?_append_right (by omega), h2, Nat.sub_self]; rfl, ?_⟩
      rw [List.getElem_append_right (Nat.le_refl _)]
      simp only [Nat.sub_self, List.getElem_cons_zero]
      exact hf.kept (hkp _) (hkp _) (hS _) (hS _)
  · rw [hO.cellAt j (by omega), List.getElem?_append_left (by rw [h1.1]; exact hj)]
    rcases h1.2 with ⟨e, _⟩ | ⟨g, cap, cur, e, _⟩
    · rw [e] at hk; simp [Value.ownBlock] at hk
    · rw [e] at h1 hk
      have e1 : k = g := by simpa [Value.ownBlock] using hk
      subst e1
      exact (h1.cellAt j hj).symm
  · rw [hO.cellAt _ (by omega), List.getElem?_append_right (by rw [h1.1]; omega), h1.1]
    simp
/-- Canon's one function more. -/
theorem can_pushP {P : Nat → Value → Prop} {Sb : Nat → Prop} {w wo wb w4 : World} {v : Value} {L : List Fn} {X1 X2 : Nat → Prop} (nv fpr : Int) (lo si : List Int) (bo : Bd) (A4 A5 Ab : Option Addr) (c4 c5 cb nlo nsi nb j : Nat) (hlo : nlo = lo.length) (hsi : nsi = si.length) (hnb : nb = bo.len) (hj : L.length = j)
    (hw : w.heap.size ≤ wo.heap.size) (hwo : wo.heap.size ≤ wb.heap.size) (hw4 : Below w.heap.size w w4) (hb4 : Below wb.heap.size wb w4) (hR : FnRowP P wb wo.heap.size X1 X2 v L) (hP : P j (.slice Ab nb cb)) (hl : j ≤ 1000000)
    (h4 : w4.ownsRow wb.heap.size 3 1 (.slice A4 nlo c4) nlo (intV lo)) (h5 : w4.ownsRow wb.heap.size 3 1 (.slice A5 nsi c5) nsi (intV si)) (hb : BodyS Sb w Ab bo) (hX1 : ∀ k, wb.heap.size ≤ k → X1 k) (hX2 : ∀ k, Sb k → k < w.heap.size → X2 k) :
    ∃ q c w5, (Builtin.append_ #[28, 28] 28 #[v, .slice (some ⟨w4.heap.size, 0, none⟩) 1 1]).run Try.prog (w4.alloc (.cells #[.int .i64 nv, .int .i64 fpr, .slice A4 nlo c4, .slice A5 nsi c5, .slice Ab nb cb] 40)) = .ok (.slice (some ⟨q, 0, none⟩) (j + 1) c) w5 ∧ (∀ k, some k ≠ v.ownBlock → k < w4.heap.size → w5.heap[k]? = w4.heap[k]?) ∧ wo.heap.size ≤ q ∧ Below wo.heap.size w4 w5 ∧ FnRowP P w5 wo.heap.size X1 X2 (.slice (some ⟨q, 0, none⟩) (j + 1) c) (L ++ [⟨nv, fpr, lo, si, bo⟩]) := by
  subst hlo; subst hsi; subst hnb; subst hj
  have hz := hb4.size
  have hfS : FnP (P L.length) (fun k => some k ≠ v.ownBlock ∧ X1 k) (fun k => some k ≠ v.ownBlock ∧ X2 k) w4 [.int .i64 nv, .int .i64 fpr, .slice A4 lo.length c4, .slice A5 si.length c5, .slice Ab bo.len cb] ⟨nv, fpr, lo, si, bo⟩ := by
    have hup : ∀ k, wb.heap.size ≤ k → some k ≠ v.ownBlock ∧ X1 k := fun k hk => ⟨fun e => by have := (hR.blk k e).2.1; omega, hX1 k hk⟩
    refine ⟨A4, c4, A5, c5, Ab, cb, rfl, hP, (RdS.own h4).below hup, (RdS.own h5).below hup, hb.kept (fun k _ hk => hw4.block k hk) (fun k hSk hk => ⟨fun e => by have := (hR.blk k e).1; omega, hX2 k hSk hk⟩)⟩
  obtain ⟨q, c, w5, hr, hat, hg, hF, _⟩ := FnRowP.push (hR.old hb4) hl (by omega) ⟨nv, fpr, lo, si, bo⟩ A4 A5 Ab c4 c5 cb hfS
  refine ⟨q, c, w5, hr, fun k hk hlt => by rw [hg.block k (by simp; omega) hk, heap_alloc_old _ _ hlt], ?_, ?_, hF⟩
  · rcases hat with h | h
    · exact (hR.blk q h).1
    · omega
  · exact ((Below.refl _ w4).alloc (by omega) _).grown hg (by simp; omega) (fun k hk => (hR.blk k hk.symm).1)
end Go.Proofs.Ytpdebnecfknohaa
