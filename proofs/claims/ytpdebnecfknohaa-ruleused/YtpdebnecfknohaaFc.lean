
/-
  What the closure of Flat leaves.
-/
import Derived.Test.YtpdebnecfknohaaFl
namespace Go.Proofs.Ytpdebnecfknohaa
open Go.RowKit
set_option linter.unusedVariables false
set_option maxRecDepth 20000

/-- A list of items that a box holds, of the call's own; and what is left as it was. -/
structure FlI (w0 w : World) (g : Nat) (v : Value) (L : List It) : Prop where
  box : Blk w g 81 #[v]
  row : ItRow 84 w w0.heap.size (fun k => k ≠ g) v L
  bel : Below w0.heap.size w0 w
  gin : w0.heap.size ≤ g
/-- Blocks other than the box and the row are as they were. -/
structure FlK (w w' : World) (g : Nat) (v v' : Value) : Prop where
  size : w.heap.size ≤ w'.heap.size
  block : ∀ k, k < w.heap.size → k ≠ g → some k ≠ v.ownBlock → w'.heap[k]? = w.heap[k]?
  own : ∀ k, some k = v'.ownBlock → some k = v.ownBlock ∨ w.heap.size ≤ k
theorem FlK.refl (w : World) (g : Nat) (v : Value) : FlK w w g v v := ⟨Nat.le_refl _, fun _ _ _ _ => rfl, fun _ h => .inl h⟩
theorem FlK.trans {a b c : World} {g : Nat} {v v' v'' : Value} (h : FlK a b g v v') (h' : FlK b c g v' v'') : FlK a c g v v'' :=
  ⟨Nat.le_trans h.size h'.size, fun k hk hg hv => (h'.block k (Nat.lt_of_lt_of_le hk h.size) hg (fun e => by
      rcases h.own k e with e | e
      · exact hv e
      · omega)).trans (h.block k hk hg hv), fun k hk => by
    rcases h'.own k hk with e | e
    · exact h.own k e
    · exact .inr (Nat.le_trans h.size e)⟩
theorem FlI.more {w0 w w' : World} {g : Nat} {v : Value} {L : List It} (h : FlI w0 w g v L) (hb : Below w.heap.size w w') : FlI w0 w' g v L :=
  ⟨h.box.old hb, h.row.old hb, h.bel.trans (hb.mono h.bel.size), h.gin⟩
theorem FlK.more {w w1 w' : World} {g : Nat} {v v' : Value} (hb : Below w.heap.size w w1) (h : FlK w1 w' g v v') : FlK w w' g v v' :=
  ⟨Nat.le_trans hb.size h.size, fun k hk hg hv => (h.block k (Nat.lt_of_lt_of_le hk hb.size) hg hv).trans (hb.block k hk), fun k hk => by
    rcases h.own k hk with e | e
    · exact .inl e
    · exact .inr (Nat.le_trans hb.size e)⟩

set_option maxRecDepth 20000 in
set_option maxHeartbeats 2000000 in
theorem cloF_any (w0 : World) (x : It) (Aa As : Option Addr) (ca cs g : Nat) (v : Value) (L : List It) (w : World) (h : FlI w0 w g v L) (hl : L.length ≤ 100000000) (hx : x.xs.length ≤ 1000000000) (hs : x.sub.len ≤ 1000000000) (ha : ArgsAt w0 (.slice Aa x.xs.length ca) x.xs) (hb : BodyV w0 As x.sub) :
    Calls Try.prog 64 #[.int .i64 (x.deep : Int), .agg #[.int .u8 x.k, .int .u8 x.a1, .int .i64 x.a2, .int .u8 x.b1, .int .i64 x.b2, .slice Aa x.xs.length ca, .slice As x.sub.len cs], .pointer (some ⟨g, 0, none⟩)] w fun e w' => e = .returned (.tuple #[]) ∧ ∃ v', FlI w0 w' g v' (L ++ [x]) ∧ FlK w w' g v v' := by
  obtain ⟨deep, k, a1, a2, b1, b2, xs, sub⟩ := x
  dsimp only at *
  obtain ⟨A, c, rfl⟩ := h.row.slice
  have HI := Lib.hid h
  have HAr := Lib.hid ha
  have HBd := Lib.hid hb
  have hgl : g < w.heap.size := h.box.lt
  obtain ⟨n, hn⟩ : ∃ n, n = L.length := ⟨_, rfl⟩
  obtain ⟨nx, hnx⟩ : ∃ nx, nx = xs.length := ⟨_, rfl⟩
  obtain ⟨nb, hnb⟩ : ∃ nb, nb = sub.len := ⟨_, rfl⟩
  have HN := Lib.hid hn
  have HNX := Lib.hid hnx
  have HNB := Lib.hid hnb
  have hCl := cloneR_any Aa ca xs (w.alloc (.cells #[.int .u8 k, .int .u8 a1, .int .i64 a2, .int .u8 b1, .int .i64 b2, .slice Aa nx ca, .slice As nb cs] 50)) (ha.old (h.bel.alloc h.bel.size _)) hx
  rw [← hnx] at hCl
  have HCl := Lib.hid hCl
  have HB0 : Hid (Below w.heap.size w (w.alloc (.cells #[.int .u8 k, .int .u8 a1, .int .i64 a2, .int .u8 b1, .int .i64 b2, .slice Aa nx ca, .slice As nb cs] 50))) := (Below.refl _ _).alloc (Nat.le_refl _) _
  have HK0 : Hid (Blk (w.alloc (.cells #[.int .u8 k, .int .u8 a1, .int .i64 a2, .int .u8 b1, .int .i64 b2, .slice Aa nx ca, .slice As nb cs] 50)) w.heap.size 50 #[.int .u8 k, .int .u8 a1, .int .i64 a2, .int .u8 b1, .int .i64 b2, .slice Aa nx ca, .slice As nb cs]) := Blk.new w 50 _
  rw [← hn] at hl ⊢
  rw [← hnx] at hx ⊢
  rw [← hnb] at hs ⊢
  clear h ha hb hCl hn hnx hnb
  have hsz0 : w.heap.size < (w.alloc (.cells #[.int .u8 k, .int .u8 a1, .int .i64 a2, .int .u8 b1, .int .i64 b2, .slice Aa nx ca, .slice As nb cs] 50)).heap.size := by simp
  go_enter Try.func64, Try.ntmps64
  go_upto_region 1 with (fail)
  generalize w.alloc (.cells #[.int .u8 k, .int .u8 a1, .int .i64 a2, .int .u8 b1, .int .i64 b2, .slice Aa nx ca, .slice As nb cs] 50) = w1 at *
  obtain ⟨p0, p1, p2, p3, p4, p5, p6⟩ := HK0.out.c7
  go_wp2_with fail
  refine HCl.out.mono ?_
  rintro e w2 ⟨A2, c2, rfl, hA2, hB2⟩
  have hK2 := HK0.out.old hB2
  have hS2 : w.heap.size < w2.heap.size := hK2.lt
  have HK2 : Hid (Blk (w2.setCell ⟨w.heap.size, 5, none⟩ (.slice A2 nx c2)) w.heap.size 50 #[.int .u8 k, .int .u8 a1, .int .i64 a2, .int .u8 b1, .int .i64 b2, .slice A2 nx c2, .slice As nb cs]) := hK2.set_ 5 _
  have hf5 := hK2.frozen 5
  have c55 : w2.cell? ⟨w.heap.size, 5, none⟩ = some (.slice Aa nx ca) := hK2.cell 5
  have HB2 : Hid (Below w.heap.size w (w2.setCell ⟨w.heap.size, 5, none⟩ (.slice A2 nx c2))) := Below.set1 (HB0.out.trans (hB2.mono HB0.out.size)) (Nat.le_refl _) _
  have HA2 : Hid (ArgsS (fun k => w.heap.size < k) (w2.setCell ⟨w.heap.size, 5, none⟩ (.slice A2 nx c2)) (.slice A2 nx c2) xs) := hA2.kept (fun k hk hlt => Below.heap_setCell w2 _ _ k (by show k ≠ w.heap.size; omega)) (fun k hk _ => by omega)
  clear hK2 hB2 hA2 HCl HK0 HB0 p0 p1 p2 p3 p4 p5 p6 hsz0
  go_upto_region 2 with (fail)
  generalize w2.setCell ⟨w.heap.size, 5, none⟩ (.slice A2 nx c2) = w3 at *
  clear c55 hf5 hS2
  obtain ⟨p0, p1, p2, p3, p4, p5, p6⟩ := HK2.out.c7
  have hCl := cloneS_any (fun k => k < w0.heap.size) As cs sub w3 ((HBd.out.toS).kept (fun k hk hlt => (HI.out.bel.trans (HB2.out.mono HI.out.bel.size)).block k hlt) (fun k hk _ => hk)) (by rw [← HNB.out]; exact hs)
  rw [← HNB.out] at hCl
  have HCl := Lib.hid hCl
  clear hCl
  have hlt3 : w.heap.size < w3.heap.size := HK2.out.lt
  go_wp2_with fail
  refine HCl.out.mono ?_
  rintro e w4 ⟨A4, c4, rfl, ⟨cs4, hO4, hC4⟩, hB4⟩
  have hK4 := HK2.out.old hB4
  have hlt4 : w.heap.size < w4.heap.size := hK4.lt
  have hf6 := hK4.frozen 6
  have c66 : w4.cell? ⟨w.heap.size, 6, none⟩ = some (.slice As nb cs) := hK4.cell 6
  have HK5 : Hid (Blk (w4.setCell ⟨w.heap.size, 6, none⟩ (.slice A4 nb c4)) w.heap.size 50 #[.int .u8 k, .int .u8 a1, .int .i64 a2, .int .u8 b1, .int .i64 b2, .slice A2 nx c2, .slice A4 nb c4]) := hK4.set_ 6 _
  have hB45 := HB2.out.trans (hB4.mono HB2.out.size)
  have HB5 : Hid (Below w.heap.size w (w4.setCell ⟨w.heap.size, 6, none⟩ (.slice A4 nb c4))) := Below.set1 hB45 (Nat.le_refl _) _
  have hkp : ∀ k, k ≠ w.heap.size → (w4.setCell ⟨w.heap.size, 6, none⟩ (.slice A4 nb c4)).heap[k]? = w4.heap[k]? := fun k hk => Below.heap_setCell w4 _ _ k hk
  have HA5 : Hid (ArgsS (fun k => w.heap.size < k) (w4.setCell ⟨w.heap.size, 6, none⟩ (.slice A4 nb c4)) (.slice A2 nx c2) xs) := HA2.out.kept (fun k hk hlt => (hkp k (by omega)).trans (hB4.block k hlt)) (fun k hk _ => hk)
  have hw0 := HI.out.bel.size
  have HO5 : Hid (BodyS (fun k => k < w0.heap.size ∨ w.heap.size < k) (w4.setCell ⟨w.heap.size, 6, none⟩ (.slice A4 nb c4)) A4 sub) := by
    refine own_body HNB.out (own_blocks hO4 (fun k hk => hkp k (by have := (hO4.lt k hk.symm).1; omega))) (CellsB.kept (fun k hk hlt => ?_) (fun k hk _ => .inl hk) sub cs4 hC4) (fun k hk => .inr (by omega))
    rw [hkp k (by omega)]
    exact hB4.block k hlt
  clear hK4 hB4 hO4 hC4 hB45 hkp HCl HK2 HB2 HA2 p0 p1 p2 p3 p4 p5 p6 hlt3
  go_upto_region 3 with (fail)
  generalize w4.setCell ⟨w.heap.size, 6, none⟩ (.slice A4 nb c4) = w5 at *
  clear c66 hf6 hlt4
  have hI5 := HI.out.more HB5.out
  have hne : ∀ k, some k = (Value.slice A n c).ownBlock → k < w.heap.size ∧ w0.heap.size ≤ k := fun k hk => by
    have := HI.out.row.blk k (by rw [← HN.out]; exact hk); omega
  have hg0 := HI.out.gin
  obtain ⟨q6, c6, w6, hr6, hR6, hs6, hk6, hq6, hb6⟩ := push9 84 81 _ Try.underlying81 info84 rfl w0.heap.size (fun k => k ≠ g) (.slice A n c) L ⟨deep, k, a1, a2, b1, b2, xs, sub⟩ A2 A4 c2 c4 n HN.out w5 (by rw [HN.out]; exact hI5.row) (by rw [← HN.out]; omega) hI5.bel.size
    (by rw [← HNX.out]; exact HA5.out.kept (fun _ _ _ => rfl) (fun k hk hlt => ⟨fun e => by have := hne k e; omega, by omega⟩))
    (HO5.out.kept (fun _ _ _ => rfl) (fun k hk hlt => ⟨fun e => by have := hne k e; omega, by omega⟩))
  dsimp only at hr6 hR6
  rw [← HNX.out, ← HNB.out] at hr6
  have hbox := hI5.box
  have hgl5 : g < w5.heap.size := hbox.lt
  have hbg6 : Blk w6 g 81 #[.slice A n c] := by
    refine (hk6 g hgl5 (fun e => ?_)).trans (by rw [HN.out]; exact hbox)
    obtain ⟨_, _, cur, hb⟩ := hI5.row.blk g (by rw [← HN.out]; exact e)
    exact absurd (hb.uniq hbox) (by decide)
  have HK := HK5
  have hc5 : w5.cell? ⟨g, 0, none⟩ = some (.slice A n c) := by rw [HN.out]; exact hbox.cell 0
  have hc6 : w6.cell? ⟨g, 0, none⟩ = some (.slice A n c) := hbg6.cell 0
  have hf6 := hbg6.frozen 0
  have hbx : Blk (w6.setCell ⟨g, 0, none⟩ (.slice (some ⟨q6, 0, none⟩) (n + 1) c6)) g 81 #[.slice (some ⟨q6, 0, none⟩) (n + 1) c6] := hbg6.set_ 0 _
  have hfin : FlI w0 (w6.setCell ⟨g, 0, none⟩ (.slice (some ⟨q6, 0, none⟩) (n + 1) c6)) g (.slice (some ⟨q6, 0, none⟩) (n + 1) c6) (L ++ [⟨deep, k, a1, a2, b1, b2, xs, sub⟩]) := by
    refine ⟨hbx, hR6.kept (fun k hk => Below.heap_setCell w6 _ _ k (fun e => ?_)) (fun k hk _ => Below.heap_setCell w6 _ _ k hk) (fun k hk _ => hk), Below.set1 (hb6 _ _ hI5.bel (Nat.le_refl _) hI5.bel.size) hg0 _, hg0⟩
    obtain ⟨_, _, cur, hb⟩ := hR6.blk k hk
    have e2 : k = g := e
    subst e2
    exact absurd (hb.uniq hbg6) (by decide)
  have hfk : FlK w (w6.setCell ⟨g, 0, none⟩ (.slice (some ⟨q6, 0, none⟩) (n + 1) c6)) g (.slice A n c) (.slice (some ⟨q6, 0, none⟩) (n + 1) c6) := by
    have h5 := HB5.out.size
    refine ⟨by simp [World.setCell]; omega, fun k hk hkg hkv => ?_, fun k hk => ?_⟩
    · rw [Below.heap_setCell w6 _ _ k hkg, hk6 k (by omega) hkv, HB5.out.block k hk]
    · have : k = q6 := by simpa [Value.ownBlock] using hk
      subst this
      rcases hq6 with h | h
      · exact .inl h
      · exact .inr (by omega)
  have HFin := Lib.hid hfin
  have HFk := Lib.hid hfk
  obtain ⟨p0, p1, p2, p3, p4, p5, p6⟩ := HK5.out.c7
  have hlt5 : w.heap.size < w5.heap.size := HK5.out.lt
  clear hfin hfk hbx hbg6 hbox hI5 hR6 hb6 hk6 hq6 hs6 hne
  go_wp2_with (at_builtin; refine Lib.wpList_append_run _ rfl _ _ 81 81 rfl _ _ rfl rfl _ _ hr6 ?_)
  refine bodyPost_end (results_none rfl _ _ _) rfl ?_
  exact ⟨rfl, _, HFin.out, HFk.out⟩
end Go.Proofs.Ytpdebnecfknohaa
