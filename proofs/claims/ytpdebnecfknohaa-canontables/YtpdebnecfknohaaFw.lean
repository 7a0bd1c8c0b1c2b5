/-
  What walk leaves over the closure of Flat; Flat; the reference's Flat.
-/
import Derived.Test.YtpdebnecfknohaaFi
import Derived.Test.YtpdebnecfknohaaRa
namespace Go.Proofs.Ytpdebnecfknohaa
open Go.RowKit
set_option linter.unusedVariables false
set_option maxRecDepth 20000

theorem info84 : (Try.prog.info? 84).map (fun i => (i.zero, i.size, i.bytes)) = some (some (.agg #[.int .i64 0, .int .i64 0, .int .u8 0, .int .u8 0, .int .i64 0, .int .u8 0, .int .i64 0, .slice none 0 0, .slice none 0 0]), 9, 104) := by kernel_rfl
theorem info90 : (Try.prog.info? 90).map (fun i => (i.zero, i.size, i.bytes)) = some (some (.agg #[.int .i64 0, .int .i64 0, .int .u8 0, .int .u8 0, .int .i64 0, .int .u8 0, .int .i64 0, .slice none 0 0, .slice none 0 0]), 9, 104) := by kernel_rfl
/-- A truth, and nothing else. -/
def AnyB (w : World) (e : Ending) (w' : World) : Prop := ∃ v, e = .returned (.bool v) ∧ w' = w

end Go.Proofs.Ytpdebnecfknohaa
namespace Go.Proofs.Ytpdebnecfknohaa
open Go.RowKit
set_option linter.unusedVariables false
set_option maxRecDepth 20000

/-- A list of items that a box holds, of the call's own; and what is left as it was. -/
structure FlI (w0 w : World) (g : Nat) (v : Value) (L : List It) : Prop where
  box : Blk w g 81 #[v]
  row : ItRow 84 w w0.heap.size (fun k => k ≠ g) v L
  bel : Below w0.heap.size w0 w
  gin : w0.heap.size ≤ g
/-- Blocks other than the box and the row are as they were. -/
structure FlK (w w' : World) (g : Nat) (v v' : Value) : Prop where
  size : w.heap.size ≤ w'.heap.size
  block : ∀ k, k < w.heap.size → k ≠ g → some k ≠ v.ownBlock → w'.heap[k]? = w.heap[k]?
  own : ∀ k, some k = v'.ownBlock → some k = v.ownBlock ∨ w.heap.size ≤ k
theorem FlK.refl (w : World) (g : Nat) (v : Value) : FlK w w g v v := ⟨Nat.le_refl _, fun _ _ _ _ => rfl, fun _ h => .inl h⟩
theorem FlK.trans {a b c : World} {g : Nat} {v v' v'' : Value} (h : FlK a b g v v') (h' : FlK b c g v' v'') : FlK a c g v v'' :=
  ⟨Nat.le_trans h.size h'.size, fun k hk hg hv => (h'.block k (Nat.lt_of_lt_of_le hk h.size) hg (fun e => by
      rcases h.own k e with e | e
      · exact hv e
      · omega)).trans (h.block k hk hg hv), fun k hk => by
    rcases h'.own k hk with e | e
    · exact h.own k e
    · exact .inr (Nat.le_trans h.size e)⟩
theorem FlI.more {w0 w w' : World} {g : Nat} {v : Value} {L : List It} (h : FlI w0 w g v L) (hb : Below w.heap.size w w') : FlI w0 w' g v L :=
  ⟨h.box.old hb, h.row.old hb, h.bel.trans (hb.mono h.bel.size), h.gin⟩
theorem FlK.more {w w1 w' : World} {g : Nat} {v v' : Value} (hb : Below w.heap.size w w1) (h : FlK w1 w' g v v') : FlK w w' g v v' :=
  ⟨Nat.le_trans hb.size h.size, fun k hk hg hv => (h.block k (Nat.lt_of_lt_of_le hk hb.size) hg hv).trans (hb.block k hk), fun k hk => by
    rcases h.own k hk with e | e
    · exact .inl e
    · exact .inr (Nat.le_trans hb.size e)⟩

set_option maxRecDepth 20000 in
set_option maxHeartbeats 2000000 in
theorem cloF_any (w0 : World) (x : It) (Aa As : Option Addr) (ca cs g : Nat) (v : Value) (L : List It) (w : World) (h : FlI w0 w g v L) (hl : L.length ≤ 100000000) (hx : x.xs.length ≤ 1000000000) (hs : x.sub.len ≤ 1000000000) (ha : ArgsAt w0 (.slice Aa x.xs.length ca) x.xs) (hb : BodyV w0 As x.sub) :
    Calls Try.prog 64 #[.int .i64 (x.deep : Int), .agg #[.int .u8 x.k, .int .u8 x.a1, .int .i64 x.a2, .int .u8 x.b1, .int .i64 x.b2, .slice Aa x.xs.length ca, .slice As x.sub.len cs], .pointer (some ⟨g, 0, none⟩)] w fun e w' => e = .returned (.tuple #[]) ∧ ∃ v', FlI w0 w' g v' (L ++ [x]) ∧ FlK w w' g v v' := by
  obtain ⟨deep, k, a1, a2, b1, b2, xs, sub⟩ := x
  dsimp only at *
  obtain ⟨A, c, rfl⟩ := h.row.slice
  have HI := Lib.hid h
  have HAr := Lib.hid ha
  have HBd := Lib.hid hb
  have hgl : g < w.heap.size := h.box.lt
  obtain ⟨n, hn⟩ : ∃ n, n = L.length := ⟨_, rfl⟩
  obtain ⟨nx, hnx⟩ : ∃ nx, nx = xs.length := ⟨_, rfl⟩
  obtain ⟨nb, hnb⟩ : ∃ nb, nb = sub.len := ⟨_, rfl⟩
  have HN := Lib.hid hn
  have HNX := Lib.hid hnx
  have HNB := Lib.hid hnb
  have hCl := cloneR_any Aa ca xs (w.alloc (.cells #[.int .u8 k, .int .u8 a1, .int .i64 a2, .int .u8 b1, .int .i64 b2, .slice Aa nx ca, .slice As nb cs] 50)) (ha.old (h.bel.alloc h.bel.size _)) hx
  rw [← hnx] at hCl
  have HCl := Lib.hid hCl
  have HB0 : Hid (Below w.heap.size w (w.alloc (.cells #[.int .u8 k, .int .u8 a1, .int .i64 a2, .int .u8 b1, .int .i64 b2, .slice Aa nx ca, .slice As nb cs] 50))) := (Below.refl _ _).alloc (Nat.le_refl _) _
  have HK0 : Hid (Blk (w.alloc (.cells #[.int .u8 k, .int .u8 a1, .int .i64 a2, .int .u8 b1, .int .i64 b2, .slice Aa nx ca, .slice As nb cs] 50)) w.heap.size 50 #[.int .u8 k, .int .u8 a1, .int .i64 a2, .int .u8 b1, .int .i64 b2, .slice Aa nx ca, .slice As nb cs]) := Blk.new w 50 _
  rw [← hn] at hl ⊢
  rw [← hnx] at hx ⊢
  rw [← hnb] at hs ⊢
  clear h ha hb hCl hn hnx hnb
  have hsz0 : w.heap.size < (w.alloc (.cells #[.int .u8 k, .int .u8 a1, .int .i64 a2, .int .u8 b1, .int .i64 b2, .slice Aa nx ca, .slice As nb cs] 50)).heap.size := by simp
  go_enter Try.func64, Try.ntmps64
  go_upto_region 1 with (fail)
  generalize w.alloc (.cells #[.int .u8 k, .int .u8 a1, .int .i64 a2, .int .u8 b1, .int .i64 b2, .slice Aa nx ca, .slice As nb cs] 50) = w1 at *
  obtain ⟨p0, p1, p2, p3, p4, p5, p6⟩ := HK0.out.c7
  go_wp2_with fail
  refine HCl.out.mono ?_
  rintro e w2 ⟨A2, c2, rfl, hA2, hB2⟩
  have hK2 := HK0.out.old hB2
  have hS2 : w.heap.size < w2.heap.size := hK2.lt
  have HK2 : Hid (Blk (w2.setCell ⟨w.heap.size, 5, none⟩ (.slice A2 nx c2)) w.heap.size 50 #[.int .u8 k, .int .u8 a1, .int .i64 a2, .int .u8 b1, .int .i64 b2, .slice A2 nx c2, .slice As nb cs]) := hK2.set_ 5 _
  have hf5 := hK2.frozen 5
  have c55 : w2.cell? ⟨w.heap.size, 5, none⟩ = some (.slice Aa nx ca) := hK2.cell 5
  have HB2 : Hid (Below w.heap.size w (w2.setCell ⟨w.heap.size, 5, none⟩ (.slice A2 nx c2))) := Below.set1 (HB0.out.trans (hB2.mono HB0.out.size)) (Nat.le_refl _) _
  have HA2 : Hid (ArgsS (fun k => w.heap.size < k) (w2.setCell ⟨w.heap.size, 5, none⟩ (.slice A2 nx c2)) (.slice A2 nx c2) xs) := hA2.kept (fun k hk hlt => Below.heap_setCell w2 _ _ k (by show k ≠ w.heap.size; omega)) (fun k hk _ => by omega)
  clear hK2 hB2 hA2 HCl HK0 HB0 p0 p1 p2 p3 p4 p5 p6 hsz0
  go_upto_region 2 with (fail)
  generalize w2.setCell ⟨w.heap.size, 5, none⟩ (.slice A2 nx c2) = w3 at *
  clear c55 hf5 hS2
  obtain ⟨p0, p1, p2, p3, p4, p5, p6⟩ := HK2.out.c7
  have hCl := cloneS_any (fun k => k < w0.heap.size) As cs sub w3 ((HBd.out.toS).kept (fun k hk hlt => (HI.out.bel.trans (HB2.out.mono HI.out.bel.size)).block k hlt) (fun k hk _ => hk)) (by rw [← HNB.out]; exact hs)
  rw [← HNB.out] at hCl
  have HCl := Lib.hid hCl
  clear hCl
  have hlt3 : w.heap.size < w3.heap.size := HK2.out.lt
  go_wp2_with fail
  refine HCl.out.mono ?_
  rintro e w4 ⟨A4, c4, rfl, ⟨cs4, hO4, hC4⟩, hB4⟩
  have hK4 := HK2.out.old hB4
  have hlt4 : w.heap.size < w4.heap.size := hK4.lt
  have hf6 := hK4.frozen 6
  have c66 : w4.cell? ⟨w.heap.size, 6, none⟩ = some (.slice As nb cs) := hK4.cell 6
  have HK5 : Hid (Blk (w4.setCell ⟨w.heap.size, 6, none⟩ (.slice A4 nb c4)) w.heap.size 50 #[.int .u8 k, .int .u8 a1, .int .i64 a2, .int .u8 b1, .int .i64 b2, .slice A2 nx c2, .slice A4 nb c4]) := hK4.set_ 6 _
  have hB45 := HB2.out.trans (hB4.mono HB2.out.size)
  have HB5 : Hid (Below w.heap.size w (w4.setCell ⟨w.heap.size, 6, none⟩ (.slice A4 nb c4))) := Below.set1 hB45 (Nat.le_refl _) _
  have hkp : ∀ k, k ≠ w.heap.size → (w4.setCell ⟨w.heap.size, 6, none⟩ (.slice A4 nb c4)).heap[k]? = w4.heap[k]? := fun k hk => Below.heap_setCell w4 _ _ k hk
  have HA5 : Hid (ArgsS (fun k => w.heap.size < k) (w4.setCell ⟨w.heap.size, 6, none⟩ (.slice A4 nb c4)) (.slice A2 nx c2) xs) := HA2.out.kept (fun k hk hlt => (hkp k (by omega)).trans (hB4.block k hlt)) (fun k hk _ => hk)
  have hw0 := HI.out.bel.size
  have HO5 : Hid (BodyS (fun k => k < w0.heap.size ∨ w.heap.size < k) (w4.setCell ⟨w.heap.size, 6, none⟩ (.slice A4 nb c4)) A4 sub) := by
    refine own_body HNB.out (own_blocks hO4 (fun k hk => hkp k (by have := (hO4.lt k hk.symm).1; omega))) (CellsB.kept (fun k hk hlt => ?_) (fun k hk _ => .inl hk) sub cs4 hC4) (fun k hk => .inr (by omega))
    rw [hkp k (by omega)]
    exact hB4.block k hlt
  clear hK4 hB4 hO4 hC4 hB45 hkp HCl HK2 HB2 HA2 p0 p1 p2 p3 p4 p5 p6 hlt3
  go_upto_region 3 with (fail)
  generalize w4.setCell ⟨w.heap.size, 6, none⟩ (.slice A4 nb c4) = w5 at *
  clear c66 hf6 hlt4
  have hI5 := HI.out.more HB5.out
  have hne : ∀ k, some k = (Value.slice A n c).ownBlock → k < w.heap.size ∧ w0.heap.size ≤ k := fun k hk => by
    have := HI.out.row.blk k (by rw [← HN.out]; exact hk); omega
  have hg0 := HI.out.gin
  obtain ⟨q6, c6, w6, hr6, hR6, hs6, hk6, hq6, hb6⟩ := push9 84 81 _ Try.underlying81 info84 rfl w0.heap.size (fun k => k ≠ g) (.slice A n c) L ⟨deep, k, a1, a2, b1, b2, xs, sub⟩ A2 A4 c2 c4 n HN.out w5 (by rw [HN.out]; exact hI5.row) (by rw [← HN.out]; omega) hI5.bel.size
    (by rw [← HNX.out]; exact HA5.out.kept (fun _ _ _ => rfl) (fun k hk hlt => ⟨fun e => by have := hne k e; omega, by omega⟩))
    (HO5.out.kept (fun _ _ _ => rfl) (fun k hk hlt => ⟨fun e => by have := hne k e; omega, by omega⟩))
  dsimp only at hr6 hR6
  rw [← HNX.out, ← HNB.out] at hr6
  have hbox := hI5.box
  have hgl5 : g < w5.heap.size := hbox.lt
  have hbg6 : Blk w6 g 81 #[.slice A n c] := by
    refine (hk6 g hgl5 (fun e => ?_)).trans (by rw [HN.out]; exact hbox)
    obtain ⟨_, _, cur, hb⟩ := hI5.row.blk g (by rw [← HN.out]; exact e)
    exact absurd (hb.uniq hbox) (by decide)
  have HK := HK5
  have hc5 : w5.cell? ⟨g, 0, none⟩ = some (.slice A n c) := by rw [HN.out]; exact hbox.cell 0
  have hc6 : w6.cell? ⟨g, 0, none⟩ = some (.slice A n c) := hbg6.cell 0
  have hf6 := hbg6.frozen 0
  have hbx : Blk (w6.setCell ⟨g, 0, none⟩ (.slice (some ⟨q6, 0, none⟩) (n + 1) c6)) g 81 #[.slice (some ⟨q6, 0, none⟩) (n + 1) c6] := hbg6.set_ 0 _
  have hfin : FlI w0 (w6.setCell ⟨g, 0, none⟩ (.slice (some ⟨q6, 0, none⟩) (n + 1) c6)) g (.slice (some ⟨q6, 0, none⟩) (n + 1) c6) (L ++ [⟨deep, k, a1, a2, b1, b2, xs, sub⟩]) := by
    refine ⟨hbx, hR6.kept (fun k hk => Below.heap_setCell w6 _ _ k (fun e => ?_)) (fun k hk _ => Below.heap_setCell w6 _ _ k hk) (fun k hk _ => hk), Below.set1 (hb6 _ _ hI5.bel (Nat.le_refl _) hI5.bel.size) hg0 _, hg0⟩
    obtain ⟨_, _, cur, hb⟩ := hR6.blk k hk
    have e2 : k = g := e
    subst e2
    exact absurd (hb.uniq hbg6) (by decide)
  have hfk : FlK w (w6.setCell ⟨g, 0, none⟩ (.slice (some ⟨q6, 0, none⟩) (n + 1) c6)) g (.slice A n c) (.slice (some ⟨q6, 0, none⟩) (n + 1) c6) := by
    have h5 := HB5.out.size
    refine ⟨by simp [World.setCell]; omega, fun k hk hkg hkv => ?_, fun k hk => ?_⟩
    · rw [Below.heap_setCell w6 _ _ k hkg, hk6 k (by omega) hkv, HB5.out.block k hk]
    · have : k = q6 := by simpa [Value.ownBlock] using hk
      subst this
      rcases hq6 with h | h
      · exact .inl h
      · exact .inr (by omega)
  have HFin := Lib.hid hfin
  have HFk := Lib.hid hfk
  obtain ⟨p0, p1, p2, p3, p4, p5, p6⟩ := HK5.out.c7
  have hlt5 : w.heap.size < w5.heap.size := HK5.out.lt
  clear hfin hfk hbx hbg6 hbox hI5 hR6 hb6 hk6 hq6 hs6 hne
  go_wp2_with (at_builtin; refine Lib.wpList_append_run _ rfl _ _ 81 81 rfl _ _ rfl rfl _ _ hr6 ?_)
  refine bodyPost_end (results_none rfl _ _ _) rfl ?_
  exact ⟨rfl, _, HFin.out, HFk.out⟩
end Go.Proofs.Ytpdebnecfknohaa
namespace Go.Proofs.Ytpdebnecfknohaa
open Go.RowKit
set_option linter.unusedVariables false
set_option maxRecDepth 20000

set_option maxRecDepth 20000 in
set_option maxHeartbeats 4000000 in
theorem walkF_any (w0 : World) (g : Nat) (N : Nat) : ∀ (t : Bd) (deep : Nat) (A : Option Addr) (c : Nat) (v : Value) (L : List It) (w : World), t.size ≤ N → deep ≤ 1000 → BodyV w0 A t → FlI w0 w g v L → L.length + t.size ≤ 100000000 → t.wide ≤ 100000000 →
    Calls Try.prog 63 #[.slice A t.len c, .int .i64 deep, .func (.func 64) #[] #[.pointer (some ⟨g, 0, none⟩)]] w fun e w' => e = .returned (.tuple #[]) ∧ ∃ v', FlI w0 w' g v' (L ++ t.flat deep) ∧ FlK w w' g v v' := by
  induction N with
  | zero =>
    intro t deep A c v L w hN hd hV hI hm hwd
    have ht : t = .nil := by cases t <;> simp [Bd.size] at hN ⊢
    subst ht
    have HI := Lib.hid hI
    clear hI hV
    simp only [Bd.len]
    go_enter Try.func63, Try.ntmps63
    go_wp2_with fail
    go_loopw [10] (fun s10 wr => s10 = .int .i64 0 ∧ wr = w) (fun _ _ => 0)
    case atStart => exact ⟨rfl, rfl⟩
    case round =>
      obtain ⟨rfl, rfl⟩ := hrel
      go_wp2
      refine bodyPost_end (results_none rfl _ _ _) rfl ?_
      exact ⟨rfl, v, by simpa [Bd.flat] using HI.out, FlK.refl _ _ _⟩
  | succ N ih =>
    intro t deep A c v L w hN hd hV hI hm hwd
    have IH := Lib.hid ih
    have HV := Lib.hid hV
    have HI0 := Lib.hid hI
    have hlen : t.len ≤ 100000000 := by have := Bd.len_le t; omega
    clear hI hV ih
    go_enter Try.func63, Try.ntmps63
    go_wp2_with fail
    go_loopw [10] (fun s10 wr => ∃ (i : Nat) (v' : Value) (L' : List It), s10 = .int .i64 i ∧ i ≤ t.len ∧ Hid (L' ++ (t.drop i).flat deep = L ++ t.flat deep) ∧ Hid (L'.length + (t.drop i).size ≤ 100000000) ∧ Hid (FlI w0 wr g v' L') ∧ Hid (FlK w wr g v v')) (fun s10 _ => t.len - (intOf s10).toNat)
    case atStart => exact ⟨0, v, L, rfl, Nat.zero_le _, rfl, (by show _ ≤ _; simpa [Bd.drop] using hm), HI0, FlK.refl _ _ _⟩
    case round =>
      obtain ⟨i, v', L', rfl, hi, hE, hM, hI, hT⟩ := hrel
      by_cases hlt : i < t.len
      · obtain ⟨k, a1, a2, b1, b2, args, sub, rest, hdr⟩ := Bd.drop_cons t i hlt
        obtain ⟨b, o, rfl, hat⟩ := HV.out (by omega)
        have hat0 := hat.drop t b o i
        rw [hdr] at hat0
        obtain ⟨⟨d0, d1, d2, d3, d4⟩, ⟨va, d5, ⟨Aa, ca, rfl, hargs⟩⟩, ⟨As, cs, d6, hsub⟩, _⟩ := hat0
        have hbl := World.block_lt_of_cell? w0 ⟨b, o + i * 7, none⟩ d0
        have hB := hI.out.bel
        have e0 := cell_old hB hbl d0
        have e1 := cell_old hB hbl d1
        have e2 := cell_old hB hbl d2
        have e3 := cell_old hB hbl d3
        have e4 := cell_old hB hbl d4
        have e5 := cell_old hB hbl d5
        have e6 := cell_old hB hbl d6
        have HSub : Hid (BodyV w0 As sub) := hsub
        have HArg : Hid (ArgsAt w0 (.slice Aa args.length ca) args) := ⟨Aa, ca, rfl, hargs⟩
        have hsz1 := Bd.size_drop t i
        have hss := Bd.sub_size t i hdr
        have hE2 := hE.out
        have hM2 := hM.out
        rw [hdr] at hE2 hM2 hsz1
        simp only [Bd.flat, Bd.size] at hE2 hM2 hsz1
        have Hnx := Lib.hid (Bd.drop_succ t i hdr)
        have HE2 := Lib.hid hE2
        have hcs := Bd.cnt_le sub (deep + 1)
        have hcr := Bd.cnt_le rest deep
        have hfl := Bd.flat_len sub (deep + 1)
        have hsl := Bd.len_le sub
        clear d0 d1 d2 d3 d4 d5 d6 hsub hat hdr hE hM hE2 hargs hB
        obtain ⟨la, hla⟩ : ∃ la, la = args.length := ⟨_, rfl⟩
        have HLA := Lib.hid hla
        have hgl : g < wr.heap.size := hI.out.box.lt
        have hc1 : Hid (FlI w0 (wr.alloc (.cells #[.int .u8 k, .int .u8 a1, .int .i64 a2, .int .u8 b1, .int .i64 b2, .slice Aa la ca, .slice As sub.len cs] 50)) g v' L') := hI.out.more ((Below.refl _ _).alloc (Nat.le_refl _) _)
        have HN : Hid ((wr.alloc (.cells #[.int .u8 k, .int .u8 a1, .int .i64 a2, .int .u8 b1, .int .i64 b2, .slice Aa la ca, .slice As sub.len cs] 50)).heap[wr.heap.size]? = some (.cells #[.int .u8 k, .int .u8 a1, .int .i64 a2, .int .u8 b1, .int .i64 b2, .slice Aa la ca, .slice As sub.len cs] 50 (0, 0))) := heap_alloc_new wr _
        have hC := cloF_any w0 ⟨deep, k, a1, a2, b1, b2, args, sub⟩ Aa As ca cs g v' L' (wr.alloc (.cells #[.int .u8 k, .int .u8 a1, .int .i64 a2, .int .u8 b1, .int .i64 b2, .slice Aa la ca, .slice As sub.len cs] 50)) hc1.out (by omega) (by dsimp only; omega) (by dsimp only; omega) HArg.out HSub.out
        dsimp only at hC
        rw [← hla] at hC e5
        have HC := Lib.hid hC
        clear hC hla
        go_wp2_with fail
        refine HC.out.mono ?_
        rintro e w2 ⟨rfl, v2, hI2, hK2⟩
        have hblk : w2.heap[wr.heap.size]? = _ := (hK2.block wr.heap.size (by simp) (by omega) (fun e => by have := (hI.out.row.blk _ e).2.1; omega)).trans HN.out
        have f0 := cell_of_row w2 wr.heap.size 0 _ 50 (0, 0) hblk
        have f6 := cell_of_row w2 wr.heap.size 6 _ 50 (0, 0) hblk
        simp at f0 f6
        have HT3 : Hid (FlK w w2 g v v2) := hT.out.trans (FlK.more ((Below.refl _ _).alloc (Nat.le_refl _) _) hK2)
        have HI3 := Lib.hid hI2
        clear hblk hI2 hK2 HN hc1 hI hT e0 e1 e2 e3 e4 e5 e6 HC HArg
        by_cases hk : k = 7 ∧ deep < 1000
        · obtain ⟨rfl, hdeep⟩ := hk
          have hdi : (deep : Int) < 1000 := by omega
          have hI := IH.out sub (deep + 1) As cs v2 _ w2 (by omega) (by omega) HSub.out HI3.out (by simp; omega) (by omega)
          rw [show ((deep + 1 : Nat) : Int) = (deep : Int) + 1 from by omega] at hI
          have HI := Lib.hid hI
          clear hI
          go_wp2_with fail
          refine HI.out.mono ?_
          rintro e w3 ⟨rfl, v3, hI4, hK4⟩
          have HI4 := Lib.hid hI4
          have HT4 := Lib.hid (HT3.out.trans hK4)
          clear hI4 hK4
          go_wp2
          go_roundw
          case rel =>
            refine ⟨i + 1, v3, _, by go_num, by omega, ?_, ?_, HI4, HT4⟩
            · show _ = _
              have h := HE2.out
              rw [if_pos (by simp; exact hdeep)] at h
              rw [Hnx.out, ← h]; simp
            · show _ ≤ _
              rw [Hnx.out]; simp; omega
          case measure => simp [intOf]; omega
        · by_cases hk7 : k = 7
          · subst hk7
            have hdeep : ¬ (deep < 1000) := fun h => hk ⟨rfl, h⟩
            have hdi : ¬ ((deep : Int) < 1000) := by omega
            clear hk
            go_wp2
            go_roundw
            case rel =>
              refine ⟨i + 1, v2, _, by go_num, by omega, ?_, ?_, HI3, HT3⟩
              · show _ = _
                have h := HE2.out
                rw [if_neg (by simp; omega)] at h
                rw [Hnx.out, ← h]; simp
              · show _ ≤ _
                rw [Hnx.out]; simp; omega
            case measure => simp [intOf]; omega
          · have hkb : (k == 7) = false := by simpa using hk7
            have HK := Lib.hid hk
            clear hk hk7
            go_wp2
            go_roundw
            case rel =>
              refine ⟨i + 1, v2, _, by go_num, by omega, ?_, ?_, HI3, HT3⟩
              · show _ = _
                have h := HE2.out
                rw [if_neg HK.out] at h
                rw [Hnx.out, ← h]; simp
              · show _ ≤ _
                rw [Hnx.out]; simp; omega
            case measure => simp [intOf]; omega
      · obtain rfl : i = t.len := by omega
        have hE2 := hE.out
        rw [Bd.drop_end t t.len (Nat.le_refl _)] at hE2
        simp only [Bd.flat, List.append_nil] at hE2
        have HE2 := Lib.hid hE2
        clear hE2
        go_wp2
        refine bodyPost_end (results_none rfl _ _ _) rfl ?_
        exact ⟨rfl, v', by rw [← HE2.out]; exact hI.out, hT.out⟩

/-- What a list of items leaves. -/
def ItPost (e : Nat) (X : Nat → Prop) (w : World) (L : List It) (en : Ending) (w' : World) : Prop := ∃ A c, en = .returned (.slice A L.length c) ∧ ItRow e w' w.heap.size X (.slice A L.length c) L ∧ Below w.heap.size w w'

set_option maxHeartbeats 400000 in
theorem flatM_any (A : Option Addr) (c : Nat) (t : Bd) (w : World) (h : BodyV w A t) (ht : t.size ≤ 100000000) (hwd : t.wide ≤ 100000000) :
    Calls Try.prog 39 #[.slice A t.len c] w (ItPost 84 (fun k => k ≠ w.heap.size) w (t.flat 0)) := by
  have HB : Hid (Below w.heap.size w (w.alloc (.cells #[.slice none 0 0] 81))) := (Below.refl _ _).alloc (Nat.le_refl _) _
  have HC : Hid (FlI w (w.alloc (.cells #[.slice none 0 0] 81)) w.heap.size (.slice none 0 0) []) := ⟨Blk.new w 81 _, ItRow.nil _ _ _ _, HB.out, Nat.le_refl _⟩
  have hW := walkF_any w w.heap.size t.size t 0 A c _ [] (w.alloc (.cells #[.slice none 0 0] 81)) (Nat.le_refl _) (by omega) h HC.out (by simpa using ht) hwd
  have HW := Lib.hid hW
  clear hW h
  go_enter Try.func39, Try.ntmps39
  go_wp2_with fail
  refine HW.out.mono ?_
  rintro e w2 ⟨rfl, v2, hI2, _⟩
  rw [List.nil_append] at hI2
  obtain ⟨A2, c2, rfl⟩ := hI2.row.slice
  have hc := hI2.box.cell 0
  have hl : w.heap.size < w2.heap.size := hI2.box.lt
  simp at hc
  have HI2 := Lib.hid hI2
  clear hI2
  go_wp2
  go_ret
  exact ⟨A2, c2, rfl, HI2.out.row, HI2.out.bel⟩
end Go.Proofs.Ytpdebnecfknohaa
