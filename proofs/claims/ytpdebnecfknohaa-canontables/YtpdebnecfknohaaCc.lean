
/-
  What copyBody leaves.
-/
import Derived.Test.YtpdebnecfknohaaCd
namespace Go.Proofs.Ytpdebnecfknohaa
open Go.RowKit
set_option linter.unusedVariables false
set_option maxRecDepth 20000

theorem ArgsS.low {S : Nat → Prop} {w : World} {v : Value} {l : List (Int × Int)} (h : ArgsS S w v l) : ArgsS (fun k => k < w.heap.size ∧ S k) w v l := by
  obtain ⟨A, c, hv, h⟩ := h
  refine ⟨A, c, hv, fun hp => ?_⟩
  obtain ⟨b, o, hA, hS, hc⟩ := h hp
  exact ⟨b, o, hA, ⟨World.block_lt_of_cell? w ⟨b, o + 0 * 2, none⟩ (hc 0 hp).1, hS⟩, hc⟩
theorem BdS.low {S : Nat → Prop} {w : World} : ∀ (t : Bd) (b o : Nat), BdS S w b o t → BdS (fun k => k < w.heap.size ∧ S k) w b o t
  | .nil, _, _, _ => trivial
  | .cons k a1 a2 b1 b2 args sub rest, b, o, h => by
    obtain ⟨hS, h1, ⟨va, h2, h3⟩, ⟨A, c, h4, h5⟩, h6⟩ := h
    refine ⟨⟨World.block_lt_of_cell? w ⟨b, o, none⟩ h1.1, hS⟩, h1, ⟨va, h2, h3.low⟩, ⟨A, c, h4, fun hp => ?_⟩, BdS.low rest b _ h6⟩
    obtain ⟨b', o', hA, h7⟩ := h5 hp
    exact ⟨b', o', hA, BdS.low sub b' o' h7⟩
theorem BodyS.low {S : Nat → Prop} {w : World} {A : Option Addr} {t : Bd} (h : BodyS S w A t) : BodyS (fun k => k < w.heap.size ∧ S k) w A t := fun hp => by
  obtain ⟨b, o, hA, h1⟩ := h hp
  exact ⟨b, o, hA, BdS.low t b o h1⟩
/-- What copyBody leaves: a body like that, in rows of the call's own. -/
def CbPost (S0 : Nat → Prop) (w w' : World) (A : Option Addr) (t : Bd) : Prop := (0 < t.len → ∃ q cs, A = some ⟨q, 0, none⟩ ∧ w.heap.size ≤ q ∧ Blk w' q 50 cs ∧ ∀ k, k < t.len → LooseAt w.heap.size w' q k) ∧ BodyS (fun k => w.heap.size ≤ k ∨ S0 k) w' A t ∧ Below w.heap.size w w'

set_option maxRecDepth 20000 in
set_option maxHeartbeats 4000000 in
theorem copyB_any (S0 : Nat → Prop) (Ab : Option Addr) (cb : Nat) (t : Bd) (w : World) (h : BodyS S0 w Ab t) (hs : t.size ≤ 100000000) (hw : t.wide ≤ 1000000000) :
    Calls Try.prog 79 #[.slice Ab t.len cb] w fun e w' => ∃ A c, e = .returned (.slice A t.len c) ∧ CbPost S0 w w' A t := by
  have hlt := Bd.len_le t
  have hC := cloneS2_any (fun k => k < w.heap.size ∧ S0 k) Ab cb t w (BodyS.low h) (by omega)
  have HC := Lib.hid hC
  clear hC h
  go_enter Try.func79, Try.ntmps79
  go_wp2_with fail
  refine HC.out.mono ?_
  rintro e w1 ⟨A, c, rfl, ⟨cs, hO, hcs, _⟩, hb1⟩
  have hcs1 : CellsB (NR S0 w.heap.size w1) w1 cs t := CellsB.kept (Below.keptS hb1) (fun k hk _ => .inl hk) t cs hcs
  have hown : 0 < t.len → ∃ q cs, A = some ⟨q, 0, none⟩ ∧ w.heap.size ≤ q ∧ Blk w1 q 50 cs := fun hp => by
    obtain ⟨q, cap, hv, hb, _⟩ := own_formM hO hp
    obtain ⟨_, cur, hB⟩ := own_blk hO q (by rw [hv]; rfl)
    injection hv with hv1 hv2 hv3
    exact ⟨q, cur, hv1, hb, hB⟩
  have hbody : BodyS (NR S0 w.heap.size w1) w1 A t := own_bodyB rfl hO hcs1 (fun k hk => by
    obtain ⟨_, cur, hB⟩ := own_blk hO k hk
    exact .inr ⟨own_geB hO k hk, 50, cur, hB, by decide⟩)
  have hok1 : OKl S0 w.heap.size w1 ⟨A, c, t⟩ := ⟨hown, hbody, hw⟩
  have hBa : Below w1.heap.size w1 (w1.alloc (.cells #[.slice A t.len c] 38)) := (Below.refl _ _).alloc (Nat.le_refl _) _
  have HOK : Hid (OKl S0 w.heap.size (w1.alloc (.cells #[.slice A t.len c] 38)) ⟨A, c, t⟩) := by
    refine ⟨fun hp => ?_, hbody.kept (Below.keptS hBa) (fun k hk _ => NR.stay (Stay.old hBa) k hk), hw⟩
    obtain ⟨q, cs, h1, h2, h3⟩ := hown hp
    exact ⟨q, cs, h1, h2, h3.alloc _⟩
  have HB0 : Hid (Below w.heap.size w (w1.alloc (.cells #[.slice A t.len c] 38))) := hb1.alloc hb1.size _
  have HO0 : Hid ((w1.alloc (.cells #[.slice A t.len c] 38)).ownsRow w.heap.size 38 1 (.slice (some ⟨w1.heap.size, 0, none⟩) 1 1) 1 (flatL [⟨A, c, t⟩])) :=
    ⟨rfl, .inr ⟨w1.heap.size, 1, _, rfl, hb1.size, heap_alloc_new w1 _, Nat.le_refl _, by unfold maxLen; omega, rfl, rfl⟩⟩
  clear hcs1 hown hbody hok1 hBa hO hcs HC hb1
  go_wp2_with fail
  go_loopg [4] (t.size + 1) (fun g s4 wr => ∃ P : List Ln, wtL P = g ∧ g ≤ 100000001 ∧ (∃ q cap, s4 = .slice (some ⟨q, 0, none⟩) P.length cap) ∧ Hid (wr.ownsRow w.heap.size 38 1 s4 P.length (flatL P)) ∧ Hid (∀ p ∈ P, OKl S0 w.heap.size wr p) ∧ Hid (OKl S0 w.heap.size wr ⟨A, c, t⟩) ∧ Hid (Below w.heap.size w wr) ∧ Hid (P = [⟨A, c, t⟩] ∨ ((∀ p ∈ P, 0 < p.t.len → 0 < t.len → p.A ≠ A) ∧ ∀ q, A = some ⟨q, 0, none⟩ → ∀ k, k < t.len → LooseAt w.heap.size wr q k)))
  case atStart => exact ⟨[⟨A, c, t⟩], by simp [wtL], by omega, ⟨_, _, rfl⟩, HO0, (by intro p hp; obtain rfl := List.mem_singleton.1 hp; exact HOK.out), HOK, HB0, .inl rfl⟩
  case round =>
    obtain ⟨P, hg, hgl, ⟨q0, cap0, hs4⟩, hO, hK, hT, hB, hF⟩ := hrel
    rcases List.eq_nil_or_concat P with rfl | ⟨P0, p, rfl⟩
    · subst hs4
      go_wp2
      go_ret
      refine ⟨A, c, rfl, fun hp => ?_, hT.out.2.1.kept (fun _ _ _ => rfl) (fun k hk _ => by rcases hk with hk | hk; exact .inr hk.2; exact .inl hk.1), hB.out⟩
      obtain ⟨q, cs, hA, hq, hBq⟩ := hT.out.1 hp
      rcases hF.out with h0 | h0
      · cases h0
      · exact ⟨q, cs, hA, hq, hBq, h0.2 q hA⟩
    · rw [List.concat_eq_append] at *
      clear hs4
      obtain ⟨q, cap, rfl, hc1, hc2, hp1, hO1⟩ := own_popL hO.out
      have HKp := Lib.hid (hK.out p (by simp))
      have HK1 : Hid (∀ x ∈ P0, OKl S0 w.heap.size wr x) := fun x hx => hK.out x (by simp [hx])
      have HO1 := Lib.hid hO1
      have hwt : wtL (P0 ++ [p]) = wtL P0 + (p.t.size + 1) := by rw [wtL_append]; simp [wtL]
      have hlw := len_wtL P0
      obtain ⟨dn, hdn⟩ : ∃ dn : Nat → Nat, ((dn = id ∧ p = ⟨A, c, t⟩) ∨ ((∀ i, dn i = t.len) ∧ (0 < p.t.len → 0 < t.len → p.A ≠ A))) ∧ ((∀ x ∈ P0, 0 < x.t.len → 0 < t.len → x.A ≠ A) ∧ ∀ q, A = some ⟨q, 0, none⟩ → ∀ k, k < dn 0 → LooseAt w.heap.size wr q k) := by
        rcases hF.out with h0 | h0
        · obtain ⟨rfl, hp⟩ : P0 = [] ∧ p = ⟨A, c, t⟩ := by
            cases P0 with
            | nil => exact ⟨rfl, by simpa using h0⟩
            | cons x l => simp at h0
          exact ⟨id, .inl ⟨rfl, hp⟩, fun x hx => by simp at hx, fun q _ k hk => absurd hk (by simp)⟩
        · exact ⟨fun _ => t.len, .inr ⟨fun _ => rfl, h0.1 p (by simp)⟩, fun x hx => h0.1 x (by simp [hx]), h0.2⟩
      have HD := Lib.hid hdn.1
      have HF0 := Lib.hid hdn.2
      obtain ⟨Ap, cp, tp⟩ := p
      simp only at hp1 hwt
      have hl1 := Bd.len_le tp
      rw [hwt] at hg
      clear hO hK hO1 hwt hdn hF
      have hlen0 : ((P0.length + 1 : Nat) : Int) - 1 = (P0.length : Int) := by omega
      obtain ⟨G, hG⟩ : ∃ G, G = gk := ⟨gk, rfl⟩
      subst hG
      go_wp2_with fail
      go_loopg [4, 28] tp.len (fun g2 s4 s28 wi => ∃ (i : Nat) (Q : List Ln), i ≤ tp.len ∧ g2 = tp.len - i ∧ s28 = .int .i64 (i : Int) ∧ (∃ q cap, s4 = .slice (some ⟨q, 0, none⟩) Q.length cap) ∧ Hid (wi.ownsRow w.heap.size 38 1 s4 Q.length (flatL Q)) ∧ Hid (∀ p ∈ Q, OKl S0 w.heap.size wi p) ∧ Hid (OKl S0 w.heap.size wi ⟨A, c, t⟩) ∧ Hid (OKl S0 w.heap.size wi ⟨Ap, cp, tp⟩) ∧ Hid (Below w.heap.size w wi) ∧ Hid (wtL Q + (tp.drop i).size + 1 ≤ G) ∧ Hid ((∀ p ∈ Q, 0 < p.t.len → 0 < t.len → p.A ≠ A) ∧ ∀ q, A = some ⟨q, 0, none⟩ → ∀ k, k < dn i → LooseAt w.heap.size wi q k))
      case atStart => exact ⟨0, P0, Nat.zero_le _, rfl, rfl, ⟨_, _, rfl⟩, HO1, HK1, hT, HKp, hB, (by show _ ≤ _; simp only [Bd.drop]; omega), HF0⟩
      case round =>
        clear HO1 HK1 hT HKp hB HF0 HOK HB0 HO0
        obtain ⟨i, Q, hi, hg2, rfl, ⟨q3, cap3, hs4⟩, hO3, hK3, hT3, hP3, hB3, hW3, hF3⟩ := hrel
        subst hs4
        by_cases hlt : i < tp.len
        · obtain ⟨k1, a1, a2, b1, b2, xs, sub, rest, hd1⟩ := Bd.drop_cons tp i hlt
          obtain ⟨qp, csp, hAp, hqp, hBp⟩ := hP3.out.1 (by simp only; omega)
          simp only at hAp
          subst hAp
          obtain ⟨b, o, hA, hat⟩ := hP3.out.2.1.at_ (by simp only; omega)
          injection hA with hA
          injection hA with e1 e2
          subst e1 e2
          have q1 := hat.drop tp _ _ i
          have HW1 := Lib.hid (Bd.sub_wide tp i hd1)
          have hW4 := hW3.out
          have hws := Bd.wide_drop tp i
          rw [hd1] at q1 hW4 hws
          simp only [Nat.zero_add] at q1
          simp only [Bd.size] at hW4
          simp only [Bd.wide] at hws
          obtain ⟨⟨d0, d1, d2, d3, d4⟩, ⟨va, d5, ha⟩, ⟨As, ns, d6, hsub⟩, _⟩ := q1
          obtain ⟨Aa, ca, rfl, ha0⟩ := ha
          have HA : Hid (ArgsAt wr (.slice Aa xs.length ca) xs) := ⟨Aa, ca, rfl, ha0⟩
          have HS : Hid (BodyV wr As sub) := hsub
          have HD0 : Hid (wr.cell? ⟨qp, i * 7, none⟩ = some (.int .u8 k1) ∧ wr.cell? ⟨qp, i * 7 + 1, none⟩ = some (.int .u8 a1) ∧ wr.cell? ⟨qp, i * 7 + 2, none⟩ = some (.int .i64 a2) ∧ wr.cell? ⟨qp, i * 7 + 3, none⟩ = some (.int .u8 b1) ∧ wr.cell? ⟨qp, i * 7 + 4, none⟩ = some (.int .i64 b2) ∧ wr.cell? ⟨qp, i * 7 + 5, none⟩ = some (.slice Aa xs.length ca) ∧ wr.cell? ⟨qp, i * 7 + 6, none⟩ = some (.slice As sub.len ns)) := ⟨d0, d1, d2, d3, d4, d5, d6⟩
          have hsl := Bd.len_le sub
          have hwp := hP3.out.2.2
          simp only at hwp
          have hxl : xs.length ≤ 1000000000 := by omega
          have Hn1 := Lib.hid (Bd.drop_succ tp i hd1)
          have HDR := Lib.hid hd1
          have hsz1 := Bd.size_drop tp i
          rw [hd1] at hsz1
          simp only [Bd.size] at hsz1
          have hD1 := fun wx (hx : Below wr.heap.size wr wx) => cloneR2_any Aa ca xs wx (HA.out.old hx) hxl
          have hD2 := fun wx (hx : Below wr.heap.size wr wx) => cloneS2_any _ As ns sub wx (BodyV.toS (HS.out.old hx)) (by omega)
          have HD1 := Lib.hid hD1
          have HD2 := Lib.hid hD2
          have hqpl : qp < wr.heap.size := hBp.lt
          have HBp := Lib.hid hBp
          have Hqp := Lib.hid hqp
          obtain ⟨lx, hlx⟩ : ∃ lx, lx = xs.length := ⟨_, rfl⟩
          obtain ⟨lsb, hlsb⟩ : ∃ lsb, lsb = sub.len := ⟨_, rfl⟩
          rw [← hlx] at d5
          rw [← hlsb] at d6
          have HLX := Lib.hid hlx
          have HLS := Lib.hid hlsb
          have hil : (i : Int) < (tp.len : Int) := by omega
          have HB4 : Hid (Below wr.heap.size wr (wr.alloc (.cells #[.int .u8 k1, .int .u8 a1, .int .i64 a2, .int .u8 b1, .int .i64 b2, .slice Aa lx ca, .slice As lsb ns] 50))) := (Below.refl _ _).alloc (Nat.le_refl _) _
          have KB : Hid (Blk (wr.alloc (.cells #[.int .u8 k1, .int .u8 a1, .int .i64 a2, .int .u8 b1, .int .i64 b2, .slice Aa lx ca, .slice As lsb ns] 50)) wr.heap.size 50 #[.int .u8 k1, .int .u8 a1, .int .i64 a2, .int .u8 b1, .int .i64 b2, .slice Aa lx ca, .slice As lsb ns]) := Blk.new wr 50 _
          clear hat hsub ha0 hd1 hW3 hD1 hD2 hBp hqp hlx hlsb hws
          go_upto_region 9 with (fail)
          obtain ⟨g, hgd⟩ : ∃ g, g = wr.heap.size := ⟨_, rfl⟩
          rw [← hgd] at KB ⊢
          generalize wr.alloc (.cells #[.int .u8 k1, .int .u8 a1, .int .i64 a2, .int .u8 b1, .int .i64 b2, .slice Aa lx ca, .slice As lsb ns] 50) = wa at *
          have HGD := Lib.hid hgd
          clear d0 d1 d2 d3 d4 d5 d6 hgd
          obtain ⟨c0, c1, c2, c3, c4, c5, c6⟩ := KB.out.c7
          have zg : g < wa.heap.size := KB.out.lt
          have hD1 := HD1.out wa HB4.out
          rw [← HLX.out] at hD1
          have HD1' := Lib.hid hD1
          clear hD1 HD1
          go_wp2_with fail
          refine HD1'.out.mono ?_
          rintro e w2 ⟨A1, c1', rfl, hO1, hb2⟩
          have HO1 := Lib.hid hO1
          have HB2 := Lib.hid (HB4.out.trans (hb2.mono HB4.out.size))
          have HKB2 : Hid (Blk (w2.setCell ⟨g, 5, none⟩ (.slice A1 lx c1')) g 50 #[.int .u8 k1, .int .u8 a1, .int .i64 a2, .int .u8 b1, .int .i64 b2, .slice A1 lx c1', .slice As lsb ns]) := (KB.out.old hb2).set_ 5 _
          have KB2 := Lib.hid (KB.out.old hb2)
          have HW2 : Hid (wa.heap.size ≤ w2.heap.size) := hb2.size
          clear hO1 hb2 c0 c1 c2 c3 c4 c5 c6 zg HD1' KB
          obtain ⟨c0, c1, c2, c3, c4, c5, c6⟩ := KB2.out.c7
          have zg : g < w2.heap.size := KB2.out.lt
          have zf := KB2.out.frozen 5
          go_upto_region 10 with (fail)
          have HB3 : Hid (Below wr.heap.size wr (w2.setCell ⟨g, 5, none⟩ (.slice A1 lx c1'))) := HB2.out.setCell (p := ⟨g, 5, none⟩) (by rw [HGD.out]; exact Nat.le_refl _) _
          have HO1b : Hid ((w2.setCell ⟨g, 5, none⟩ (.slice A1 lx c1')).ownsRow wa.heap.size 46 2 (.slice A1 lx c1') lx (refV xs)) := own_blocks HO1.out (fun k hk => Below.heap_setCell _ _ _ _ (fun e => own_ne HO1.out KB2.out (by decide) (by have e' : k = g := e; subst e'; exact hk)))
          have HW3 : Hid (wa.heap.size ≤ (w2.setCell ⟨g, 5, none⟩ (.slice A1 lx c1')).heap.size) := by show _ ≤ _; have := HW2.out; simp [World.setCell]; exact this
          generalize w2.setCell ⟨g, 5, none⟩ (.slice A1 lx c1') = w3 at *
          clear c0 c1 c2 c3 c4 c5 c6 zg zf KB2 HO1 HB2 HW2
          obtain ⟨c0, c1, c2, c3, c4, c5, c6⟩ := HKB2.out.c7
          have zg : g < w3.heap.size := HKB2.out.lt
          have hD2 := HD2.out w3 HB3.out
          rw [← HLS.out] at hD2
          have HD2' := Lib.hid hD2
          clear hD2 HD2
          go_wp2_with fail
          refine HD2'.out.mono ?_
          rintro e w4 ⟨A4, c4', rfl, ⟨csb, hO4, hcsb, hcc⟩, hb4⟩
          have hgq : g ≠ qp := by have := HGD.out; omega
          have HKB4 := Lib.hid (HKB2.out.old hb4)
          have HB5 : Hid (Below wr.heap.size wr (w4.setCell ⟨g, 6, none⟩ (.slice A4 lsb c4'))) := (HB3.out.trans (hb4.mono HB3.out.size)).setCell (p := ⟨g, 6, none⟩) (by rw [HGD.out]; exact Nat.le_refl _) _
          have HKB5 : Hid (Blk (w4.setCell ⟨g, 6, none⟩ (.slice A4 lsb c4')) g 50 #[.int .u8 k1, .int .u8 a1, .int .i64 a2, .int .u8 b1, .int .i64 b2, .slice A1 lx c1', .slice A4 lsb c4']) := HKB4.out.set_ 6 _
          have hg4 : ∀ k, some k = (Value.slice A4 lsb c4').ownBlock → k ≠ g := fun k hk e => by
            have h1 := own_geB hO4 k hk
            have h2 := HKB2.out.lt
            omega
          have HO4 : Hid ((w4.setCell ⟨g, 6, none⟩ (.slice A4 lsb c4')).ownsRow wa.heap.size 50 7 (.slice A4 lsb c4') lsb csb) := own_mono (own_blocks hO4 (fun k hk => Below.heap_setCell _ _ _ _ (hg4 k hk))) HW3.out
          have HO1c : Hid ((w4.setCell ⟨g, 6, none⟩ (.slice A4 lsb c4')).ownsRow wa.heap.size 46 2 (.slice A1 lx c1') lx (refV xs)) := own_blocks (own_old HO1b.out hb4) (fun k hk => Below.heap_setCell _ _ _ _ (fun e => own_ne (own_old HO1b.out hb4) HKB4.out (by decide) (by have e' : k = g := e; subst e'; exact hk)))
          have HCS : Hid (CellsB (fun k => k < w3.heap.size) w3 csb sub) := hcsb
          have HCC := Lib.hid hcc
          have HB4' := Lib.hid hb4
          clear hO4 hcsb hcc hb4 hg4 c0 c1 c2 c3 c4 c5 c6 zg HD2'
          obtain ⟨c0, c1, c2, c3, c4, c5, c6⟩ := HKB4.out.c7
          have zg : g < w4.heap.size := HKB4.out.lt
          have zf := HKB4.out.frozen 6
          go_upto_region 11 with (fail)
          generalize w4.setCell ⟨g, 6, none⟩ (.slice A4 lsb c4') = w5 at *
          clear c0 c1 c2 c3 c4 c5 c6 zg zf HKB4
          obtain ⟨c0, c1, c2, c3, c4, c5, c6⟩ := HKB5.out.c7
          have zg : g < w5.heap.size := HKB5.out.lt
          have HB5p := Lib.hid (HBp.out.old HB5.out)
          have zq : qp < w5.heap.size := HB5p.out.lt
          have f0 := HB5p.out.frozen (i * 7)
          have f1 := HB5p.out.frozen (i * 7 + 1)
          have f2 := HB5p.out.frozen (i * 7 + 2)
          have f3 := HB5p.out.frozen (i * 7 + 3)
          have f4 := HB5p.out.frozen (i * 7 + 4)
          have f5 := HB5p.out.frozen (i * 7 + 5)
          have f6 := HB5p.out.frozen (i * 7 + 6)
          obtain ⟨x0, x1, x2, x3, x4, x5, x6⟩ := HD0.out
          have y0 := cell_old HB5.out hqpl x0
          have y1 := cell_old HB5.out hqpl x1
          have y2 := cell_old HB5.out hqpl x2
          have y3 := cell_old HB5.out hqpl x3
          have y4 := cell_old HB5.out hqpl x4
          have y5 := cell_old HB5.out hqpl x5
          have y6 := cell_old HB5.out hqpl x6
          clear x0 x1 x2 x3 x4 x5 x6
          go_upto_region 12 with (fail)
          have HNQ : Hid (∀ k, some k = (Value.slice A4 lsb c4').ownBlock → wa.heap.size ≤ k) := fun k hk => own_geB HO4.out k hk
          have hR := round_all (S0 := S0) (base := w.heap.size) (c1 := c1') (c4 := c4') Hqp.out HB5.out HB3.out HBp.out HD0.out HA.out HS.out HLX.out HLS.out HB4.out.size HO1c.out HO4.out HCS.out HCC.out
          have HR := Lib.hid hR
          have HKB6 : Hid (Blk (put7 w5 qp (i * 7) (.int .u8 k1) (.int .u8 a1) (.int .i64 a2) (.int .u8 b1) (.int .i64 b2) (.slice A1 lx c1') (.slice A4 lsb c4')) g 50 #[.int .u8 k1, .int .u8 a1, .int .i64 a2, .int .u8 b1, .int .i64 b2, .slice A1 lx c1', .slice A4 lsb c4']) := (put7_heap hgq).trans HKB5.out
          change Code.wp _ _ _ _ (put7 w5 qp (i * 7) (.int .u8 k1) (.int .u8 a1) (.int .i64 a2) (.int .u8 b1) (.int .i64 b2) (.slice A1 lx c1') (.slice A4 lsb c4'))
          generalize put7 w5 qp (i * 7) (.int .u8 k1) (.int .u8 a1) (.int .i64 a2) (.int .u8 b1) (.int .i64 b2) (.slice A1 lx c1') (.slice A4 lsb c4') = w6 at *
          clear hR c0 c1 c2 c3 c4 c5 c6 zg zq f0 f1 f2 f3 f4 f5 f6 y0 y1 y2 y3 y4 y5 y6 HKB5 HB5p HO1b HO1c HO4 HCS HCC HB4' hgq hqpl
          have HO6 := Lib.hid (HR.out.own _ _ _ hO3.out)
          have HK6 : Hid (∀ p ∈ Q, OKl S0 w.heap.size w6 p) := fun p hp => (hK3.out p hp).swap HR.out.swap HR.out.stay
          have HT6 := Lib.hid (hT3.out.swap HR.out.swap HR.out.stay)
          have HP6 := Lib.hid (hP3.out.swap HR.out.swap HR.out.stay)
          have HB6 := Lib.hid (HR.out.bel w rfl hB3.out)
          have HL6 : Hid (∀ q, A = some ⟨q, 0, none⟩ → ∀ k, k < dn (i + 1) → LooseAt w.heap.size w6 q k) := loose_step (c := c) (cp := cp) rfl hlt HD.out hF3.out.2 HR.out.swap HR.out.stay HR.out.loose
          have HS6 : Hid (OKl S0 w.heap.size w6 ⟨A4, c4', sub⟩) := HR.out.sub _ _ _ _ _ _ _ _ _ _ rfl hlt HDR.out hP3.out
          have HQ6 : Hid (∀ p ∈ Q, 0 < p.t.len → 0 < t.len → p.A ≠ A) := hF3.out.1
          have HNA : Hid (0 < sub.len → 0 < t.len → A4 ≠ A) := fun h1 h2 e => by
            obtain ⟨q', cs', hA', _, hB'⟩ := hT3.out.1 h2
            simp only at hA'
            have := HNQ.out q' (by rw [e, hA']; rfl)
            have := hB'.lt
            have := HB4.out.size
            omega
          clear hO3 hK3 hT3 hP3 hB3 hF3 HR HA HS HD0 HB3 HB4 HB5 HW3 HBp HKB2 HDR
          obtain ⟨c0, c1, c2, c3, c4, c5, c6⟩ := HKB6.out.c7
          have zg : g < w6.heap.size := HKB6.out.lt
          have hlQ := len_wtL Q
          by_cases hp0 : 0 < lsb
          · have hp0i : (0 : Int) < (lsb : Int) := by omega
            obtain ⟨q5, cap5, w7, hr5, hO5, hg5⟩ := own_pushL w.heap.size (.slice (some ⟨q3, 0, none⟩) Q.length cap3) Q ⟨A4, c4', sub⟩ w6 HO6.out (by omega) HB6.out.size
            dsimp only at hr5
            rw [← show lsb = sub.len from HLS.out] at hr5
            have hBA : Below w6.heap.size w6 (w6.alloc (.cells #[.slice A4 sub.len c4'] 38)) := (Below.refl _ _).alloc (Nat.le_refl _) _
            have hOA := HO6.out.alloc (.cells #[.slice A4 sub.len c4'] 38)
            have HO7 := Lib.hid hO5
            have HK7 : Hid (∀ p ∈ Q ++ [⟨A4, c4', sub⟩], OKl S0 w.heap.size w7 p) := fun p hp => by
              rcases List.mem_append.1 hp with h | h
              · exact ((HK6.out p h).old hBA).grown hOA hg5
              · obtain rfl := List.mem_singleton.1 h
                exact (HS6.out.old hBA).grown hOA hg5
            have HT7 := Lib.hid ((HT6.out.old hBA).grown hOA hg5)
            have HP7 := Lib.hid ((HP6.out.old hBA).grown hOA hg5)
            have HB7 : Hid (Below w.heap.size w w7) := (HB6.out.trans (hBA.mono HB6.out.size)).grown hg5 (by have := HB6.out.size; simp; omega) (fun k hk => own_geB hOA k hk.symm)
            have HQ7 : Hid (∀ p ∈ Q ++ [⟨A4, c4', sub⟩], 0 < p.t.len → 0 < t.len → p.A ≠ A) := fun p hp h1 h2 => by
              rcases List.mem_append.1 hp with h | h
              · exact HQ6.out p h h1 h2
              · obtain rfl := List.mem_singleton.1 h
                exact HNA.out h1 h2
            have HL7 : Hid (∀ q, A = some ⟨q, 0, none⟩ → ∀ k, k < dn (i + 1) → LooseAt w.heap.size w7 q k) := fun q hA k hk => by
              have hp : 0 < t.len := by
                rcases HD.out with ⟨rfl, he⟩ | ⟨h1, _⟩
                · have e1 : tp = t := congrArg Ln.t he
                  rw [← e1]; omega
                · rw [h1] at hk; omega
              obtain ⟨q', cs', hA', _, hB'⟩ := HT6.out.1 hp
              simp only at hA'
              rw [hA] at hA'
              injection hA' with hA'
              injection hA' with hA'
              subst hA'
              exact ((HL6.out q hA k hk).old hBA).grown (hB'.old hBA) hOA hg5
            have HWn : Hid (wtL (Q ++ [⟨A4, c4', sub⟩]) + rest.size + 1 ≤ G) := by
              show _ ≤ _
              rw [wtL_append, show wtL [(⟨A4, c4', sub⟩ : Ln)] = sub.size + 1 from rfl]
              omega
            clear hO5 hg5 hBA hOA
            go_upto_region 13 with (fail)
            go_wp2_with (at_builtin; refine Lib.wpList_append_run _ rfl _ _ 132 132 rfl _ _ rfl rfl _ _ hr5 ?_)
            go_roundg (tp.len - (i + 1))
            case measure => omega
            case rel => exact ⟨i + 1, Q ++ [⟨A4, c4', sub⟩], by omega, rfl, by go_num, ⟨q5, cap5, by simp⟩, (by rw [show (Q ++ [(⟨A4, c4', sub⟩ : Ln)]).length = Q.length + 1 from by simp] at HO7 ⊢; exact HO7), HK7, HT7, HP7, HB7, (by show _ ≤ _; rw [Hn1.out]; exact HWn.out), ⟨HQ7.out, HL7.out⟩⟩
          · obtain rfl : lsb = 0 := by omega
            go_wp2
            go_roundg (tp.len - (i + 1))
            case measure => omega
            case rel => exact ⟨i + 1, Q, by omega, rfl, by go_num, ⟨_, _, rfl⟩, HO6, HK6, HT6, HP6, HB6, (by show _ ≤ _; rw [Hn1.out]; omega), ⟨HQ6.out, HL6.out⟩⟩
        · obtain rfl : i = tp.len := by omega
          have hW4 := hW3.out
          rw [Bd.drop_end tp tp.len (Nat.le_refl _)] at hW4
          simp only [Bd.size] at hW4
          have HFn : Hid (Q = [⟨A, c, t⟩] ∨ ((∀ p ∈ Q, 0 < p.t.len → 0 < t.len → p.A ≠ A) ∧ ∀ q, A = some ⟨q, 0, none⟩ → ∀ k, k < t.len → LooseAt w.heap.size wr q k)) := .inr ⟨hF3.out.1, fun q hA k hk => hF3.out.2 q hA k (by
            rcases HD.out with ⟨rfl, he⟩ | ⟨h1, _⟩
            · have e1 : tp = t := congrArg Ln.t he
              rw [e1]; exact hk
            · rw [h1]; exact hk)⟩
          clear hF3 HD
          go_wp2
          go_roundg (wtL Q)
          case measure => omega
          case rel => exact ⟨Q, rfl, by omega, ⟨_, _, rfl⟩, hO3, hK3, hT3, hB3, HFn⟩
end Go.Proofs.Ytpdebnecfknohaa
