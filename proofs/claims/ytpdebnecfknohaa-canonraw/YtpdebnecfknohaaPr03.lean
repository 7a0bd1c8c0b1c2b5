/-
  Parts: Cc Mj Me Ma Mb Mh Ra Mz Qe.
-/
import Derived.Test.YtpdebnecfknohaaPr00
import Derived.Test.YtpdebnecfknohaaPr01
import Derived.Test.YtpdebnecfknohaaPr02
namespace Go.Proofs.Ytpdebnecfknohaa
open Go.RowKit
set_option linter.unusedVariables false
set_option maxRecDepth 20000
theorem ArgsS.low {S : Nat → Prop} {w : World} {v : Value} {l : List (Int × Int)} (h : ArgsS S w v l) : ArgsS (fun k => k < w.heap.size ∧ S k) w v l := by
  obtain ⟨A, c, hv, h⟩ := h
  refine ⟨A, c, hv, fun hp => ?_⟩
  obtain ⟨b, o, hA, hS, hc⟩ := h hp
  exact ⟨b, o, hA, ⟨World.block_lt_of_cell? w ⟨b, o + 0 * 2, none⟩ (hc 0 hp).1, hS⟩, hc⟩
theorem BdS.low {S : Nat → Prop} {w : World} : ∀ (t : Bd) (b o : Nat), BdS S w b o t → BdS (fun k => k < w.heap.size ∧ S k) w b o t
  | .nil, _, _, _ => trivial
  | .cons k a1 a2 b1 b2 args sub rest, b, o, h => by
    obtain ⟨hS, h1, ⟨va, h2, h3⟩, ⟨A, c, h4, h5⟩, h6⟩ := h
    refine ⟨⟨World.block_lt_of_cell? w ⟨b, o, none⟩ h1.1, hS⟩, h1, ⟨va, h2, h3.low⟩, ⟨A, c, h4, fun hp => ?_⟩, BdS.low rest b _ h6⟩
    obtain ⟨b', o', hA, h7⟩ := h5 hp
    exact ⟨b', o', hA, BdS.low sub b' o' h7⟩
theorem BodyS.low {S : Nat → Prop} {w : World} {A : Option Addr} {t : Bd} (h : BodyS S w A t) : BodyS (fun k => k < w.heap.size ∧ S k) w A t := fun hp => by
  obtain ⟨b, o, hA, h1⟩ := h hp
  exact ⟨b, o, hA, BdS.low t b o h1⟩
/-- What copyBody leaves: a body like that, in rows of the call's own. -/
def CbPost (S0 : Nat → Prop) (w w' : World) (A : Option Addr) (t : Bd) : Prop := (0 < t.len → ∃ q cs, A = some ⟨q, 0, none⟩ ∧ w.heap.size ≤ q ∧ Blk w' q 50 cs ∧ ∀ k, k < t.len → LooseAt w.heap.size w' q k) ∧ BodyS (fun k => w.heap.size ≤ k ∨ S0 k) w' A t ∧ Below w.heap.size w w'
set_option maxRecDepth 20000 in
set_option maxHeartbeats 4000000 in
theorem copyB_any (S0 : Nat → Prop) (Ab : Option Addr) (cb : Nat) (t : Bd) (w : World) (h : BodyS S0 w Ab t) (hs : t.size ≤ 100000000) (hw : t.wide ≤ 1000000000) :
    Calls Try.prog 79 #[.slice Ab t.len cb] w fun e w' => ∃ A c, e = .returned (.slice A t.len c) ∧ CbPost S0 w w' A t := by
  have hlt := Bd.len_le t
  have hC := cloneS2_any (fun k => k < w.heap.size ∧ S0 k) Ab cb t w (BodyS.low h) (by omega)
  have HC := Lib.hid hC
  clear hC h
  go_enter Try.func79, Try.ntmps79
  go_wp2_with fail
  refine HC.out.mono ?_
  rintro e w1 ⟨A, c, rfl, ⟨cs, hO, hcs, _⟩, hb1⟩
  have hcs1 : CellsB (NR S0 w.heap.size w1) w1 cs t := CellsB.kept (Below.keptS hb1) (fun k hk _ => .inl hk) t cs hcs
  have hown : 0 < t.len → ∃ q cs, A = some ⟨q, 0, none⟩ ∧ w.heap.size ≤ q ∧ Blk w1 q 50 cs := fun hp => by
    obtain ⟨q, cap, hv, hb, _⟩ := own_formM hO hp
    obtain ⟨_, cur, hB⟩ := own_blk hO q (by rw [hv]; rfl)
    injection hv with hv1 hv2 hv3
    exact ⟨q, cur, hv1, hb, hB⟩
  have hbody : BodyS (NR S0 w.heap.size w1) w1 A t := own_bodyB rfl hO hcs1 (fun k hk => by
    obtain ⟨_, cur, hB⟩ := own_blk hO k hk
    exact .inr ⟨own_geB hO k hk, 50, cur, hB, by decide⟩)
  have hok1 : OKl S0 w.heap.size w1 ⟨A, c, t⟩ := ⟨hown, hbody, hw⟩
  have hBa : Below w1.heap.size w1 (w1.alloc (.cells #[.slice A t.len c] 38)) := (Below.refl _ _).alloc (Nat.le_refl _) _
  have HOK : Hid (OKl S0 w.heap.size (w1.alloc (.cells #[.slice A t.len c] 38)) ⟨A, c, t⟩) := by
    refine ⟨fun hp => ?_, hbody.kept (Below.keptS hBa) (fun k hk _ => NR.stay (Stay.old hBa) k hk), hw⟩
    obtain ⟨q, cs, h1, h2, h3⟩ := hown hp
    exact ⟨q, cs, h1, h2, h3.alloc _⟩
  have HB0 : Hid (Below w.heap.size w (w1.alloc (.cells #[.slice A t.len c] 38))) := hb1.alloc hb1.size _
  have HO0 : Hid ((w1.alloc (.cells #[.slice A t.len c] 38)).ownsRow w.heap.size 38 1 (.slice (some ⟨w1.heap.size, 0, none⟩) 1 1) 1 (flatL [⟨A, c, t⟩])) :=
    ⟨rfl, .inr ⟨w1.heap.size, 1, _, rfl, hb1.size, heap_alloc_new w1 _, Nat.le_refl _, by unfold maxLen; omega, rfl, rfl⟩⟩
  clear hcs1 hown hbody hok1 hBa hO hcs HC hb1
  go_wp2_with fail
  go_loopg [4] (t.size + 1) (fun g s4 wr => ∃ P : List Ln, wtL P = g ∧ g ≤ 100000001 ∧ (∃ q cap, s4 = .slice (some ⟨q, 0, none⟩) P.length cap) ∧ Hid (wr.ownsRow w.heap.size 38 1 s4 P.length (flatL P)) ∧ Hid (∀ p ∈ P, OKl S0 w.heap.size wr p) ∧ Hid (OKl S0 w.heap.size wr ⟨A, c, t⟩) ∧ Hid (Below w.heap.size w wr) ∧ Hid (P = [⟨A, c, t⟩] ∨ ((∀ p ∈ P, 0 < p.t.len → 0 < t.len → p.A ≠ A) ∧ ∀ q, A = some ⟨q, 0, none⟩ → ∀ k, k < t.len → LooseAt w.heap.size wr q k)))
  case atStart => exact ⟨[⟨A, c, t⟩], by simp [wtL], by omega, ⟨_, _, rfl⟩, HO0, (by intro p hp; obtain rfl := List.mem_singleton.1 hp; exact HOK.out), HOK, HB0, .inl rfl⟩
  case round =>
    obtain ⟨P, hg, hgl, ⟨q0, cap0, hs4⟩, hO, hK, hT, hB, hF⟩ := hrel
    rcases List.eq_nil_or_concat P with rfl | ⟨P0, p, rfl⟩
    · subst hs4
      go_wp2
      go_ret
      refine ⟨A, c, rfl, fun hp => ?_, hT.out.2.1.kept (fun _ _ _ => rfl) (fun k hk _ => by rcases hk with hk | hk; exact .inr hk.2; exact .inl hk.1), hB.out⟩
      obtain ⟨q, cs, hA, hq, hBq⟩ := hT.out.1 hp
      rcases hF.out with h0 | h0
      · cases h0
      · exact ⟨q, cs, hA, hq, hBq, h0.2 q hA⟩
    · rw [List.concat_eq_append] at *
      clear hs4
      obtain ⟨q, cap, rfl, hc1, hc2, hp1, hO1⟩ := own_popL hO.out
      have HKp := Lib.hid (hK.out p (by simp))
      have HK1 : Hid (∀ x ∈ P0, OKl S0 w.heap.size wr x) := fun x hx => hK.out x (by simp [hx])
      have HO1 := Lib.hid hO1
      have hwt : wtL (P0 ++ [p]) = wtL P0 + (p.t.size + 1) := by rw [wtL_append]; simp [wtL]
      have hlw := len_wtL P0
      obtain ⟨dn, hdn⟩ : ∃ dn : Nat → Nat, ((dn = id ∧ p = ⟨A, c, t⟩) ∨ ((∀ i, dn i = t.len) ∧ (0 < p.t.len → 0 < t.len → p.A ≠ A))) ∧ ((∀ x ∈ P0, 0 < x.t.len → 0 < t.len → x.A ≠ A) ∧ ∀ q, A = some ⟨q, 0, none⟩ → ∀ k, k < dn 0 → LooseAt w.heap.size wr q k) := by
        rcases hF.out with h0 | h0
        · obtain ⟨rfl, hp⟩ : P0 = [] ∧ p = ⟨A, c, t⟩ := by
            cases P0 with
            | nil => exact ⟨rfl, by simpa using h0⟩
            | cons x l => simp at h0
          exact ⟨id, .inl ⟨rfl, hp⟩, fun x hx => by simp at hx, fun q _ k hk => absurd hk (by simp)⟩
        · exact ⟨fun _ => t.len, .inr ⟨fun _ => rfl, h0.1 p (by simp)⟩, fun x hx => h0.1 x (by simp [hx]), h0.2⟩
      have HD := Lib.hid hdn.1
      have HF0 := Lib.hid hdn.2
      obtain ⟨Ap, cp, tp⟩ := p
      simp only at hp1 hwt
      have hl1 := Bd.len_le tp
      rw [hwt] at hg
      clear hO hK hO1 hwt hdn hF
      have hlen0 : ((P0.length + 1 : Nat) : Int) - 1 = (P0.length : Int) := by omega
      obtain ⟨G, hG⟩ : ∃ G, G = gk := ⟨gk, rfl⟩
      subst hG
      go_wp2_with fail
      go_loopg [4, 28] tp.len (fun g2 s4 s28 wi => ∃ (i : Nat) (Q : List Ln), i ≤ tp.len ∧ g2 = tp.len - i ∧ s28 = .int .i64 (i : Int) ∧ (∃ q cap, s4 = .slice (some ⟨q, 0, none⟩) Q.length cap) ∧ Hid (wi.ownsRow w.heap.size 38 1 s4 Q.length (flatL Q)) ∧ Hid (∀ p ∈ Q, OKl S0 w.heap.size wi p) ∧ Hid (OKl S0 w.heap.size wi ⟨A, c, t⟩) ∧ Hid (OKl S0 w.heap.size wi ⟨Ap, cp, tp⟩) ∧ Hid (Below w.heap.size w wi) ∧ Hid (wtL Q + (tp.drop i).size + 1 ≤ G) ∧ Hid ((∀ p ∈ Q, 0 < p.t.len → 0 < t.len → p.A ≠ A) ∧ ∀ q, A = some ⟨q, 0, none⟩ → ∀ k, k < dn i → LooseAt w.heap.size wi q k))
      case atStart => exact ⟨0, P0, Nat.zero_le _, rfl, rfl, ⟨_, _, rfl⟩, HO1, HK1, hT, HKp, hB, (by show _ ≤ _; simp only [Bd.drop]; omega), HF0⟩
      case round =>
        clear HO1 HK1 hT HKp hB HF0 HOK HB0 HO0
        obtain ⟨i, Q, hi, hg2, rfl, ⟨q3, cap3, hs4⟩, hO3, hK3, hT3, hP3, hB3, hW3, hF3⟩ := hrel
        subst hs4
        by_cases hlt : i < tp.len
        · obtain ⟨k1, a1, a2, b1, b2, xs, sub, rest, hd1⟩ := Bd.drop_cons tp i hlt
          obtain ⟨qp, csp, hAp, hqp, hBp⟩ := hP3.out.1 (by simp only; omega)
          simp only at hAp
          subst hAp
          obtain ⟨b, o, hA, hat⟩ := hP3.out.2.1.at_ (by simp only; omega)
          injection hA with hA
          injection hA with e1 e2
          subst e1 e2
          have q1 := hat.drop tp _ _ i
          have HW1 := Lib.hid (Bd.sub_wide tp i hd1)
          have hW4 := hW3.out
          have hws := Bd.wide_drop tp i
          rw [hd1] at q1 hW4 hws
          simp only [Nat.zero_add] at q1
          simp only [Bd.size] at hW4
          simp only [Bd.wide] at hws
          obtain ⟨⟨d0, d1, d2, d3, d4⟩, ⟨va, d5, ha⟩, ⟨As, ns, d6, hsub⟩, _⟩ := q1
          obtain ⟨Aa, ca, rfl, ha0⟩ := ha
          have HA : Hid (ArgsAt wr (.slice Aa xs.length ca) xs) := ⟨Aa, ca, rfl, ha0⟩
          have HS : Hid (BodyV wr As sub) := hsub
          have HD0 : Hid (wr.cell? ⟨qp, i * 7, none⟩ = some (.int .u8 k1) ∧ wr.cell? ⟨qp, i * 7 + 1, none⟩ = some (.int .u8 a1) ∧ wr.cell? ⟨qp, i * 7 + 2, none⟩ = some (.int .i64 a2) ∧ wr.cell? ⟨qp, i * 7 + 3, none⟩ = some (.int .u8 b1) ∧ wr.cell? ⟨qp, i * 7 + 4, none⟩ = some (.int .i64 b2) ∧ wr.cell? ⟨qp, i * 7 + 5, none⟩ = some (.slice Aa xs.length ca) ∧ wr.cell? ⟨qp, i * 7 + 6, none⟩ = some (.slice As sub.len ns)) := ⟨d0, d1, d2, d3, d4, d5, d6⟩
          have hsl := Bd.len_le sub
          have hwp := hP3.out.2.2
          simp only at hwp
          have hxl : xs.length ≤ 1000000000 := by omega
          have Hn1 := Lib.hid (Bd.drop_succ tp i hd1)
          have HDR := Lib.hid hd1
          have hsz1 := Bd.size_drop tp i
          rw [hd1] at hsz1
          simp only [Bd.size] at hsz1
          have hD1 := fun wx (hx : Below wr.heap.size wr wx) => cloneR2_any Aa ca xs wx (HA.out.old hx) hxl
          have hD2 := fun wx (hx : Below wr.heap.size wr wx) => cloneS2_any _ As ns sub wx (BodyV.toS (HS.out.old hx)) (by omega)
          have HD1 := Lib.hid hD1
          have HD2 := Lib.hid hD2
          have hqpl : qp < wr.heap.size := hBp.lt
          have HBp := Lib.hid hBp
          have Hqp := Lib.hid hqp
          obtain ⟨lx, hlx⟩ : ∃ lx, lx = xs.length := ⟨_, rfl⟩
          obtain ⟨lsb, hlsb⟩ : ∃ lsb, lsb = sub.len := ⟨_, rfl⟩
          rw [← hlx] at d5
          rw [← hlsb] at d6
          have HLX := Lib.hid hlx
          have HLS := Lib.hid hlsb
          have hil : (i : Int) < (tp.len : Int) := by omega
          have HB4 : Hid (Below wr.heap.size wr (wr.alloc (.cells #[.int .u8 k1, .int .u8 a1, .int .i64 a2, .int .u8 b1, .int .i64 b2, .slice Aa lx ca, .slice As lsb ns] 50))) := (Below.refl _ _).alloc (Nat.le_refl _) _
          have KB : Hid (Blk (wr.alloc (.cells #[.int .u8 k1, .int .u8 a1, .int .i64 a2, .int .u8 b1, .int .i64 b2, .slice Aa lx ca, .slice As lsb ns] 50)) wr.heap.size 50 #[.int .u8 k1, .int .u8 a1, .int .i64 a2, .int .u8 b1, .int .i64 b2, .slice Aa lx ca, .slice As lsb ns]) := Blk.new wr 50 _
          clear hat hsub ha0 hd1 hW3 hD1 hD2 hBp hqp hlx hlsb hws
          go_upto_region 9 with (fail)
          obtain ⟨g, hgd⟩ : ∃ g, g = wr.heap.size := ⟨_, rfl⟩
          rw [← hgd] at KB ⊢
          generalize wr.alloc (.cells #[.int .u8 k1, .int .u8 a1, .int .i64 a2, .int .u8 b1, .int .i64 b2, .slice Aa lx ca, .slice As lsb ns] 50) = wa at *
          have HGD := Lib.hid hgd
          clear d0 d1 d2 d3 d4 d5 d6 hgd
          obtain ⟨c0, c1, c2, c3, c4, c5, c6⟩ := KB.out.c7
          have zg : g < wa.heap.size := KB.out.lt
          have hD1 := HD1.out wa HB4.out
          rw [← HLX.out] at hD1
          have HD1' := Lib.hid hD1
          clear hD1 HD1
          go_wp2_with fail
          refine HD1'.out.mono ?_
          rintro e w2 ⟨A1, c1', rfl, hO1, hb2⟩
          have HO1 := Lib.hid hO1
          have HB2 := Lib.hid (HB4.out.trans (hb2.mono HB4.out.size))
          have HKB2 : Hid (Blk (w2.setCell ⟨g, 5, none⟩ (.slice A1 lx c1')) g 50 #[.int .u8 k1, .int .u8 a1, .int .i64 a2, .int .u8 b1, .int .i64 b2, .slice A1 lx c1', .slice As lsb ns]) := (KB.out.old hb2).set_ 5 _
          have KB2 := Lib.hid (KB.out.old hb2)
          have HW2 : Hid (wa.heap.size ≤ w2.heap.size) := hb2.size
          clear hO1 hb2 c0 c1 c2 c3 c4 c5 c6 zg HD1' KB
          obtain ⟨c0, c1, c2, c3, c4, c5, c6⟩ := KB2.out.c7
          have zg : g < w2.heap.size := KB2.out.lt
          have zf := KB2.out.frozen 5
          go_upto_region 10 with (fail)
          have HB3 : Hid (Below wr.heap.size wr (w2.setCell ⟨g, 5, none⟩ (.slice A1 lx c1'))) := HB2.out.setCell (p := ⟨g, 5, none⟩) (by rw [HGD.out]; exact Nat.le_refl _) _
          have HO1b : Hid ((w2.setCell ⟨g, 5, none⟩ (.slice A1 lx c1')).ownsRow wa.heap.size 46 2 (.slice A1 lx c1') lx (refV xs)) := own_blocks HO1.out (fun k hk => Below.heap_setCell _ _ _ _ (fun e => own_ne HO1.out KB2.out (by decide) (by have e' : k = g := e; subst e'; exact hk)))
          have HW3 : Hid (wa.heap.size ≤ (w2.setCell ⟨g, 5, none⟩ (.slice A1 lx c1')).heap.size) := by show _ ≤ _; have := HW2.out; simp [World.setCell]; exact this
          generalize w2.setCell ⟨g, 5, none⟩ (.slice A1 lx c1') = w3 at *
          clear c0 c1 c2 c3 c4 c5 c6 zg zf KB2 HO1 HB2 HW2
          obtain ⟨c0, c1, c2, c3, c4, c5, c6⟩ := HKB2.out.c7
          have zg : g < w3.heap.size := HKB2.out.lt
          have hD2 := HD2.out w3 HB3.out
          rw [← HLS.out] at hD2
          have HD2' := Lib.hid hD2
          clear hD2 HD2
          go_wp2_with fail
          refine HD2'.out.mono ?_
          rintro e w4 ⟨A4, c4', rfl, ⟨csb, hO4, hcsb, hcc⟩, hb4⟩
          have hgq : g ≠ qp := by have := HGD.out; omega
          have HKB4 := Lib.hid (HKB2.out.old hb4)
          have HB5 : Hid (Below wr.heap.size wr (w4.setCell ⟨g, 6, none⟩ (.slice A4 lsb c4'))) := (HB3.out.trans (hb4.mono HB3.out.size)).setCell (p := ⟨g, 6, none⟩) (by rw [HGD.out]; exact Nat.le_refl _) _
          have HKB5 : Hid (Blk (w4.setCell ⟨g, 6, none⟩ (.slice A4 lsb c4')) g 50 #[.int .u8 k1, .int .u8 a1, .int .i64 a2, .int .u8 b1, .int .i64 b2, .slice A1 lx c1', .slice A4 lsb c4']) := HKB4.out.set_ 6 _
          have hg4 : ∀ k, some k = (Value.slice A4 lsb c4').ownBlock → k ≠ g := fun k hk e => by
            have h1 := own_geB hO4 k hk
            have h2 := HKB2.out.lt
            omega
          have HO4 : Hid ((w4.setCell ⟨g, 6, none⟩ (.slice A4 lsb c4')).ownsRow wa.heap.size 50 7 (.slice A4 lsb c4') lsb csb) := own_mono (own_blocks hO4 (fun k hk => Below.heap_setCell _ _ _ _ (hg4 k hk))) HW3.out
          have HO1c : Hid ((w4.setCell ⟨g, 6, none⟩ (.slice A4 lsb c4')).ownsRow wa.heap.size 46 2 (.slice A1 lx c1') lx (refV xs)) := own_blocks (own_old HO1b.out hb4) (fun k hk => Below.heap_setCell _ _ _ _ (fun e => own_ne (own_old HO1b.out hb4) HKB4.out (by decide) (by have e' : k = g := e; subst e'; exact hk)))
          have HCS : Hid (CellsB (fun k => k < w3.heap.size) w3 csb sub) := hcsb
          have HCC := Lib.hid hcc
          have HB4' := Lib.hid hb4
          clear hO4 hcsb hcc hb4 hg4 c0 c1 c2 c3 c4 c5 c6 zg HD2'
          obtain ⟨c0, c1, c2, c3, c4, c5, c6⟩ := HKB4.out.c7
          have zg : g < w4.heap.size := HKB4.out.lt
          have zf := HKB4.out.frozen 6
          go_upto_region 11 with (fail)
          generalize w4.setCell ⟨g, 6, none⟩ (.slice A4 lsb c4') = w5 at *
          clear c0 c1 c2 c3 c4 c5 c6 zg zf HKB4
          obtain ⟨c0, c1, c2, c3, c4, c5, c6⟩ := HKB5.out.c7
          have zg : g < w5.heap.size := HKB5.out.lt
          have HB5p := Lib.hid (HBp.out.old HB5.out)
          have zq : qp < w5.heap.size := HB5p.out.lt
          have f0 := HB5p.out.frozen (i * 7)
          have f1 := HB5p.out.frozen (i * 7 + 1)
          have f2 := HB5p.out.frozen (i * 7 + 2)
          have f3 := HB5p.out.frozen (i * 7 + 3)
          have f4 := HB5p.out.frozen (i * 7 + 4)
          have f5 := HB5p.out.frozen (i * 7 + 5)
          have f6 := HB5p.out.frozen (i * 7 + 6)
          obtain ⟨x0, x1, x2, x3, x4, x5, x6⟩ := HD0.out
          have y0 := cell_old HB5.out hqpl x0
          have y1 := cell_old HB5.out hqpl x1
          have y2 := cell_old HB5.out hqpl x2
          have y3 := cell_old HB5.out hqpl x3
          have y4 := cell_old HB5.out hqpl x4
          have y5 := cell_old HB5.out hqpl x5
          have y6 := cell_old HB5.out hqpl x6
          clear x0 x1 x2 x3 x4 x5 x6
          go_upto_region 12 with (fail)
          have HNQ : Hid (∀ k, some k = (Value.slice A4 lsb c4').ownBlock → wa.heap.size ≤ k) := fun k hk => own_geB HO4.out k hk
          have hR := round_all (S0 := S0) (base := w.heap.size) (c1 := c1') (c4 := c4') Hqp.out HB5.out HB3.out HBp.out HD0.out HA.out HS.out HLX.out HLS.out HB4.out.size HO1c.out HO4.out HCS.out HCC.out
          have HR := Lib.hid hR
          have HKB6 : Hid (Blk (put7 w5 qp (i * 7) (.int .u8 k1) (.int .u8 a1) (.int .i64 a2) (.int .u8 b1) (.int .i64 b2) (.slice A1 lx c1') (.slice A4 lsb c4')) g 50 #[.int .u8 k1, .int .u8 a1, .int .i64 a2, .int .u8 b1, .int .i64 b2, .slice A1 lx c1', .slice A4 lsb c4']) := (put7_heap hgq).trans HKB5.out
          change Code.wp _ _ _ _ (put7 w5 qp (i * 7) (.int .u8 k1) (.int .u8 a1) (.int .i64 a2) (.int .u8 b1) (.int .i64 b2) (.slice A1 lx c1') (.slice A4 lsb c4'))
          generalize put7 w5 qp (i * 7) (.int .u8 k1) (.int .u8 a1) (.int .i64 a2) (.int .u8 b1) (.int .i64 b2) (.slice A1 lx c1') (.slice A4 lsb c4') = w6 at *
          clear hR c0 c1 c2 c3 c4 c5 c6 zg zq f0 f1 f2 f3 f4 f5 f6 y0 y1 y2 y3 y4 y5 y6 HKB5 HB5p HO1b HO1c HO4 HCS HCC HB4' hgq hqpl
          have HO6 := Lib.hid (HR.out.own _ _ _ hO3.out)
          have HK6 : Hid (∀ p ∈ Q, OKl S0 w.heap.size w6 p) := fun p hp => (hK3.out p hp).swap HR.out.swap HR.out.stay
          have HT6 := Lib.hid (hT3.out.swap HR.out.swap HR.out.stay)
          have HP6 := Lib.hid (hP3.out.swap HR.out.swap HR.out.stay)
          have HB6 := Lib.hid (HR.out.bel w rfl hB3.out)
          have HL6 : Hid (∀ q, A = some ⟨q, 0, none⟩ → ∀ k, k < dn (i + 1) → LooseAt w.heap.size w6 q k) := loose_step (c := c) (cp := cp) rfl hlt HD.out hF3.out.2 HR.out.swap HR.out.stay HR.out.loose
          have HS6 : Hid (OKl S0 w.heap.size w6 ⟨A4, c4', sub⟩) := HR.out.sub _ _ _ _ _ _ _ _ _ _ rfl hlt HDR.out hP3.out
          have HQ6 : Hid (∀ p ∈ Q, 0 < p.t.len → 0 < t.len → p.A ≠ A) := hF3.out.1
          have HNA : Hid (0 < sub.len → 0 < t.len → A4 ≠ A) := fun h1 h2 e => by
            obtain ⟨q', cs', hA', _, hB'⟩ := hT3.out.1 h2
            simp only at hA'
            have := HNQ.out q' (by rw [e, hA']; rfl)
            have := hB'.lt
            have := HB4.out.size
            omega
          clear hO3 hK3 hT3 hP3 hB3 hF3 HR HA HS HD0 HB3 HB4 HB5 HW3 HBp HKB2 HDR
          obtain ⟨c0, c1, c2, c3, c4, c5, c6⟩ := HKB6.out.c7
          have zg : g < w6.heap.size := HKB6.out.lt
          have hlQ := len_wtL Q
          by_cases hp0 : 0 < lsb
          · have hp0i : (0 : Int) < (lsb : Int) := by omega
            obtain ⟨q5, cap5, w7, hr5, hO5, hg5⟩ := own_pushL w.heap.size (.slice (some ⟨q3, 0, none⟩) Q.length cap3) Q ⟨A4, c4', sub⟩ w6 HO6.out (by omega) HB6.out.size
            dsimp only at hr5
            rw [← show lsb = sub.len from HLS.out] at hr5
            have hBA : Below w6.heap.size w6 (w6.alloc (.cells #[.slice A4 sub.len c4'] 38)) := (Below.refl _ _).alloc (Nat.le_refl _) _
            have hOA := HO6.out.alloc (.cells #[.slice A4 sub.len c4'] 38)
            have HO7 := Lib.hid hO5
            have HK7 : Hid (∀ p ∈ Q ++ [⟨A4, c4', sub⟩], OKl S0 w.heap.size w7 p) := fun p hp => by
              rcases List.mem_append.1 hp with h | h
              · exact ((HK6.out p h).old hBA).grown hOA hg5
              · obtain rfl := List.mem_singleton.1 h
                exact (HS6.out.old hBA).grown hOA hg5
            have HT7 := Lib.hid ((HT6.out.old hBA).grown hOA hg5)
            have HP7 := Lib.hid ((HP6.out.old hBA).grown hOA hg5)
            have HB7 : Hid (Below w.heap.size w w7) := (HB6.out.trans (hBA.mono HB6.out.size)).grown hg5 (by have := HB6.out.size; simp; omega) (fun k hk => own_geB hOA k hk.symm)
            have HQ7 : Hid (∀ p ∈ Q ++ [⟨A4, c4', sub⟩], 0 < p.t.len → 0 < t.len → p.A ≠ A) := fun p hp h1 h2 => by
              rcases List.mem_append.1 hp with h | h
              · exact HQ6.out p h h1 h2
              · obtain rfl := List.mem_singleton.1 h
                exact HNA.out h1 h2
            have HL7 : Hid (∀ q, A = some ⟨q, 0, none⟩ → ∀ k, k < dn (i + 1) → LooseAt w.heap.size w7 q k) := fun q hA k hk => by
              have hp : 0 < t.len := by
                rcases HD.out with ⟨rfl, he⟩ | ⟨h1, _⟩
                · have e1 : tp = t := congrArg Ln.t he
                  rw [← e1]; omega
                · rw [h1] at hk; omega
              obtain ⟨q', cs', hA', _, hB'⟩ := HT6.out.1 hp
              simp only at hA'
              rw [hA] at hA'
              injection hA' with hA'
              injection hA' with hA'
              subst hA'
              exact ((HL6.out q hA k hk).old hBA).grown (hB'.old hBA) hOA hg5
            have HWn : Hid (wtL (Q ++ [⟨A4, c4', sub⟩]) + rest.size + 1 ≤ G) := by
              show _ ≤ _
              rw [wtL_append, show wtL [(⟨A4, c4', sub⟩ : Ln)] = sub.size + 1 from rfl]
              omega
            clear hO5 hg5 hBA hOA
            go_upto_region 13 with (fail)
            go_wp2_with (at_builtin; refine Lib.wpList_append_run _ rfl _ _ 132 132 rfl _ _ rfl rfl _ _ hr5 ?_)
            go_roundg (tp.len - (i + 1))
            case measure => omega
            case rel => exact ⟨i + 1, Q ++ [⟨A4, c4', sub⟩], by omega, rfl, by go_num, ⟨q5, cap5, by simp⟩, (by rw [show (Q ++ [(⟨A4, c4', sub⟩ : Ln)]).length = Q.length + 1 from by simp] at HO7 ⊢; exact HO7), HK7, HT7, HP7, HB7, (by show _ ≤ _; rw [Hn1.out]; exact HWn.out), ⟨HQ7.out, HL7.out⟩⟩
          · obtain rfl : lsb = 0 := by omega
            go_wp2
            go_roundg (tp.len - (i + 1))
            case measure => omega
            case rel => exact ⟨i + 1, Q, by omega, rfl, by go_num, ⟨_, _, rfl⟩, HO6, HK6, HT6, HP6, HB6, (by show _ ≤ _; rw [Hn1.out]; omega), ⟨HQ6.out, HL6.out⟩⟩
        · obtain rfl : i = tp.len := by omega
          have hW4 := hW3.out
          rw [Bd.drop_end tp tp.len (Nat.le_refl _)] at hW4
          simp only [Bd.size] at hW4
          have HFn : Hid (Q = [⟨A, c, t⟩] ∨ ((∀ p ∈ Q, 0 < p.t.len → 0 < t.len → p.A ≠ A) ∧ ∀ q, A = some ⟨q, 0, none⟩ → ∀ k, k < t.len → LooseAt w.heap.size wr q k)) := .inr ⟨hF3.out.1, fun q hA k hk => hF3.out.2 q hA k (by
            rcases HD.out with ⟨rfl, he⟩ | ⟨h1, _⟩
            · have e1 : tp = t := congrArg Ln.t he
              rw [e1]; exact hk
            · rw [h1]; exact hk)⟩
          clear hF3 HD
          go_wp2
          go_roundg (wtL Q)
          case measure => omega
          case rel => exact ⟨Q, rfl, by omega, ⟨_, _, rfl⟩, hO3, hK3, hT3, hB3, HFn⟩
end Go.Proofs.Ytpdebnecfknohaa
namespace Go.Proofs.Ytpdebnecfknohaa
open Go.RowKit
set_option linter.unusedVariables false
set_option maxRecDepth 20000
/-- While a function is made: the draft's box, the result's, the module's, the function's, and their rows. -/
structure MkJ (w wr : World) (D Z : Array Value) (q9 : Nat) (S : List (List UInt8)) (gl : List Int) (L : List Fn) (f0 f1 : Int) (loc sit : List Int) (As : Option Addr) (ns cs : Nat) (Ag : Option Addr) (ng cg : Nat) (Af : Option Addr) (i cf : Nat) (Al : Option Addr) (nl cl : Nat) (At : Option Addr) (nt ct : Nat) : Prop where
  bel : Below w.heap.size w wr
  bd : Blk wr w.heap.size 24 D
  bz : Blk wr (w.heap.size + 1) 30 Z
  bm : Blk wr (w.heap.size + 1 + 1) 30 #[.slice As ns cs, .slice Ag ng cg, .slice Af i cf, .slice none 0 0]
  bf : Blk wr q9 40 #[.int .i64 f0, .int .i64 f1, .slice Al nl cl, .slice At nt ct, .slice none 0 0]
  lens : S.length = ns ∧ gl.length = ng ∧ L.length = i ∧ loc.length = nl ∧ sit.length = nt
  os : wr.ownsRow (w.heap.size + 1 + 1 + 1) 9 1 (.slice As ns cs) ns (strV S)
  og : wr.ownsRow (w.heap.size + 1 + 1 + 1) 3 1 (.slice Ag ng cg) ng (intV gl)
  ogq : ∀ k, some k = (Value.slice Ag ng cg).ownBlock → k < q9
  ol : wr.ownsRow q9 3 1 (.slice Al nl cl) nl (intV loc)
  ot : wr.ownsRow q9 3 1 (.slice At nt ct) nt (intV sit)
  ne : ∀ k, some k = (Value.slice Al nl cl).ownBlock → some k ≠ (Value.slice At nt ct).ownBlock
  fr : FnRow wr (w.heap.size + 1 + 1 + 1) (fun k => some k ≠ (Value.slice As ns cs).ownBlock ∧ w.heap.size + 1 + 1 + 1 ≤ k ∧ k < q9) (.slice Af i cf) L
  frq : ∀ k, some k = (Value.slice Af i cf).ownBlock → k < q9
  q9 : w.heap.size + 1 + 1 + 1 ≤ q9
  nob : ∀ k, some k = (Value.slice Af i cf).ownBlock → ∀ t, t < i → wr.cell? ⟨k, t * 5 + 4, none⟩ = some (.slice none 0 0)
section
variable {w wr : World} {D Z : Array Value} {q9 : Nat} {S : List (List UInt8)} {gl : List Int} {L : List Fn} {f0 f1 : Int} {loc sit : List Int} {As : Option Addr} {ns cs : Nat} {Ag : Option Addr} {ng cg : Nat} {Af : Option Addr} {i cf : Nat} {Al : Option Addr} {nl cl : Nat} {At : Option Addr} {nt ct : Nat}
end
/-- Between two functions. -/
structure MkI (w wr : World) (D Z : Array Value) (S : List (List UInt8)) (gl : List Int) (L : List Fn) (As : Option Addr) (ns cs : Nat) (Ag : Option Addr) (ng cg : Nat) (Af : Option Addr) (i cf : Nat) : Prop where
  bel : Below w.heap.size w wr
  bd : Blk wr w.heap.size 24 D
  bz : Blk wr (w.heap.size + 1) 30 Z
  bm : Blk wr (w.heap.size + 1 + 1) 30 #[.slice As ns cs, .slice Ag ng cg, .slice Af i cf, .slice none 0 0]
  lens : S.length = ns ∧ gl.length = ng ∧ L.length = i
  os : wr.ownsRow (w.heap.size + 1 + 1 + 1) 9 1 (.slice As ns cs) ns (strV S)
  og : wr.ownsRow (w.heap.size + 1 + 1 + 1) 3 1 (.slice Ag ng cg) ng (intV gl)
  fr : FnRow wr (w.heap.size + 1 + 1 + 1) (fun k => some k ≠ (Value.slice As ns cs).ownBlock ∧ w.heap.size + 1 + 1 + 1 ≤ k) (.slice Af i cf) L
  nob : ∀ k, some k = (Value.slice Af i cf).ownBlock → ∀ t, t < i → wr.cell? ⟨k, t * 5 + 4, none⟩ = some (.slice none 0 0)
section
variable {w wr : World} {D Z : Array Value} {S : List (List UInt8)} {gl : List Int} {L : List Fn} {As : Option Addr} {ns cs : Nat} {Ag : Option Addr} {ng cg : Nat} {Af : Option Addr} {i cf : Nat}
/-- A function is done. -/
theorem MkJ.done {q9 : Nat} {f0 f1 : Int} {loc sit : List Int} {Al : Option Addr} {nl cl : Nat} {At : Option Addr} {nt ct : Nat} (h : MkJ w wr D Z q9 S gl L f0 f1 loc sit As ns cs Ag ng cg Af i cf Al nl cl At nt ct) (hl : i ≤ 10000) :
    ∃ q5 c5 w5, (Builtin.append_ #[28, 28] 28 #[.slice Af i cf, .slice (some ⟨wr.heap.size, 0, none⟩) 1 1]).run Try.prog (wr.alloc (.cells #[.int .i64 f0, .int .i64 f1, .slice Al nl cl, .slice At nt ct, .slice none 0 0] 40)) = .ok (.slice (some ⟨q5, 0, none⟩) (i + 1) c5) w5 ∧ w5.cell? ⟨w.heap.size + 1 + 1, 2, none⟩ = some (.slice Af i cf) ∧ w5.frozen? ⟨w.heap.size + 1 + 1, 2, none⟩ = false ∧
      Hid (MkI w (w5.setCell ⟨w.heap.size + 1 + 1, 2, none⟩ (.slice (some ⟨q5, 0, none⟩) (i + 1) c5)) D Z S gl (L ++ [⟨f0, f1, loc, sit, .nil⟩]) As ns cs Ag ng cg (some ⟨q5, 0, none⟩) (i + 1) c5) := by
  have hq := h.q9
  have zq := h.bf.lt
  obtain ⟨hl1, hl2, hl3, hl4, hl5⟩ := h.lens
  have hup : ∀ k, q9 ≤ k → some k ≠ (Value.slice Af i cf).ownBlock := fun k hk e => by have := h.frq k e; omega
  have hne : ∀ (v : Value) (n : Nat) (l : List Int), wr.ownsRow q9 3 1 v n (intV l) → ∀ k, some k = v.ownBlock → some k ≠ (Value.slice As ns cs).ownBlock := fun v n l ho k hk e => by
    rcases ho.2 with ⟨e0, _⟩ | ⟨g, cap, cur, e0, _, hh, _⟩
    · rw [e0] at hk; simp [Value.ownBlock] at hk
    · have e1 : k = g := by rw [e0] at hk; simpa [Value.ownBlock] using hk
      subst e1
      exact own_ne h.os (show Blk wr k 3 cur from hh) (by decide) e
  have rd : ∀ (A : Option Addr) (n c : Nat) (l : List Int), wr.ownsRow q9 3 1 (.slice A n c) n (intV l) → RdS (fun k => some k ≠ (Value.slice Af i cf).ownBlock ∧ some k ≠ (Value.slice As ns cs).ownBlock ∧ w.heap.size + 1 + 1 + 1 ≤ k) wr A n 1 (intV l) := fun A n c l ho => by
    have h0 := RdS.own ho
    refine ⟨h0.1, fun hp => ?_⟩
    obtain ⟨b, o, hA, hb, hc⟩ := h0.2 hp
    refine ⟨b, o, hA, ⟨hup b hb, ?_, by omega⟩, hc⟩
    rcases ho.2 with ⟨_, e0⟩ | ⟨g, cap, cur, e0, _, _⟩
    · omega
    · have e1 : A = some ⟨g, 0, none⟩ := by injection e0
      have e2 : b = g := by rw [e1] at hA; injection hA with hA; injection hA with hA _; exact hA.symm
      exact hne _ n l ho b (by rw [e1, e2]; rfl)
  have hF : FnRow wr (w.heap.size + 1 + 1 + 1) (fun k => some k ≠ (Value.slice As ns cs).ownBlock ∧ w.heap.size + 1 + 1 + 1 ≤ k) (.slice Af i cf) L := h.fr.kept (fun _ _ => rfl) (fun _ _ _ => rfl) (fun k hk _ => ⟨hk.1, hk.2.1⟩)
  obtain ⟨q5, c5, w5, hr, hat, hg, hF5, hcl, hcz⟩ := FnRow.push hF (by omega) (by omega) ⟨f0, f1, loc, sit, .nil⟩ Al At none cl ct 0 ⟨Al, cl, At, ct, none, 0, rfl, by simp only; rw [hl4]; exact rd _ _ _ _ h.ol, by simp only; rw [hl5]; exact rd _ _ _ _ h.ot, noBody _ _ _⟩
  simp only [hl3, hl4, hl5, Bd.len] at hr hF5 hg hcl hcz
  have keep : ∀ k, k < wr.heap.size → some k ≠ (Value.slice Af i cf).ownBlock → w5.heap[k]? = wr.heap[k]? := fun k hk hne => by rw [hg.block k (by simp; omega) hne, heap_alloc_old _ _ hk]
  have kb : ∀ {k t : Nat} {ds : Array Value}, Blk wr k t ds → t ≠ 40 → Blk w5 k t ds := fun {k t ds} hb ht => (keep k hb.lt (fun e => by obtain ⟨_, _, cur, b3⟩ := h.fr.blk k e; exact ht (hb.uniq b3))).trans hb
  have km := kb h.bm (by decide)
  have sz := hg.size
  have ko : ∀ {B2 e2 n2 : Nat} {v2 : Value} {zs : List Value}, wr.ownsRow B2 e2 1 v2 n2 zs → e2 ≠ 40 → e2 ≠ 30 → (w5.setCell ⟨w.heap.size + 1 + 1, 2, none⟩ (.slice (some ⟨q5, 0, none⟩) (i + 1) c5)).ownsRow B2 e2 1 v2 n2 zs := fun {B2 e2 n2 v2 zs} ho h35 h32 => own_blocks ho (fun k hk => by
    rcases ho.2 with ⟨rfl, _⟩ | ⟨g, cap, cur, rfl, _, hh, _⟩
    · simp [Value.ownBlock] at hk
    · have e1 : k = g := by simpa [Value.ownBlock] using hk
      subst e1
      have hb5 : Blk w5 k e2 cur := kb (show Blk wr k e2 cur from hh) h35
      rw [Below.heap_setCell w5 ⟨w.heap.size + 1 + 1, 2, none⟩ _ k (fun e => by have e' : k = w.heap.size + 1 + 1 := e; subst e'; exact h32 (hb5.uniq km))]
      exact hb5.trans hh.symm)
  refine ⟨q5, c5, w5, hr, km.cell 2, km.frozen 2, ⟨?_, (kb h.bd (by decide)).far (by show _ ≠ w.heap.size + 1 + 1; omega) _, (kb h.bz (by decide)).far (by show _ ≠ w.heap.size + 1 + 1; omega) _, km.set_ 2 _, ⟨hl1, hl2, by simp [hl3]⟩, ko h.os (by decide) (by decide), ko h.og (by decide) (by decide), ?_, fun k hk t ht => ?_⟩⟩
  · refine Below.set1 ((h.bel.alloc h.bel.size _).grown hg (by have := h.bel.size; simp; omega) (fun k hk => ?_)) (by omega) _
    have := (h.fr.blk k hk.symm).1; omega
  · refine hF5.kept (fun k hk => Below.heap_setCell w5 ⟨w.heap.size + 1 + 1, 2, none⟩ _ k (fun e => ?_)) (fun k hk _ => Below.heap_setCell w5 ⟨w.heap.size + 1 + 1, 2, none⟩ _ k (fun e => ?_)) (fun k hk _ => hk)
    · obtain ⟨_, _, cur, b3⟩ := hF5.blk k hk
      have e' : k = w.heap.size + 1 + 1 := e
      subst e'
      exact absurd (b3.uniq km) (by decide)
    · have e' : k = w.heap.size + 1 + 1 := e
      omega
  · have e0 : k = q5 := by simpa [Value.ownBlock] using hk
    subst e0
    have e1 : (w5.setCell ⟨w.heap.size + 1 + 1, 2, none⟩ (.slice (some ⟨k, 0, none⟩) (i + 1) c5)).heap[k]? = w5.heap[k]? := Below.heap_setCell w5 ⟨w.heap.size + 1 + 1, 2, none⟩ _ k (fun e => by
      obtain ⟨_, _, cur, b3⟩ := hF5.blk k hk
      have e' : k = w.heap.size + 1 + 1 := e
      subst e'
      exact absurd (b3.uniq km) (by decide))
    rw [World.cell?_of_block (a := ⟨k, t * 5 + 4, none⟩) e1]
    rcases Nat.lt_or_ge t i with hti | hti
    · obtain ⟨css, h1, _, _⟩ := h.fr.own
      rcases h1.2 with ⟨_, h0⟩ | ⟨g, cap, cur, e, _⟩
      · omega
      · have hk2 : some g = (Value.slice Af i cf).ownBlock := by rw [e]; rfl
        rw [hcl g hk2 (t * 5 + 4) (by omega)]
        exact h.nob g hk2 t hti
    · obtain rfl : t = i := by omega
      exact hcz
end
end Go.Proofs.Ytpdebnecfknohaa
namespace Go.Proofs.Ytpdebnecfknohaa
open Go.RowKit
set_option linter.unusedVariables false
set_option maxRecDepth 20000
/-- While the entries are gathered: B3 is how many blocks there were. -/
structure MkE (w wr : World) (D Z : Array Value) (B3 : Nat) (S : List (List UInt8)) (gl : List Int) (L : List Fn) (En : List Int) (As : Option Addr) (ns cs : Nat) (Ag : Option Addr) (ng cg : Nat) (Af : Option Addr) (i cf : Nat) (Ae : Option Addr) (ne ce : Nat) : Prop where
  bel : Below w.heap.size w wr
  bd : Blk wr w.heap.size 24 D
  bz : Blk wr (w.heap.size + 1) 30 Z
  bm : Blk wr (w.heap.size + 1 + 1) 30 #[.slice As ns cs, .slice Ag ng cg, .slice Af i cf, .slice Ae ne ce]
  lens : S.length = ns ∧ gl.length = ng ∧ L.length = i ∧ En.length = ne
  os : wr.ownsRow (w.heap.size + 1 + 1 + 1) 9 1 (.slice As ns cs) ns (strV S)
  og : wr.ownsRow (w.heap.size + 1 + 1 + 1) 3 1 (.slice Ag ng cg) ng (intV gl)
  ogq : ∀ k, some k = (Value.slice Ag ng cg).ownBlock → k < B3
  oe : wr.ownsRow B3 3 1 (.slice Ae ne ce) ne (intV En)
  fr : FnRow wr (w.heap.size + 1 + 1 + 1) (fun k => some k ≠ (Value.slice As ns cs).ownBlock ∧ w.heap.size + 1 + 1 + 1 ≤ k ∧ k < B3) (.slice Af i cf) L
  frq : ∀ k, some k = (Value.slice Af i cf).ownBlock → k < B3
  nob : ∀ k, some k = (Value.slice Af i cf).ownBlock → ∀ t, t < i → wr.cell? ⟨k, t * 5 + 4, none⟩ = some (.slice none 0 0)
  b3 : w.heap.size + 1 + 1 + 1 ≤ B3 ∧ B3 ≤ wr.heap.size
section
variable {w wr : World} {D Z : Array Value} {B3 : Nat} {S : List (List UInt8)} {gl : List Int} {L : List Fn} {En : List Int} {As : Option Addr} {ns cs : Nat} {Ag : Option Addr} {ng cg : Nat} {Af : Option Addr} {i cf : Nat} {Ae : Option Addr} {ne ce : Nat}
theorem MkI.ents (h : MkI w wr D Z S gl L As ns cs Ag ng cg Af i cf) : MkE w wr D Z wr.heap.size S gl L [] As ns cs Ag ng cg Af i cf none 0 0 := by
  have zm := h.bm.lt
  refine ⟨h.bel, h.bd, h.bz, h.bm, ⟨h.lens.1, h.lens.2.1, h.lens.2.2, rfl⟩, h.os, h.og, fun k hk => (h.og.lt k hk.symm).2, ⟨rfl, .inl ⟨rfl, rfl⟩⟩, ?_, fun k hk => (h.fr.blk k hk).2.1, h.nob, by omega, Nat.le_refl _⟩
  exact h.fr.kept (fun _ _ => rfl) (fun _ _ _ => rfl) (fun k hk hlt => ⟨hk.1, hk.2, hlt⟩)
end
/-- Statements in a row: the cells of one, as it lies. -/
def StS (X : Nat → Prop) (w : World) (cs : List Value) (s : St7) : Prop := ∃ va A c, cs = [.int .u8 s.k, .int .u8 s.a.1, .int .i64 s.a.2, .int .u8 s.b.1, .int .i64 s.b.2, va, .slice A s.sub.len c] ∧ ArgsS X w va s.xs ∧ BodyS X w A s.sub
theorem StS.kept {S S' : Nat → Prop} {w w' : World} {cs : List Value} {s : St7} (h : StS S w cs s) (hk : Kept S w w') (hS : ∀ k, S k → k < w.heap.size → S' k) : StS S' w' cs s := by
  obtain ⟨va, A, c, h1, h2, h3⟩ := h
  exact ⟨va, A, c, h1, h2.kept hk hS, h3.kept hk hS⟩
/-- A body of these. -/
def bdOf : List St7 → Bd
  | [] => .nil
  | s :: l => s.ahead (bdOf l)
theorem bdOf_len : ∀ l : List St7, (bdOf l).len = l.length
  | [] => rfl
  | s :: l => by simp [bdOf, St7.ahead, Bd.len, bdOf_len l]
/-- A row of statements of the call's own, whose parts lie in blocks of the kind X. -/
structure BdRow (w : World) (base : Nat) (X : Nat → Prop) (v : Value) (T : List St7) : Prop where
  own : ∃ css : List (List Value), w.ownsRow base 50 7 v T.length css.flatten ∧ css.length = T.length ∧ ∀ i (h : i < T.length), ∃ cs, css[i]? = some cs ∧ StS X w cs T[i]
theorem BdRow.nil (w : World) (base : Nat) (X : Nat → Prop) : BdRow w base X (.slice none 0 0) [] := ⟨[], ⟨rfl, .inl ⟨rfl, rfl⟩⟩, rfl, fun i h => by simp at h⟩
theorem BdRow.kept {w w' : World} {base : Nat} {X X' : Nat → Prop} {v : Value} {T : List St7} (h : BdRow w base X v T) (hv : ∀ k, some k = v.ownBlock → w'.heap[k]? = w.heap[k]?) (hk : Kept X w w') (hX : ∀ k, X k → k < w.heap.size → X' k) : BdRow w' base X' v T := by
  obtain ⟨css, h1, h2, h3⟩ := h.own
  refine ⟨css, own_blocks h1 hv, h2, fun i hi => ?_⟩
  obtain ⟨cs, e, hf⟩ := h3 i hi
  exact ⟨cs, e, hf.kept hk hX⟩
theorem BdRow.blk {w : World} {base : Nat} {X : Nat → Prop} {v : Value} {T : List St7} (h : BdRow w base X v T) : ∀ k, some k = v.ownBlock → base ≤ k ∧ k < w.heap.size ∧ ∃ cur, Blk w k 50 cur := fun k hk => by
  obtain ⟨css, h1, _, _⟩ := h.own
  rcases h1.2 with ⟨rfl, _⟩ | ⟨q, cap, cur, rfl, hq, hh, _⟩
  · simp [Value.ownBlock] at hk
  · have : k = q := by simpa [Value.ownBlock] using hk
    subst this
    exact ⟨hq, heap_ltM hh, cur, hh⟩
/-- It reads as a body. -/
theorem bdS_row {S : Nat → Prop} {w : World} {b : Nat} (hb : S b) : ∀ (T : List St7) (css : List (List Value)) (o : Nat), (∀ i (h : i < T.length), ∃ cs, css[i]? = some cs ∧ StS S w cs T[i]) → (∀ j u, css.flatten[j]? = some u → w.cell? ⟨b, o + j, none⟩ = some u) → BdS S w b o (bdOf T)
  | [], _, _, _, _ => trivial
  | s :: T, [], _, h, _ => by obtain ⟨cs, e, _⟩ := h 0 (by simp); simp at e
  | s :: T, c :: css, o, h, hc => by
    have h00 := h 0 (by simp)
    simp only [List.getElem_cons_zero] at h00
    obtain ⟨cs, e, va, A, cc, hcs, h1, h2⟩ := h00
    have e : c = cs := by simpa using e
    subst e
    subst hcs
    have g : ∀ j u, ([.int .u8 s.k, .int .u8 s.a.1, .int .i64 s.a.2, .int .u8 s.b.1, .int .i64 s.b.2, va, .slice A s.sub.len cc] : List Value)[j]? = some u → w.cell? ⟨b, o + j, none⟩ = some u := fun j u hj => hc j u (by
      rw [List.flatten_cons, List.getElem?_append_left ((List.getElem?_eq_some_iff.1 hj).1)]; exact hj)
    refine ⟨hb, ⟨g 0 _ rfl, g 1 _ rfl, g 2 _ rfl, g 3 _ rfl, g 4 _ rfl⟩, ⟨va, g 5 _ rfl, h1⟩, ⟨A, cc, g 6 _ rfl, h2⟩, ?_⟩
    refine bdS_row hb T css (o + 7) (fun i hi => ?_) (fun j u hj => ?_)
    · obtain ⟨cs, e, hs⟩ := h (i + 1) (by simpa using hi)
      exact ⟨cs, by simpa using e, by simpa using hs⟩
    · rw [Nat.add_assoc, Nat.add_comm 7 j, ← Nat.add_assoc]
      exact hc (j + 7) u (by rw [List.flatten_cons, List.getElem?_append_right (by simp)]; simpa using hj)
theorem BdRow.body {w : World} {base : Nat} {X S : Nat → Prop} {A : Option Addr} {n c : Nat} {T : List St7} (h : BdRow w base X (.slice A n c) T) (hX : ∀ k, X k → k < w.heap.size → S k) (hS : ∀ k, some k = (Value.slice A n c).ownBlock → S k) : BodyS S w A (bdOf T) ∧ n = (bdOf T).len := by
  obtain ⟨css, h1, h2, h3⟩ := h.own
  rw [bdOf_len]
  rcases h1.2 with ⟨e, h0⟩ | ⟨q, cap, cur, e, hq, hh, hc⟩
  · injection e with e1 e2 e3
    refine ⟨fun hp => ?_, by omega⟩
    rw [bdOf_len] at hp
    omega
  · injection e with e1 e2 e3
    subst e1; subst e2; subst e3
    refine ⟨fun hp => ⟨q, 0, rfl, bdS_row (hS q rfl) T css 0 (fun i hi => ?_) (fun j u hj => ?_)⟩, rfl⟩
    · obtain ⟨cs, e, hs⟩ := h3 i hi
      exact ⟨cs, e, hs.kept (fun _ _ _ => rfl) hX⟩
    · have := h1.cells (g := q) rfl j u hj
      rwa [Go.WideShapes.add_plain] at this
end Go.Proofs.Ytpdebnecfknohaa
namespace Go.Proofs.Ytpdebnecfknohaa
open Go.RowKit
set_option linter.unusedVariables false
set_option maxRecDepth 20000
/-- While the statements are made: W1 is the world ahead, g the functions' row. -/
structure MkA (w W1 wr : World) (g n : Nat) (Vs : List Value) (Ts : List (List St7)) : Prop where
  bel : Below w.heap.size w wr
  size : W1.heap.size ≤ wr.heap.size
  keep : ∀ k, k < W1.heap.size → k ≠ g → wr.heap[k]? = W1.heap[k]?
  gin : w.heap.size ≤ g ∧ g < W1.heap.size
  row : ∃ cur0 cur, Blk W1 g 40 cur0 ∧ Blk wr g 40 cur ∧ n * 5 ≤ cur.size ∧ ∀ i, i < n → cur[i * 5 + 4]? = Vs[i]? ∧ ∀ t, t < 4 → cur[i * 5 + t]? = cur0[i * 5 + t]?
  lens : Vs.length = n ∧ Ts.length = n
  bodies : ∀ (i : Nat) (v : Value) (T : List St7), Vs[i]? = some v → Ts[i]? = some T → BdRow wr W1.heap.size (fun k => W1.heap.size ≤ k ∧ ∀ u ∈ Vs, some k ≠ u.ownBlock) v T
  apart : ∀ (i j : Nat) (v u : Value), i ≠ j → Vs[i]? = some v → Vs[j]? = some u → ∀ k, some k = v.ownBlock → some k ≠ u.ownBlock
section
variable {w W1 wr : World} {g n : Nat} {Vs : List Value} {Ts : List (List St7)}
theorem MkA.blk (h : MkA w W1 wr g n Vs Ts) {i : Nat} {v : Value} (hv : Vs[i]? = some v) : ∀ k, some k = v.ownBlock → W1.heap.size ≤ k ∧ k < wr.heap.size := fun k hk => by
  have hi : i < Ts.length := by have := (List.getElem?_eq_some_iff.1 hv).1; rw [h.lens.2]; rw [h.lens.1] at this; exact this
  obtain ⟨a, b, _⟩ := (h.bodies i v _ hv (List.getElem?_eq_getElem hi)).blk k hk
  exact ⟨a, b⟩
end
theorem flat_get (m : Nat) : ∀ (css : List (List Value)) (i : Nat) (c : List Value) (t : Nat), (∀ c ∈ css, c.length = m) → css[i]? = some c → t < m → css.flatten[i * m + t]? = c[t]?
  | [], i, c, t, _, h, _ => by simp at h
  | d :: css, 0, c, t, hm, h, ht => by
    have e : d = c := by simpa using h
    subst e
    rw [List.flatten_cons, Nat.zero_mul, Nat.zero_add, List.getElem?_append_left (by rw [hm d (by simp)]; exact ht)]
  | d :: css, i + 1, c, t, hm, h, ht => by
    have h' : css[i]? = some c := by simpa using h
    have hd := hm d (by simp)
    rw [List.flatten_cons, List.getElem?_append_right (by rw [hd, Nat.succ_mul]; omega), hd, show (i + 1) * m + t - m = i * m + t from by rw [Nat.succ_mul]; omega]
    exact flat_get m css i c t (fun c hc => hm c (by simp [hc])) h' ht
section
variable {w W1 wr : World} {g n : Nat} {Vs : List Value} {Ts : List (List St7)}
/-- A function, while the statements are made. -/
theorem MkA.fn (h : MkA w W1 wr g n Vs Ts) {base cf : Nat} {X : Nat → Prop} {L : List Fn} (hF : FnRow W1 base X (.slice (some ⟨g, 0, none⟩) n cf) L) (hL : L.length = n) (i : Nat) (hi : i < L.length) :
    ∃ Al cl At ct v, Vs[i]? = some v ∧ (wr.cell? ⟨g, i * 5, none⟩ = some (.int .i64 L[i].name) ∧ wr.cell? ⟨g, i * 5 + 1, none⟩ = some (.int .i64 L[i].params) ∧ wr.cell? ⟨g, i * 5 + 2, none⟩ = some (.slice Al L[i].locals.length cl) ∧ wr.cell? ⟨g, i * 5 + 3, none⟩ = some (.slice At L[i].sites.length ct) ∧ wr.cell? ⟨g, i * 5 + 4, none⟩ = some v) ∧ RdS (fun k => k ≠ g ∧ X k) W1 Al L[i].locals.length 1 (intV L[i].locals) ∧ RdS (fun k => k ≠ g ∧ X k) W1 At L[i].sites.length 1 (intV L[i].sites) := by
  obtain ⟨css, h1, h2, h3⟩ := hF.own
  obtain ⟨cur0, cur, b0, b1, hcs, hc⟩ := h.row
  have hall : ∀ c ∈ css, c.length = 5 := fun c hc => by
    obtain ⟨k, hk, e⟩ := List.mem_iff_getElem.1 hc
    obtain ⟨cs, e2, Al, cl, As, cs', Ab, cb, e3, _⟩ := h3 k (by omega)
    rw [List.getElem?_eq_getElem hk, e] at e2
    injection e2 with e2
    rw [e2, e3]; rfl
  obtain ⟨cs, e, Al, cl, At, ct, Ab, cb, hcs', r1, r2, _⟩ := h3 i hi
  have hin : i < n := by omega
  obtain ⟨c1, c2⟩ := hc i hin
  have hv : i < Vs.length := by rw [h.lens.1]; exact hin
  have get : ∀ t, t < 4 → wr.cell? ⟨g, i * 5 + t, none⟩ = cs[t]? := fun t ht => by
    rw [b1.cell, c2 t ht, ← b0.cell, ← flat_get 5 css i cs t hall e (by omega)]
    rw [hL] at h1
    exact h1.cellAt _ (by omega)
  have w1 : ∀ {A : Option Addr} {m : Nat} {xs : List Value}, RdS (fun k => some k ≠ (Value.slice (some ⟨g, 0, none⟩) n cf).ownBlock ∧ X k) W1 A m 1 xs → RdS (fun k => k ≠ g ∧ X k) W1 A m 1 xs := fun hr => hr.below (fun k hk => ⟨fun e => hk.1 (by rw [e]; rfl), hk.2⟩)
  subst hcs'
  refine ⟨Al, cl, At, ct, Vs[i], List.getElem?_eq_getElem hv, ⟨get 0 (by omega), get 1 (by omega), get 2 (by omega), get 3 (by omega), ?_⟩, w1 r1, w1 r2⟩
  rw [b1.cell, c1, List.getElem?_eq_getElem hv]
end
section
variable {w wr : World} {D Z : Array Value} {B3 : Nat} {S : List (List UInt8)} {gl : List Int} {L : List Fn} {En : List Int} {As : Option Addr} {ns cs : Nat} {Ag : Option Addr} {ng cg : Nat} {Af : Option Addr} {i cf : Nat} {Ae : Option Addr} {ne ce : Nat}
end
end Go.Proofs.Ytpdebnecfknohaa
namespace Go.Proofs.Ytpdebnecfknohaa
open Go.RowKit
set_option linter.unusedVariables false
set_option maxRecDepth 20000
section
variable {w W1 wr : World} {g n : Nat} {Vs : List Value} {Ts : List (List St7)}
/-- Blocks more. -/
theorem MkA.more (h : MkA w W1 wr g n Vs Ts) {wq : World} (hb : Below wr.heap.size wr wq) : MkA w W1 wq g n Vs Ts := by
  have hs := h.size
  have hz := hb.size
  have hgi := h.gin
  refine ⟨h.bel.trans (hb.mono h.bel.size), by omega, fun k hk hne => (hb.block k (by omega)).trans (h.keep k hk hne), hgi, ?_, h.lens, fun i v T hv hT => ?_, h.apart⟩
  · obtain ⟨cur0, cur, b0, b1, hc⟩ := h.row
    exact ⟨cur0, cur, b0, b1.old hb, hc⟩
  · exact (h.bodies i v T hv hT).kept (fun k hk => hb.block k (h.blk hv k hk).2) (fun k _ hlt => hb.block k hlt) (fun _ h _ => h)
/-- A body's slice. -/
theorem MkA.slice (h : MkA w W1 wr g n Vs Ts) {j : Nat} {v : Value} {T : List St7} (hv : Vs[j]? = some v) (hT : Ts[j]? = some T) : ∃ Ab cb, v = .slice Ab T.length cb := by
  obtain ⟨css, h1, _, _⟩ := (h.bodies j v T hv hT).own
  rcases h1.2 with ⟨e, h0⟩ | ⟨q, cap, cur, e, _⟩
  · exact ⟨none, 0, by rw [e, h0]⟩
  · exact ⟨_, _, e⟩
end
end Go.Proofs.Ytpdebnecfknohaa
namespace Go.Proofs.Ytpdebnecfknohaa
open Go.RowKit
set_option linter.unusedVariables false
set_option maxRecDepth 20000
def ints (n : Nat) : List Int := (List.range n).map fun (j : Nat) => (j : Int)
/-- The globals' names. -/
def gnames (st n : Nat) : List (List UInt8) := (List.range n).map fun j => nameF (j * st)
def pF (F i : Nat) : Nat := (i + F / 4) % 4
def nlF (F i : Nat) : Nat := pF F i + 1 + i % 3
def nsF (i : Nat) : Nat := 1 + i % 2
def fnameF (i : Nat) : List UInt8 := [102, UInt8.ofNat (48 + i)]
def namesF (a n : Nat) : List (List UInt8) := (List.range n).map fun j => nameF (a + j)
def seqI (a n : Nat) : List Int := (List.range n).map fun (j : Nat) => ((a + j : Nat) : Int)
/-- The strings ahead of Canon, behind i functions. -/
def mkS (g0 : List (List UInt8)) (F : Nat) : Nat → List (List UInt8)
  | 0 => g0
  | i + 1 => ((mkS g0 F i ++ [fnameF i]) ++ namesF 100 (nlF F i)) ++ namesF 200 (nsF i)
def mkL (g0 : List (List UInt8)) (F : Nat) : Nat → List Fn
  | 0 => []
  | i + 1 => mkL g0 F i ++ [⟨((mkS g0 F i).length : Int), (pF F i : Int), seqI ((mkS g0 F i).length + 1) (nlF F i), seqI ((mkS g0 F i).length + 1 + nlF F i) (nsF i), .nil⟩]
/-- The entries. -/
def entsF (E : Nat) : Nat → List Int
  | 0 => []
  | i + 1 => if E / 2 ^ i % 2 = 1 then entsF E i ++ [(i : Int)] else entsF E i
/-- An act. -/
structure Ac where
  k : Nat
  a : Nat
  b : Nat
  c : Nat
/-- Where an act goes. -/
def actJ (n na i : Nat) : Nat := if na < 60 then i * n / na else i * n / 60
/-- The bodies behind so many acts. -/
def mkT (F ng n na : Nat) (acts : List Ac) : Nat → List (List St7)
  | 0 => List.replicate n []
  | i + 1 => (mkT F ng n na acts i).set (actJ n na i) ((mkT F ng n na acts i).getD (actJ n na i) [] ++ [stm (nlF F (actJ n na i)) ng n (nsF (actJ n na i)) (pF F) (acts.getD i ⟨0, 0, 0, 0⟩).k (acts.getD i ⟨0, 0, 0, 0⟩).a (acts.getD i ⟨0, 0, 0, 0⟩).b (acts.getD i ⟨0, 0, 0, 0⟩).c])
def AcsAt (w : World) (A : Option Addr) (l : List Ac) : Prop := 0 < l.length → ∃ b o, A = some ⟨b, o, none⟩ ∧ ∀ i (h : i < l.length), w.cell? ⟨b, o + i * 4, none⟩ = some (.int .u8 (l[i].k : Int)) ∧ w.cell? ⟨b, o + i * 4 + 1, none⟩ = some (.int .u8 (l[i].a : Int)) ∧ w.cell? ⟨b, o + i * 4 + 2, none⟩ = some (.int .u8 (l[i].b : Int)) ∧ w.cell? ⟨b, o + i * 4 + 3, none⟩ = some (.int .u8 (l[i].c : Int))
theorem own_lt {w : World} {base e size n : Nat} {v : Value} {xs : List Value} (h : w.ownsRow base e size v n xs) : ∀ k, some k = v.ownBlock → k < w.heap.size := fun k hk => by
  rcases h.2 with ⟨rfl, _⟩ | ⟨q, cap, cur, rfl, hq, hh, _⟩
  · simp [Value.ownBlock] at hk
  · have : k = q := by simpa [Value.ownBlock] using hk
    subst this
    exact heap_ltM hh
theorem own_ge {w : World} {base e size n : Nat} {v : Value} {xs : List Value} (h : w.ownsRow base e size v n xs) : ∀ k, some k = v.ownBlock → base ≤ k := fun k hk => by
  rcases h.2 with ⟨rfl, _⟩ | ⟨q, cap, cur, rfl, hq, hh, _⟩
  · simp [Value.ownBlock] at hk
  · have : k = q := by simpa [Value.ownBlock] using hk
    subst this
    exact hq
/-- Functions and their bodies. -/
def fillB (L : List Fn) (Ts : List (List St7)) : List Fn := List.zipWith (fun f T => ⟨f.name, f.params, f.locals, f.sites, bdOf T⟩) L Ts
theorem fillB_len (L : List Fn) (Ts : List (List St7)) (h : Ts.length = L.length) : (fillB L Ts).length = L.length := by simp [fillB, h]
section
variable {w W1 wr : World} {g n : Nat} {Vs : List Value} {Ts : List (List St7)}
theorem MkA.done (h : MkA w W1 wr g n Vs Ts) {D Z : Array Value} {B3 : Nat} {S : List (List UInt8)} {gl : List Int} {L : List Fn} {En : List Int} {As Ag Ae : Option Addr} {ns cs ng cg cf ne ce : Nat} (hE : MkE w W1 D Z B3 S gl L En As ns cs Ag ng cg (some ⟨g, 0, none⟩) n cf Ae ne ce) :
    RdS (fun _ => True) wr As ns 1 (strV S) ∧ RdS (fun _ => True) wr Ag ng 1 (intV gl) ∧ wr.ownsRow B3 3 1 (.slice Ae ne ce) ne (intV En) ∧ FnsS (fun k => w.heap.size + 1 + 1 + 1 ≤ k) wr (some ⟨g, 0, none⟩) (fillB L Ts) := by
  obtain ⟨cur0, cur, b0, b1, hcs, hc⟩ := h.row
  have hkp : ∀ {base e m c : Nat} {A : Option Addr} {xs : List Value}, e ≠ 40 → W1.ownsRow base e 1 (.slice A m c) m xs → wr.ownsRow base e 1 (.slice A m c) m xs := fun he ho => own_blocks ho (fun k hk => h.keep k (own_lt ho k hk) (fun e2 => by subst e2; exact own_ne ho b0 he hk))
  have hb := hE.b3
  have hs := h.size
  refine ⟨(RdS.own (hkp (by decide) hE.os)).below (fun _ _ => trivial), (RdS.own (hkp (by decide) hE.og)).below (fun _ _ => trivial), hkp (by decide) hE.oe, fun hp => ⟨g, 0, rfl, (hE.fr.blk g rfl).1, fun i hi => ?_⟩⟩
  have hL := hE.lens.2.2.1
  have hiL : i < L.length := by rw [fillB_len _ _ (by rw [h.lens.2, hL])] at hi; exact hi
  have hiT : i < Ts.length := by rw [h.lens.2, ← hL]; exact hiL
  obtain ⟨Al, cl, At, ct, v, hv, ⟨f0, f1, f2, f3, f4⟩, r1, r2⟩ := h.fn hE.fr hL i hiL
  obtain ⟨Ab, cb, rfl⟩ := h.slice hv (List.getElem?_eq_getElem hiT)
  have hvb := h.blk hv
  obtain ⟨hB, hBl⟩ := (h.bodies i _ _ hv (List.getElem?_eq_getElem hiT)).body (S := fun k => w.heap.size + 1 + 1 + 1 ≤ k) (fun k hk _ => by have := hk.1; omega) (fun k hk => by have := hvb k hk; omega)
  have e : (fillB L Ts)[i] = ⟨L[i].name, L[i].params, L[i].locals, L[i].sites, bdOf Ts[i]⟩ := by simp [fillB]
  have kk : Kept (fun k => k ≠ g ∧ (some k ≠ (Value.slice As ns cs).ownBlock ∧ w.heap.size + 1 + 1 + 1 ≤ k ∧ k < B3)) W1 wr := fun k hk hl => h.keep k hl hk.1
  rw [hBl] at f4
  refine ⟨[.int .i64 L[i].name, .int .i64 L[i].params, .slice Al L[i].locals.length cl, .slice At L[i].sites.length ct, .slice Ab (bdOf Ts[i]).len cb], ?_, fun j u hj => ?_⟩
  · rw [e]
    exact ⟨Al, cl, At, ct, Ab, cb, rfl, r1.kept kk (fun k hk _ => hk.2.2.1) (by decide), r2.kept kk (fun k hk _ => hk.2.2.1) (by decide), hB⟩
  · rw [Nat.zero_add]
    match j, hj with
    | 0, hj => injection hj with hj; subst hj; exact f0
    | 1, hj => injection hj with hj; subst hj; exact f1
    | 2, hj => injection hj with hj; subst hj; exact f2
    | 3, hj => injection hj with hj; subst hj; exact f3
    | 4, hj => injection hj with hj; subst hj; exact f4
end
/-- What Make makes ahead of Canon. -/
def mkM (gs : List (List UInt8)) (gl : List Int) (F E : Nat) (acts : List Ac) : Md :=
  ⟨mkS gs F (1 + F % 4), gl, fillB (mkL gs F (1 + F % 4)) (mkT F gl.length (1 + F % 4) acts.length acts (min acts.length 60)), entsF E (1 + F % 4)⟩
/-- What a module leaves behind that was made: rows of its own. -/
def MkPost (w : World) (M : Md) (e : Ending) (w' : World) : Prop :=
  ∃ Al cl A2 c2 Ax cx Ae ce, e = .returned (.agg #[.slice Al M.strs.length cl, .slice A2 M.globs.length c2, .slice Ax M.funcs.length cx, .slice Ae M.ents.length ce]) ∧
    w'.ownsRow w.heap.size 9 1 (.slice Al M.strs.length cl) M.strs.length (strV M.strs) ∧
    w'.ownsRow w.heap.size 3 1 (.slice A2 M.globs.length c2) M.globs.length (intV M.globs) ∧
    FnRow w' w.heap.size (fun k => w.heap.size ≤ k) (.slice Ax M.funcs.length cx) M.funcs ∧
    w'.ownsRow w.heap.size 3 1 (.slice Ae M.ents.length ce) M.ents.length (intV M.ents) ∧ Below w.heap.size w w'
end Go.Proofs.Ytpdebnecfknohaa
namespace Go.Proofs.Ytpdebnecfknohaa
open Go.RowKit
set_option linter.unusedVariables false
set_option maxRecDepth 20000
theorem Bd.same_lenne (t u : Bd) (h : t.len ≠ u.len) : t.same u = false := Bd.same_shal t u (Bd.shal_lenne t u h)
theorem Bd.sub_size (t : Bd) (i : Nat) {k a1 a2 b1 b2 : Int} {xs : List (Int × Int)} {s r : Bd} (h : t.drop i = .cons k a1 a2 b1 b2 xs s r) : s.size + 1 ≤ t.size ∧ s.wide + xs.length ≤ t.wide := by
  have h1 := Bd.wide_drop t i
  have h2 := Bd.size_drop t i
  rw [h] at h1 h2
  simp only [Bd.wide, Bd.size] at h1 h2
  omega
theorem quiet_in {P : Program} {f : FuncId} {args : Array Value} {w : World} {n : Nat} {v : Value}
    (h : Calls P f args (w.drewN n) fun e w' => e = .returned v ∧ ∃ k, w' = (w.drewN n).drewN k) : Calls P f args (w.drewN n) fun e w' => e = .returned v ∧ ∃ k, w' = w.drewN k :=
  h.mono fun e w' ⟨he, k, hw⟩ => ⟨he, n + k, by rw [hw, World.drewN_drewN]⟩
theorem below_dN (w : World) (n B : Nat) : Below B w (w.drewN n) := ⟨rfl, rfl, rfl, Nat.le_refl _, fun _ _ => rfl⟩
theorem quiet_w {w a : World} {m : Nat} (h : a = w.drewN m) (n : Nat) : a.drewN n = w.drewN (m + n) := by rw [h, World.drewN_drewN]
set_option maxRecDepth 20000 in
set_option maxHeartbeats 1500000 in
theorem rsame_any (N : Nat) : ∀ (t u : Bd) (A B : Option Addr) (c d : Nat) (v : Bool) (w : World), t.size ≤ N → t.size ≤ 1000000000 → u.size ≤ 1000000000 → t.wide ≤ 1000000000 → u.wide ≤ 1000000000 → BodyV w A t → BodyV w B u → t.same u = v →
    Calls Try.prog 54 #[.slice A t.len c, .slice B u.len d] w fun e w' => e = .returned (.bool v) ∧ ∃ k, w' = w.drewN k := by
  induction N with
  | zero =>
    intro t u A B c d v w hN hs1 hs2 hw1 hw2 h1 h2 hv
    have ht : t = .nil := by cases t <;> simp [Bd.size] at hN ⊢
    subst ht
    by_cases hl : u.len = 0
    · rw [hl]
      obtain rfl : v = true := by rw [← hv]; exact Bd.same_empty _ _ rfl hl
      exact (rsame_nil A B c d _).mono fun e w' ⟨he, hw⟩ => ⟨he, 0, hw.symm⟩
    · obtain rfl : v = false := by rw [← hv]; exact Bd.same_lenne _ _ (by simp only [Bd.len]; omega)
      exact (rsame_len A B 0 u.len c d _ (by omega) (by omega) (by have := Bd.len_le u; omega)).mono fun e w' ⟨he, hw⟩ => ⟨he, 0, hw.symm⟩
  | succ N ih =>
    intro t u A B c d v w hN hs1 hs2 hw1 hw2 h1 h2 hv
    have hl1 := Bd.len_le t
    have hl2 := Bd.len_le u
    by_cases hlen : t.len = u.len
    · have IH := Lib.hid ih
      have H1 := Lib.hid h1
      have H2 := Lib.hid h2
      have HV := Lib.hid hv
      obtain ⟨L, hL⟩ : ∃ L, L = t.len := ⟨_, rfl⟩
      have HL1 : Hid (t.len = L) := hL.symm
      have HL2 : Hid (u.len = L) := hlen.symm.trans hL.symm
      rw [← hlen, ← hL]
      rw [← hL] at hl1
      clear hL hlen hl2 h1 h2 hv ih
      go_enter Try.func54, Try.ntmps54
      go_wp2_with fail
      go_loopw [5] (fun s wr => ∃ (i m : Nat), i ≤ L ∧ s = .int .i64 (i : Int) ∧ Hid (wr = w.drewN m) ∧ Hid ((t.drop i).same (u.drop i) = v)) (fun s _ => L - (intOf s).toNat)
      case atStart => exact ⟨0, 0, Nat.zero_le _, rfl, rfl, HV⟩
      case round =>
        obtain ⟨i, m, hi, rfl, hW, hE⟩ := hrel
        by_cases hlt : i < L
        · obtain ⟨k1, a1, a2, b1, b2, xs, s1, r1, hd1⟩ := Bd.drop_cons t i (by have := HL1.out; omega)
          obtain ⟨k2, a1', a2', b1', b2', xs', s2, r2, hd2⟩ := Bd.drop_cons u i (by have := HL2.out; omega)
          obtain ⟨b, o, rfl, hat⟩ := H1.out (by have := HL1.out; omega)
          obtain ⟨b', o', rfl, hat'⟩ := H2.out (by have := HL2.out; omega)
          have hBW : Below w.heap.size w wr := by rw [hW.out]; exact below_dN w m _
          have q1 := (hat.old hBW).drop t b o i
          have q2 := (hat'.old hBW).drop u b' o' i
          have hE2 := hE.out
          have hz1 := Bd.sub_size t i hd1
          have hz2 := Bd.sub_size u i hd2
          rw [hd1] at q1 hE2
          rw [hd2] at q2 hE2
          obtain ⟨⟨d0, d1, d2, d3, d4⟩, ⟨va, d5, HA1⟩, ⟨As, cs, d6, hS1⟩, _⟩ := q1
          obtain ⟨⟨f0, f1, f2, f3, f4⟩, ⟨va', f5, HA2⟩, ⟨As', cs', f6, hS2⟩, _⟩ := q2
          obtain ⟨Aa, ca, rfl, ha1⟩ := HA1
          obtain ⟨Aa', ca', rfl, ha2⟩ := HA2
          have HA1 := Lib.hid ha1
          have HA2 := Lib.hid ha2
          have HS1 : Hid (BodyV wr As s1) := hS1
          have HS2 : Hid (BodyV wr As' s2) := hS2
          have Hn1 := Lib.hid (Bd.drop_succ t i hd1)
          have Hn2 := Lib.hid (Bd.drop_succ u i hd2)
          have HE2 := Lib.hid hE2
          clear hat hat' ha1 ha2 hS1 hS2 hE2 hE hd1 hd2 HV hBW
          have HX1 : Hid (xs.length ≤ 1000000000) := (by omega : xs.length ≤ 1000000000)
          have HX2 : Hid (xs'.length ≤ 1000000000) := (by omega : xs'.length ≤ 1000000000)
          have hli : (i : Int) < (L : Int) := by omega
          by_cases hk : k1 = k2
          · subst hk
            by_cases ha : a1 = a1' ∧ a2 = a2'
            · obtain ⟨rfl, rfl⟩ := ha
              by_cases hb : b1 = b1' ∧ b2 = b2'
              · obtain ⟨rfl, rfl⟩ := hb
                by_cases hxl : xs.length = xs'.length
                · cases hsub : s1.same s2
                  · obtain rfl : v = false := by rw [← HE2.out]; simp [Bd.same, hsub]
                    have HI := Lib.hid (fun w' hb' => IH.out s1 s2 As As' cs cs' false w' (by omega) (by omega) (by omega) (by omega) (by omega) (HS1.out.old hb') (HS2.out.old hb') hsub)
                    generalize xs'.length = lx' at *
                    generalize xs.length = lx at *
                    subst hxl
                    clear hsub
                    clear HA1 HA2 HS1 HS2 Hn1 Hn2 HE2 IH hz1 hz2
                    go_upto_region 6 with (fail)
                    simp only [List.append]
                    go_quiet ((go_at_call 54; exact quiet_in (HI.out _ (below_dN _ _ _))))
                    go_wp2
                    go_ret
                    exact ⟨rfl, _, quiet_w hW.out _⟩
                  · have HI := Lib.hid (fun w' hb' => IH.out s1 s2 As As' cs cs' true w' (by omega) (by omega) (by omega) (by omega) (by omega) (HS1.out.old hb') (HS2.out.old hb') hsub)
                    have HE3 : Hid ((decide (xs = xs') && r1.same r2) = v) := by
                      show _ = _
                      rw [← HE2.out]; simp [Bd.same, hsub]
                    have HXL := Lib.hid hxl
                    have HXX : Hid (∀ (lx : Nat), lx = xs.length → (∀ q, q < lx → xs.getD q (0, 0) = xs'.getD q (0, 0)) → xs = xs') := fun lx hlx h => list_ext_args hxl (fun q hq => h q (by omega))
                    obtain ⟨lx, hlx⟩ : ∃ lx, lx = xs.length := ⟨_, rfl⟩
                    have HLX := Lib.hid hlx
                    rw [← hxl, ← hlx] at f5
                    rw [← hlx] at d5
                    rw [← hlx] at hz1
                    clear hsub hxl hlx
                    clear HS1 HS2 HE2 IH
                    go_upto_region 6 with (fail)
                    simp only [List.append]
                    go_quiet ((go_at_call 54; exact quiet_in (HI.out _ (below_dN _ _ _))))
                    go_wp2_with fail
                    obtain ⟨w9, hw9⟩ : ∃ w9, w9 = wr := ⟨wr, rfl⟩
                    subst hw9
                    go_loopw [6] (fun s wi => ∃ (j m2 : Nat), j ≤ lx ∧ s = .int .i64 (j : Int) ∧ Hid (wi = w9.drewN m2) ∧ Hid (∀ q, q < j → xs.getD q (0, 0) = xs'.getD q (0, 0))) (fun s _ => lx - (intOf s).toNat)
                    case atStart => exact ⟨0, nq, Nat.zero_le _, rfl, rfl, fun q hq => absurd hq (by omega)⟩
                    case round =>
                      obtain ⟨j, m2, hj, rfl, hW2, hEq⟩ := hrel
                      have g5 : wr.cell? ⟨b, o + i * 7 + 5, none⟩ = some (.slice Aa lx ca) := by rw [hW2.out, World.cell?_drewN]; exact d5
                      have g5' : wr.cell? ⟨b', o' + i * 7 + 5, none⟩ = some (.slice Aa' lx ca') := by rw [hW2.out, World.cell?_drewN]; exact f5
                      by_cases hjl : j < lx
                      · obtain ⟨ba, oa, rfl, dd⟩ := HA1.out (by have := HLX.out; omega)
                        obtain ⟨ba', oa', rfl, dd'⟩ := HA2.out (by have := HLX.out; have := HXL.out; omega)
                        obtain ⟨x1, x2⟩ := dd j (by have := HLX.out; omega)
                        obtain ⟨y1, y2⟩ := dd' j (by have := HLX.out; have := HXL.out; omega)
                        rw [← World.cell?_drewN w9 m2, ← hW2.out] at x1 x2 y1 y2
                        have HNe : Hid (xs.getD j (0, 0) ≠ xs'.getD j (0, 0) → v = false) := fun e => by
                          rw [← HE3.out, decide_eq_false (fun e2 => e (by rw [e2]))]; rfl
                        generalize hp : xs.getD j (0, 0) = p at *
                        generalize hq : xs'.getD j (0, 0) = q at *
                        have HP := Lib.hid hp
                        have HQ := Lib.hid hq
                        clear hp hq dd dd'
                        obtain ⟨p1, p2⟩ := p
                        obtain ⟨q1, q2⟩ := q
                        simp only at x1 x2 y1 y2
                        by_cases e : p1 = q1 ∧ p2 = q2
                        · obtain ⟨rfl, rfl⟩ := e
                          clear d0 d1 d2 d3 d4 d5 d6 f0 f1 f2 f3 f4 f5 f6
                          go_upto_region 11 with (fail)
                          go_quiet (fail)
                          go_wp2
                          go_roundw
                          case rel =>
                            refine ⟨j + 1, _, by omega, by go_num, quiet_w hW2.out _, ?_⟩
                            intro z hz
                            by_cases hzj : z = j
                            · subst hzj; exact HP.out.trans HQ.out.symm
                            · exact hEq.out z (by omega)
                          case measure => simp [intOf]; omega
                        · obtain rfl : v = false := HNe.out (fun e2 => e (by injection e2 with e3 e4; exact ⟨e3, e4⟩))
                          clear HNe
                          by_cases hp1 : p1 = q1
                          · subst hp1
                            have hx : (p2 == q2) = false := by simp at e ⊢; exact e
                            have hx2 : (p2 != q2) = true := by simp at e ⊢; exact e
                            have hx3 : ¬ (p2 = q2) := by simpa using hx
                            clear e d0 d1 d2 d3 d4 d5 d6 f0 f1 f2 f3 f4 f5 f6
                            go_upto_region 11 with (fail)
                            go_quiet (fail)
                            go_wp2
                            go_ret
                            exact ⟨rfl, _, (quiet_w hW2.out _).trans (quiet_w hW.out _)⟩
                          · have hx : (p1 == q1) = false := by simpa using hp1
                            have hx2 : (p1 != q1) = true := by simpa using hp1
                            clear e d0 d1 d2 d3 d4 d5 d6 f0 f1 f2 f3 f4 f5 f6
                            go_upto_region 11 with (fail)
                            go_quiet (fail)
                            go_wp2
                            go_ret
                            exact ⟨rfl, _, (quiet_w hW2.out _).trans (quiet_w hW.out _)⟩
                      · obtain rfl : j = lx := by omega
                        have hxx := HXX.out j HLX.out hEq.out
                        have HE4 : Hid (r1.same r2 = v) := by
                          show _ = _
                          rw [← HE3.out, decide_eq_true hxx, Bool.true_and]
                        clear hxx d0 d1 d2 d3 d4 d5 d6 f0 f1 f2 f3 f4 f5 f6
                        go_wp2
                        go_roundw
                        case rel => exact ⟨i + 1, _, by omega, by go_num, hW2.out.trans (quiet_w hW.out _), by rw [Hn1.out, Hn2.out]; exact HE4⟩
                        case measure => simp [intOf]; omega
                · obtain rfl : v = false := by rw [← HE2.out]; simp only [Bd.same]; rw [decide_eq_false (fun e => hxl (congrArg List.length e))]; simp
                  have hx : ((xs.length : Int) == (xs'.length : Int)) = false := by simp; omega
                  have hx2 : ((xs.length : Int) != (xs'.length : Int)) = true := by simp; omega
                  clear HX1 HX2 HA1 HA2 HS1 HS2 Hn1 Hn2 HE2 IH hz1 hz2
                  go_upto_region 6 with (fail)
                  simp only [List.append]
                  go_quiet (fail)
                  go_wp2
                  go_ret
                  exact ⟨rfl, _, quiet_w hW.out _⟩
              · obtain rfl : v = false := by rw [← HE2.out]; simp [Bd.same, hb]
                by_cases hb1 : b1 = b1'
                · subst hb1
                  have hx : (b2 == b2') = false := by simp at hb ⊢; exact hb
                  have hx2 : (b2 != b2') = true := by simp at hb ⊢; exact hb
                  have hx3 : ¬ (b2 = b2') := by simpa using hx
                  clear hb
                  clear HX1 HX2 HA1 HA2 HS1 HS2 Hn1 Hn2 HE2 IH hz1 hz2
                  go_upto_region 6 with (fail)
                  simp only [List.append]
                  go_quiet (fail)
                  go_wp2
                  go_ret
                  exact ⟨rfl, _, quiet_w hW.out _⟩
                · have hx : (b1 == b1') = false := by simpa using hb1
                  have hx2 : (b1 != b1') = true := by simpa using hb1
                  clear hb
                  clear HX1 HX2 HA1 HA2 HS1 HS2 Hn1 Hn2 HE2 IH hz1 hz2
                  go_upto_region 6 with (fail)
                  simp only [List.append]
                  go_quiet (fail)
                  go_wp2
                  go_ret
                  exact ⟨rfl, _, quiet_w hW.out _⟩
            · obtain rfl : v = false := by rw [← HE2.out]; simp [Bd.same, ha]
              by_cases ha1 : a1 = a1'
              · subst ha1
                have hx : (a2 == a2') = false := by simp at ha ⊢; exact ha
                have hx2 : (a2 != a2') = true := by simp at ha ⊢; exact ha
                have hx3 : ¬ (a2 = a2') := by simpa using hx
                clear ha
                clear HX1 HX2 HA1 HA2 HS1 HS2 Hn1 Hn2 HE2 IH hz1 hz2
                go_upto_region 6 with (fail)
                simp only [List.append]
                go_quiet (fail)
                go_wp2
                go_ret
                exact ⟨rfl, _, quiet_w hW.out _⟩
              · have hx : (a1 == a1') = false := by simpa using ha1
                have hx2 : (a1 != a1') = true := by simpa using ha1
                clear ha
                clear HX1 HX2 HA1 HA2 HS1 HS2 Hn1 Hn2 HE2 IH hz1 hz2
                go_upto_region 6 with (fail)
                simp only [List.append]
                go_quiet (fail)
                go_wp2
                go_ret
                exact ⟨rfl, _, quiet_w hW.out _⟩
          · obtain rfl : v = false := by rw [← HE2.out]; simp [Bd.same, hk]
            have hx : (k1 == k2) = false := by simpa using hk
            have hx2 : (k1 != k2) = true := by simpa using hk
            clear HX1 HX2 HA1 HA2 HS1 HS2 Hn1 Hn2 HE2 IH hz1 hz2
            go_upto_region 6 with (fail)
            simp only [List.append]
            go_quiet (fail)
            go_wp2
            go_ret
            exact ⟨rfl, _, quiet_w hW.out _⟩
        · obtain rfl : i = L := by omega
          have hE2 := hE.out
          rw [Bd.drop_end t i (by have := HL1.out; omega), Bd.drop_end u i (by have := HL2.out; omega)] at hE2
          obtain rfl : v = true := by rw [← hE2]; rfl
          clear hE2
          go_wp2
          go_ret
          exact ⟨rfl, m, hW.out⟩
    · obtain rfl : v = false := by rw [← hv]; exact Bd.same_lenne _ _ hlen
      exact (rsame_len A B t.len u.len c d _ hlen (by omega) (by omega)).mono fun e w' ⟨he, hw⟩ => ⟨he, 0, hw.symm⟩
end Go.Proofs.Ytpdebnecfknohaa
namespace Go.Proofs.Ytpdebnecfknohaa
open Go.RowKit
set_option linter.unusedVariables false
set_option maxRecDepth 20000
def St7.small (s : St7) : Prop := s.xs.length ≤ 3 ∧ s.sub.size ≤ 2 ∧ s.sub.wide ≤ 3
/-- A module that is no greater than these. -/
structure Md.Small (M : Md) : Prop where
  fns : 0 < M.funcs.length ∧ M.funcs.length ≤ 4
  body : ∀ f ∈ M.funcs, f.body.size ≤ 1000 ∧ f.body.wide ≤ 1000
/-- What is read of one function. -/
theorem FnRow.at_ {w : World} {base : Nat} {X : Nat → Prop} {A : Option Addr} {n c : Nat} {L : List Fn} (h : FnRow w base X (.slice A n c) L) (i : Nat) (hi : i < L.length) : ∃ q, A = some ⟨q, 0, none⟩ ∧ q < w.heap.size ∧ base ≤ q ∧ n = L.length ∧ n ≤ c ∧ ∃ Al cl At ct Ab cb, RdS (fun k => some k ≠ some q ∧ X k) w Al L[i].locals.length 1 (intV L[i].locals) ∧ RdS (fun k => some k ≠ some q ∧ X k) w At L[i].sites.length 1 (intV L[i].sites) ∧ BodyS (fun k => some k ≠ some q ∧ X k) w Ab L[i].body ∧
    ∀ j u, ([.int .i64 L[i].name, .int .i64 L[i].params, .slice Al L[i].locals.length cl, .slice At L[i].sites.length ct, .slice Ab L[i].body.len cb] : List Value)[j]? = some u → w.cell? ⟨q, i * 5 + j, none⟩ = some u := by
  obtain ⟨css, h1, h2, h3⟩ := h.own
  have hn : n = L.length := by
    rcases h1.2 with ⟨hv, h0⟩ | ⟨k, cap', cur, hv, _⟩
    · injection hv with _ hv; omega
    · injection hv
  subst hn
  obtain ⟨q, cap, hv, hbq, hq⟩ := own_formM h1 (by omega)
  injection hv with hv1 _ hv3
  subst hv1 hv3
  obtain ⟨cs, hcs, Al, cl, At, ct, Ab, cb, rfl, r1, r2, hb⟩ := h3 i hi
  refine ⟨q, rfl, hq, hbq, rfl, ?_, Al, cl, At, ct, Ab, cb, r1, r2, hb, fun j u hj => ?_⟩
  · rcases h1.2 with ⟨hv, _⟩ | ⟨k, cap', cur, hv, _, _, h5, _⟩
    · cases hv
    · injection hv with _ _ hv; subst hv; exact h5
  · have hj5 : j < 5 := by
      rcases Nat.lt_or_ge j 5 with h | h
      · exact h
      · rw [List.getElem?_eq_none (by simpa using h)] at hj; cases hj
    have hall : ∀ c ∈ css, c.length = 5 := fun c hc => by
      obtain ⟨m, hm, rfl⟩ := List.mem_iff_getElem.1 hc
      obtain ⟨c2, hc2, _, _, _, _, _, _, e, _⟩ := h3 m (by omega)
      rw [List.getElem?_eq_getElem hm] at hc2
      injection hc2 with hc2
      rw [hc2, e]; rfl
    have flat_get : ∀ (l : List (List Value)) (i : Nat) (r : List Value), (∀ c ∈ l, c.length = 5) → l[i]? = some r → ∀ j, j < 5 → l.flatten[i * 5 + j]? = r[j]? := by
      intro l
      induction l with
      | nil => intro i r _ h; simp at h
      | cons x l ih =>
        intro i r hl hi j hj
        have hx : x.length = 5 := hl x (by simp)
        cases i with
        | zero =>
          simp at hi; subst hi
          rw [List.flatten_cons, List.getElem?_append_left (by omega)]; simp
        | succ i =>
          rw [List.flatten_cons, List.getElem?_append_right (by omega), hx, show (i + 1) * 5 + j - 5 = i * 5 + j from by omega]
          exact ih i r (fun c hc => hl c (by simp [hc])) (by simpa using hi) j hj
    have := own_cellsM h1 (i * 5 + j) u (by rw [flat_get css i _ hall hcs j hj5]; exact hj)
    rwa [Nat.zero_add] at this
end Go.Proofs.Ytpdebnecfknohaa
namespace Go.Proofs.Ytpdebnecfknohaa
open Go.RowKit
set_option linter.unusedVariables false
set_option maxRecDepth 20000
/-- A truth, and nothing but draws. -/
def QuB (w : World) (v : Bool) (e : Ending) (w' : World) : Prop := e = .returned (.bool v) ∧ ∃ k, w' = w.drewN k
theorem RdS.at_ {S : Nat → Prop} {w w' : World} {A : Option Addr} {n : Nat} {xs : List Value} (h : RdS S w A n 1 xs) (hb : Below w.heap.size w w') (i : Nat) (hi : i < n) {u : Value} (hu : xs[i]? = some u) : ∃ b o, A = some ⟨b, o, none⟩ ∧ b < w'.heap.size ∧ w'.cell? ⟨b, o + i, none⟩ = some u := by
  obtain ⟨b, o, hA, _, hc⟩ := h.2 (by omega)
  have := hc i u hu
  have hl := World.block_lt_of_cell? w ⟨b, o + i, none⟩ this
  exact ⟨b, o, hA, Nat.lt_of_lt_of_le hl hb.size, cell_old hb hl this⟩
theorem drop_eq_iff {α : Type} [DecidableEq α] {a b : List α} {i : Nat} (ha : i < a.length) (hb : i < b.length) : decide (a.drop i = b.drop i) = (decide (a[i] = b[i]) && decide (a.drop (i + 1) = b.drop (i + 1))) := by
  have e1 : a.drop i = a[i] :: a.drop (i + 1) := List.drop_eq_getElem_cons ha
  have e2 : b.drop i = b[i] :: b.drop (i + 1) := List.drop_eq_getElem_cons hb
  rw [e1, e2]
  generalize a.drop (i + 1) = ra
  generalize b.drop (i + 1) = rb
  by_cases h1 : a[i] = b[i] <;> by_cases h2 : ra = rb <;> simp [h1, h2]
set_option maxHeartbeats 1000000 in
theorem sameInts_any (a b : List Int) (A B : Option Addr) (ca cb : Nat) (w : World) (h1 : RdS (fun _ => True) w A a.length 1 (intV a)) (h2 : RdS (fun _ => True) w B b.length 1 (intV b)) (hl1 : a.length ≤ 1000000) (hl2 : b.length ≤ 1000000) :
    Calls Try.prog 53 #[.slice A a.length ca, .slice B b.length cb] w (QuB w (decide (a = b))) := by
  by_cases hlen : a.length = b.length
  · have H1 := Lib.hid h1
    have H2 := Lib.hid h2
    obtain ⟨v, hv⟩ : ∃ v, v = decide (a = b) := ⟨_, rfl⟩
    have HV : Hid (decide (a.drop 0 = b.drop 0) = v) := hv.symm
    rw [← hv]
    obtain ⟨L, hL⟩ : ∃ L, L = a.length := ⟨_, rfl⟩
    have HL1 : Hid (a.length = L) := hL.symm
    have HL2 : Hid (b.length = L) := hlen.symm.trans hL.symm
    rw [← hlen, ← hL]
    rw [← hL] at hl1
    clear hL hlen hl2 h1 h2 hv
    go_enter Try.func53, Try.ntmps53
    go_wp2_with fail
    go_loopw [5] (fun s wr => ∃ (i m : Nat), i ≤ L ∧ s = .int .i64 (i : Int) ∧ Hid (wr = w.drewN m) ∧ Hid (decide (a.drop i = b.drop i) = v)) (fun s _ => L - (intOf s).toNat)
    case atStart => exact ⟨0, 0, Nat.zero_le _, rfl, rfl, HV⟩
    case round =>
      obtain ⟨i, m, hi, rfl, hW, hE⟩ := hrel
      by_cases hlt : i < L
      · have hia : i < a.length := by have := HL1.out; omega
        have hib : i < b.length := by have := HL2.out; omega
        have hBW : Below w.heap.size w wr := by rw [hW.out]; exact below_dN w m _
        obtain ⟨q, o, rfl, hql, c1⟩ := H1.out.at_ hBW i hia (intV_get a i hia)
        obtain ⟨q', o', rfl, hql', c2⟩ := H2.out.at_ hBW i hib (intV_get b i hib)
        have hE2 := hE.out
        rw [drop_eq_iff hia hib] at hE2
        have HE2 := Lib.hid hE2
        have hq0 : (a[i] == b[i]) = decide (a[i] = b[i]) := rfl
        have hq1 : (a[i] != b[i]) = !decide (a[i] = b[i]) := rfl
        have hli : (i : Int) < (L : Int) := by omega
        clear hE hE2 hBW HV
        by_cases hx : a[i] = b[i]
        · have HE3 : Hid (decide (a.drop (i + 1) = b.drop (i + 1)) = v) := by show _ = _; have := HE2.out; simpa [hx] using this
          simp only [hx, decide_true, Bool.not_true] at hq0 hq1
          rw [hx] at c1
          clear HE2 hx
          generalize b[i] = xb at *
          go_upto_region 6 with (fail)
          go_quiet ((fail))
          go_wp2
          go_roundw
          case rel => exact ⟨i + 1, _, by omega, by go_num, quiet_w hW.out _, HE3⟩
          case measure => simp [intOf]; omega
        · obtain rfl : v = false := by rw [← HE2.out]; simp [hx]
          simp only [hx, decide_false, Bool.not_false] at hq0 hq1
          clear HE2 hx
          generalize a[i] = xa at *
          generalize b[i] = xb at *
          go_upto_region 6 with (fail)
          go_quiet ((fail))
          go_wp2
          go_ret
          exact ⟨rfl, _, quiet_w hW.out _⟩
      · obtain rfl : i = L := by omega
        obtain rfl : v = true := by rw [← hE.out, List.drop_of_length_le (by have := HL1.out; omega), List.drop_of_length_le (by have := HL2.out; omega)]; simp
        clear hE HV
        go_wp2
        go_ret
        exact ⟨rfl, _, hW.out⟩
  · have hv : decide (a = b) = false := by simp; intro h; rw [h] at hlen; exact hlen rfl
    rw [hv]
    have hli : ((a.length : Int) == (b.length : Int)) = false := by simp; omega
    have hlj : ((a.length : Int) != (b.length : Int)) = true := by simp; omega
    clear h1 h2 hv
    generalize a.length = la at *
    generalize b.length = lb at *
    go_enter Try.func53, Try.ntmps53
    go_wp2
    go_ret
    exact ⟨rfl, 0, rfl⟩
end Go.Proofs.Ytpdebnecfknohaa
namespace Go.Proofs.Ytpdebnecfknohaa
open Go.RowKit
set_option linter.unusedVariables false
set_option maxRecDepth 20000
set_option linter.unusedSimpArgs false
def fnSame (f g : Fn) : Bool := decide (f.name = g.name) && (decide (f.params = g.params) && (decide (f.locals = g.locals) && (decide (f.sites = g.sites) && f.body.same g.body)))
def fnsSame : List Fn → List Fn → Bool
  | [], [] => true
  | f :: l, g :: m => fnSame f g && fnsSame l m
  | _, _ => false
theorem fnsSame_len : ∀ l m : List Fn, l.length ≠ m.length → fnsSame l m = false
  | [], [], h => by simp at h
  | [], _ :: _, _ => rfl
  | _ :: _, [], _ => rfl
  | f :: l, g :: m, h => by simp only [fnsSame, fnsSame_len l m (by simpa using h), Bool.and_false]
theorem fnsSame_drop {l m : List Fn} {i : Nat} (h1 : i < l.length) (h2 : i < m.length) : fnsSame (l.drop i) (m.drop i) = (fnSame l[i] m[i] && fnsSame (l.drop (i + 1)) (m.drop (i + 1))) := by
  have e1 : l.drop i = l[i] :: l.drop (i + 1) := List.drop_eq_getElem_cons h1
  have e2 : m.drop i = m[i] :: m.drop (i + 1) := List.drop_eq_getElem_cons h2
  rw [e1, e2]
  rfl
theorem fnSame_refl (f : Fn) : fnSame f f = true := by simp [fnSame, Bd.same_refl]
theorem fnsSame_refl : ∀ l : List Fn, fnsSame l l = true
  | [] => rfl
  | f :: l => by simp [fnsSame, fnSame_refl, fnsSame_refl l]
/-- A truth, and what was there is as it was. -/
def BoB (w : World) (v : Bool) (e : Ending) (w' : World) : Prop := e = .returned (.bool v) ∧ Below w.heap.size w w'
theorem QuB.bo {w w' : World} {v : Bool} {e : Ending} (h : QuB w v e w') : BoB w v e w' := by
  obtain ⟨he, k, rfl⟩ := h
  exact ⟨he, below_dN _ _ _⟩
/-- No list is too long. -/
structure Fn.Fit (f : Fn) : Prop where
  locals : f.locals.length ≤ 1000000
  sites : f.sites.length ≤ 1000000
  size : f.body.size ≤ 10000000
  wide : f.body.wide ≤ 10000000
end Go.Proofs.Ytpdebnecfknohaa
namespace Go.Proofs.Ytpdebnecfknohaa
open Go.RowKit
set_option linter.unusedVariables false
set_option maxRecDepth 20000
set_option linter.unusedSimpArgs false
theorem FnsS.at_ {S : Nat → Prop} {w w' : World} {A : Option Addr} {L : List Fn} (h : FnsS S w A L) (hb : Below w.heap.size w w') (i : Nat) (hi : i < L.length) : ∃ b o A1 a1 A2 a2 A3 a3, A = some ⟨b, o, none⟩ ∧ b < w'.heap.size ∧ (w'.cell? ⟨b, o + i * 5, none⟩ = some (.int .i64 L[i].name) ∧ w'.cell? ⟨b, o + i * 5 + 1, none⟩ = some (.int .i64 L[i].params) ∧ w'.cell? ⟨b, o + i * 5 + 2, none⟩ = some (.slice A1 L[i].locals.length a1) ∧ w'.cell? ⟨b, o + i * 5 + 3, none⟩ = some (.slice A2 L[i].sites.length a2) ∧ w'.cell? ⟨b, o + i * 5 + 4, none⟩ = some (.slice A3 L[i].body.len a3)) ∧ RdS (fun _ => True) w' A1 L[i].locals.length 1 (intV L[i].locals) ∧ RdS (fun _ => True) w' A2 L[i].sites.length 1 (intV L[i].sites) ∧ BodyV w' A3 L[i].body := by
  obtain ⟨b, o, hA, _, hc⟩ := h (by omega)
  obtain ⟨cs, ⟨A1, a1, A2, a2, A3, a3, rfl, r1, r2, r3⟩, hat⟩ := hc i hi
  have hl : b < w.heap.size := World.block_lt_of_cell? w ⟨b, o + i * 5 + 0, none⟩ (hat 0 _ rfl)
  refine ⟨b, o, A1, a1, A2, a2, A3, a3, hA, Nat.lt_of_lt_of_le hl hb.size, ⟨cell_old hb hl (hat 0 _ rfl), cell_old hb hl (hat 1 _ rfl), cell_old hb hl (hat 2 _ rfl), cell_old hb hl (hat 3 _ rfl), cell_old hb hl (hat 4 _ rfl)⟩, (r1.old hb (by omega)).below (fun _ _ => trivial), (r2.old hb (by omega)).below (fun _ _ => trivial), r3.at_.old hb⟩
/-- A module that is read. -/
structure MdR (w : World) (As Ag Af Ae : Option Addr) (M : Md) : Prop where
  strs : RdS (fun _ => True) w As M.strs.length 1 (strV M.strs)
  globs : RdS (fun _ => True) w Ag M.globs.length 1 (intV M.globs)
  funcs : FnsS (fun _ => True) w Af M.funcs
  ents : RdS (fun _ => True) w Ae M.ents.length 1 (intV M.ents)
theorem MdR.old {w w' : World} {As Ag Af Ae : Option Addr} {M : Md} (h : MdR w As Ag Af Ae M) (hb : Below w.heap.size w w') : MdR w' As Ag Af Ae M :=
  ⟨h.strs.old hb (by omega), h.globs.old hb (by omega), h.funcs.old hb, h.ents.old hb (by omega)⟩
structure Md.Fit (M : Md) : Prop where
  strs : M.strs.length ≤ 1000000
  globs : M.globs.length ≤ 1000000
  funcs : M.funcs.length ≤ 1000000
  ents : M.ents.length ≤ 1000000
  fns : ∀ f ∈ M.funcs, f.Fit
def mdSame (M N : Md) : Bool := decide (M.strs = N.strs) && (decide (M.globs = N.globs) && (fnsSame M.funcs N.funcs && decide (M.ents = N.ents)))
theorem mdSame_refl (M : Md) : mdSame M M = true := by simp [mdSame, fnsSame_refl]
end Go.Proofs.Ytpdebnecfknohaa
