/-
  Parts: Cc Mj Me Ma Mb.
-/
import Derived.Test.YtpdebnecfknohaaPc00
import Derived.Test.YtpdebnecfknohaaPc01
import Derived.Test.YtpdebnecfknohaaPc02
import Derived.Test.YtpdebnecfknohaaPc03
import Derived.Test.YtpdebnecfknohaaPc04
import Derived.Test.YtpdebnecfknohaaPc05
namespace Go.Proofs.Ytpdebnecfknohaa
open Go.RowKit
set_option linter.unusedVariables false
set_option maxRecDepth 20000
theorem ArgsS.low {S : Nat → Prop} {w : World} {v : Value} {l : List (Int × Int)} (h : ArgsS S w v l) : ArgsS (fun k => k < w.heap.size ∧ S k) w v l := by
  obtain ⟨A, c, hv, h⟩ := h
  refine ⟨A, c, hv, fun hp => ?_⟩
  obtain ⟨b, o, hA, hS, hc⟩ := h hp
  exact ⟨b, o, hA, ⟨World.block_lt_of_cell? w ⟨b, o + 0 * 2, none⟩ (hc 0 hp).1, hS⟩, hc⟩
theorem BdS.low {S : Nat → Prop} {w : World} : ∀ (t : Bd) (b o : Nat), BdS S w b o t → BdS (fun k => k < w.heap.size ∧ S k) w b o t
  | .nil, _, _, _ => trivial
  | .cons k a1 a2 b1 b2 args sub rest, b, o, h => by
    obtain ⟨hS, h1, ⟨va, h2, h3⟩, ⟨A, c, h4, h5⟩, h6⟩ := h
    refine ⟨⟨World.block_lt_of_cell? w ⟨b, o, none⟩ h1.1, hS⟩, h1, ⟨va, h2, h3.low⟩, ⟨A, c, h4, fun hp => ?_⟩, BdS.low rest b _ h6⟩
    obtain ⟨b', o', hA, h7⟩ := h5 hp
    exact ⟨b', o', hA, BdS.low sub b' o' h7⟩
theorem BodyS.low {S : Nat → Prop} {w : World} {A : Option Addr} {t : Bd} (h : BodyS S w A t) : BodyS (fun k => k < w.heap.size ∧ S k) w A t := fun hp => by
  obtain ⟨b, o, hA, h1⟩ := h hp
  exact ⟨b, o, hA, BdS.low t b o h1⟩
/-- What copyBody leaves: a body like that, in rows of the call's own. -/
def CbPost (S0 : Nat → Prop) (w w' : World) (A : Option Addr) (t : Bd) : Prop := (0 < t.len → ∃ q cs, A = some ⟨q, 0, none⟩ ∧ w.heap.size ≤ q ∧ Blk w' q 50 cs ∧ ∀ k, k < t.len → LooseAt w.heap.size w' q k) ∧ BodyS (fun k => w.heap.size ≤ k ∨ S0 k) w' A t ∧ Below w.heap.size w w'
set_option maxRecDepth 20000 in
set_option maxHeartbeats 4000000 in
theorem copyB_any (S0 : Nat → Prop) (Ab : Option Addr) (cb : Nat) (t : Bd) (w : World) (h : BodyS S0 w Ab t) (hs : t.size ≤ 100000000) (hw : t.wide ≤ 1000000000) :
    Calls Try.prog 79 #[.slice Ab t.len cb] w fun e w' => ∃ A c, e = .returned (.slice A t.len c) ∧ CbPost S0 w w' A t := by
  have hlt := Bd.len_le t
  have hC := cloneS2_any (fun k => k < w.heap.size ∧ S0 k) Ab cb t w (BodyS.low h) (by omega)
  have HC := Lib.hid hC
  clear hC h
  go_enter Try.func79, Try.ntmps79
  go_wp2_with fail
  refine HC.out.mono ?_
  rintro e w1 ⟨A, c, rfl, ⟨cs, hO, hcs, _⟩, hb1⟩
  have hcs1 : CellsB (NR S0 w.heap.size w1) w1 cs t := CellsB.kept (Below.keptS hb1) (fun k hk _ => .inl hk) t cs hcs
  have hown : 0 < t.len → ∃ q cs, A = some ⟨q, 0, none⟩ ∧ w.heap.size ≤ q ∧ Blk w1 q 50 cs := fun hp => by
    obtain ⟨q, cap, hv, hb, _⟩ := own_formM hO hp
    obtain ⟨_, cur, hB⟩ := own_blk hO q (by rw [hv]; rfl)
    injection hv with hv1 hv2 hv3
    exact ⟨q, cur, hv1, hb, hB⟩
  have hbody : BodyS (NR S0 w.heap.size w1) w1 A t := own_bodyB rfl hO hcs1 (fun k hk => by
    obtain ⟨_, cur, hB⟩ := own_blk hO k hk
    exact .inr ⟨own_geB hO k hk, 50, cur, hB, by decide⟩)
  have hok1 : OKl S0 w.heap.size w1 ⟨A, c, t⟩ := ⟨hown, hbody, hw⟩
  have hBa : Below w1.heap.size w1 (w1.alloc (.cells #[.slice A t.len c] 38)) := (Below.refl _ _).alloc (Nat.le_refl _) _
  have HOK : Hid (OKl S0 w.heap.size (w1.alloc (.cells #[.slice A t.len c] 38)) ⟨A, c, t⟩) := by
    refine ⟨fun hp => ?_, hbody.kept (Below.keptS hBa) (fun k hk _ => NR.stay (Stay.old hBa) k hk), hw⟩
    obtain ⟨q, cs, h1, h2, h3⟩ := hown hp
    exact ⟨q, cs, h1, h2, h3.alloc _⟩
  have HB0 : Hid (Below w.heap.size w (w1.alloc (.cells #[.slice A t.len c] 38))) := hb1.alloc hb1.size _
  have HO0 : Hid ((w1.alloc (.cells #[.slice A t.len c] 38)).ownsRow w.heap.size 38 1 (.slice (some ⟨w1.heap.size, 0, none⟩) 1 1) 1 (flatL [⟨A, c, t⟩])) :=
    ⟨rfl, .inr ⟨w1.heap.size, 1, _, rfl, hb1.size, heap_alloc_new w1 _, Nat.le_refl _, by unfold maxLen; omega, rfl, rfl⟩⟩
  clear hcs1 hown hbody hok1 hBa hO hcs HC hb1
  go_wp2_with fail
  go_loopg [4] (t.size + 1) (fun g s4 wr => ∃ P : List Ln, wtL P = g ∧ g ≤ 100000001 ∧ (∃ q cap, s4 = .slice (some ⟨q, 0, none⟩) P.length cap) ∧ Hid (wr.ownsRow w.heap.size 38 1 s4 P.length (flatL P)) ∧ Hid (∀ p ∈ P, OKl S0 w.heap.size wr p) ∧ Hid (OKl S0 w.heap.size wr ⟨A, c, t⟩) ∧ Hid (Below w.heap.size w wr) ∧ Hid (P = [⟨A, c, t⟩] ∨ ((∀ p ∈ P, 0 < p.t.len → 0 < t.len → p.A ≠ A) ∧ ∀ q, A = some ⟨q, 0, none⟩ → ∀ k, k < t.len → LooseAt w.heap.size wr q k)))
  case atStart => exact ⟨[⟨A, c, t⟩], by simp [wtL], by omega, ⟨_, _, rfl⟩, HO0, (by intro p hp; obtain rfl := List.mem_singleton.1 hp; exact HOK.out), HOK, HB0, .inl rfl⟩
  case round =>
    obtain ⟨P, hg, hgl, ⟨q0, cap0, hs4⟩, hO, hK, hT, hB, hF⟩ := hrel
    rcases List.eq_nil_or_concat P with rfl | ⟨P0, p, rfl⟩
    · subst hs4
      go_wp2
      go_ret
      refine ⟨A, c, rfl, fun hp => ?_, hT.out.2.1.kept (fun _ _ _ => rfl) (fun k hk _ => by rcases hk with hk | hk; exact .inr hk.2; exact .inl hk.1), hB.out⟩
      obtain ⟨q, cs, hA, hq, hBq⟩ := hT.out.1 hp
      rcases hF.out with h0 | h0
      · cases h0
      · exact ⟨q, cs, hA, hq, hBq, h0.2 q hA⟩
    · rw [List.concat_eq_append] at *
      clear hs4
      obtain ⟨q, cap, rfl, hc1, hc2, hp1, hO1⟩ := own_popL hO.out
      have HKp := Lib.hid (hK.out p (by simp))
      have HK1 : Hid (∀ x ∈ P0, OKl S0 w.heap.size wr x) := fun x hx => hK.out x (by simp [hx])
      have HO1 := Lib.hid hO1
      have hwt : wtL (P0 ++ [p]) = wtL P0 + (p.t.size + 1) := by rw [wtL_append]; simp [wtL]
      have hlw := len_wtL P0
      obtain ⟨dn, hdn⟩ : ∃ dn : Nat → Nat, ((dn = id ∧ p = ⟨A, c, t⟩) ∨ ((∀ i, dn i = t.len) ∧ (0 < p.t.len → 0 < t.len → p.A ≠ A))) ∧ ((∀ x ∈ P0, 0 < x.t.len → 0 < t.len → x.A ≠ A) ∧ ∀ q, A = some ⟨q, 0, none⟩ → ∀ k, k < dn 0 → LooseAt w.heap.size wr q k) := by
        rcases hF.out with h0 | h0
        · obtain ⟨rfl, hp⟩ : P0 = [] ∧ p = ⟨A, c, t⟩ := by
            cases P0 with
            | nil => exact ⟨rfl, by simpa using h0⟩
            | cons x l => simp at h0
          exact ⟨id, .inl ⟨rfl, hp⟩, fun x hx => by simp at hx, fun q _ k hk => absurd hk (by simp)⟩
        · exact ⟨fun _ => t.len, .inr ⟨fun _ => rfl, h0.1 p (by simp)⟩, fun x hx => h0.1 x (by simp [hx]), h0.2⟩
      have HD := Lib.hid hdn.1
      have HF0 := Lib.hid hdn.2
      obtain ⟨Ap, cp, tp⟩ := p
      simp only at hp1 hwt
      have hl1 := Bd.len_le tp
      rw [hwt] at hg
      clear hO hK hO1 hwt hdn hF
      have hlen0 : ((P0.length + 1 : Nat) : Int) - 1 = (P0.length : Int) := by omega
      obtain ⟨G, hG⟩ : ∃ G, G = gk := ⟨gk, rfl⟩
      subst hG
      go_wp2_with fail
      go_loopg [4, 28] tp.len (fun g2 s4 s28 wi => ∃ (i : Nat) (Q : List Ln), i ≤ tp.len ∧ g2 = tp.len - i ∧ s28 = .int .i64 (i : Int) ∧ (∃ q cap, s4 = .slice (some ⟨q, 0, none⟩) Q.length cap) ∧ Hid (wi.ownsRow w.heap.size 38 1 s4 Q.length (flatL Q)) ∧ Hid (∀ p ∈ Q, OKl S0 w.heap.size wi p) ∧ Hid (OKl S0 w.heap.size wi ⟨A, c, t⟩) ∧ Hid (OKl S0 w.heap.size wi ⟨Ap, cp, tp⟩) ∧ Hid (Below w.heap.size w wi) ∧ Hid (wtL Q + (tp.drop i).size + 1 ≤ G) ∧ Hid ((∀ p ∈ Q, 0 < p.t.len → 0 < t.len → p.A ≠ A) ∧ ∀ q, A = some ⟨q, 0, none⟩ → ∀ k, k < dn i → LooseAt w.heap.size wi q k))
      case atStart => exact ⟨0, P0, Nat.zero_le _, rfl, rfl, ⟨_, _, rfl⟩, HO1, HK1, hT, HKp, hB, (by show _ ≤ _; simp only [Bd.drop]; omega), HF0⟩
      case round =>
        clear HO1 HK1 hT HKp hB HF0 HOK HB0 HO0
        obtain ⟨i, Q, hi, hg2, rfl, ⟨q3, cap3, hs4⟩, hO3, hK3, hT3, hP3, hB3, hW3, hF3⟩ := hrel
        subst hs4
        by_cases hlt : i < tp.len
        · obtain ⟨k1, a1, a2, b1, b2, xs, sub, rest, hd1⟩ := Bd.drop_cons tp i hlt
          obtain ⟨qp, csp, hAp, hqp, hBp⟩ := hP3.out.1 (by simp only; omega)
          simp only at hAp
          subst hAp
          obtain ⟨b, o, hA, hat⟩ := hP3.out.2.1.at_ (by simp only; omega)
          injection hA with hA
          injection hA with e1 e2
          subst e1 e2
          have q1 := hat.drop tp _ _ i
          have HW1 := Lib.hid (Bd.sub_wide tp i hd1)
          have hW4 := hW3.out
          have hws := Bd.wide_drop tp i
          rw [hd1] at q1 hW4 hws
          simp only [Nat.zero_add] at q1
          simp only [Bd.size] at hW4
          simp only [Bd.wide] at hws
          obtain ⟨⟨d0, d1, d2, d3, d4⟩, ⟨va, d5, ha⟩, ⟨As, ns, d6, hsub⟩, _⟩ := q1
          obtain ⟨Aa, ca, rfl, ha0⟩ := ha
          have HA : Hid (ArgsAt wr (.slice Aa xs.length ca) xs) := ⟨Aa, ca, rfl, ha0⟩
          have HS : Hid (BodyV wr As sub) := hsub
          have HD0 : Hid (wr.cell? ⟨qp, i * 7, none⟩ = some (.int .u8 k1) ∧ wr.cell? ⟨qp, i * 7 + 1, none⟩ = some (.int .u8 a1) ∧ wr.cell? ⟨qp, i * 7 + 2, none⟩ = some (.int .i64 a2) ∧ wr.cell? ⟨qp, i * 7 + 3, none⟩ = some (.int .u8 b1) ∧ wr.cell? ⟨qp, i * 7 + 4, none⟩ = some (.int .i64 b2) ∧ wr.cell? ⟨qp, i * 7 + 5, none⟩ = some (.slice Aa xs.length ca) ∧ wr.cell? ⟨qp, i * 7 + 6, none⟩ = some (.slice As sub.len ns)) := ⟨d0, d1, d2, d3, d4, d5, d6⟩
          have hsl := Bd.len_le sub
          have hwp := hP3.out.2.2
          simp only at hwp
          have hxl : xs.length ≤ 1000000000 := by omega
          have Hn1 := Lib.hid (Bd.drop_succ tp i hd1)
          have HDR := Lib.hid hd1
          have hsz1 := Bd.size_drop tp i
          rw [hd1] at hsz1
          simp only [Bd.size] at hsz1
          have hD1 := fun wx (hx : Below wr.heap.size wr wx) => cloneR2_any Aa ca xs wx (HA.out.old hx) hxl
          have hD2 := fun wx (hx : Below wr.heap.size wr wx) => cloneS2_any _ As ns sub wx (BodyV.toS (HS.out.old hx)) (by omega)
          have HD1 := Lib.hid hD1
          have HD2 := Lib.hid hD2
          have hqpl : qp < wr.heap.size := hBp.lt
          have HBp := Lib.hid hBp
          have Hqp := Lib.hid hqp
          obtain ⟨lx, hlx⟩ : ∃ lx, lx = xs.length := ⟨_, rfl⟩
          obtain ⟨lsb, hlsb⟩ : ∃ lsb, lsb = sub.len := ⟨_, rfl⟩
          rw [← hlx] at d5
          rw [← hlsb] at d6
          have HLX := Lib.hid hlx
          have HLS := Lib.hid hlsb
          have hil : (i : Int) < (tp.len : Int) := by omega
          have HB4 : Hid (Below wr.heap.size wr (wr.alloc (.cells #[.int .u8 k1, .int .u8 a1, .int .i64 a2, .int .u8 b1, .int .i64 b2, .slice Aa lx ca, .slice As lsb ns] 50))) := (Below.refl _ _).alloc (Nat.le_refl _) _
          have KB : Hid (Blk (wr.alloc (.cells #[.int .u8 k1, .int .u8 a1, .int .i64 a2, .int .u8 b1, .int .i64 b2, .slice Aa lx ca, .slice As lsb ns] 50)) wr.heap.size 50 #[.int .u8 k1, .int .u8 a1, .int .i64 a2, .int .u8 b1, .int .i64 b2, .slice Aa lx ca, .slice As lsb ns]) := Blk.new wr 50 _
          clear hat hsub ha0 hd1 hW3 hD1 hD2 hBp hqp hlx hlsb hws
          go_upto_region 9 with (fail)
          obtain ⟨g, hgd⟩ : ∃ g, g = wr.heap.size := ⟨_, rfl⟩
          rw [← hgd] at KB ⊢
          generalize wr.alloc (.cells #[.int .u8 k1, .int .u8 a1, .int .i64 a2, .int .u8 b1, .int .i64 b2, .slice Aa lx ca, .slice As lsb ns] 50) = wa at *
          have HGD := Lib.hid hgd
          clear d0 d1 d2 d3 d4 d5 d6 hgd
          obtain ⟨c0, c1, c2, c3, c4, c5, c6⟩ := KB.out.c7
          have zg : g < wa.heap.size := KB.out.lt
          have hD1 := HD1.out wa HB4.out
          rw [← HLX.out] at hD1
          have HD1' := Lib.hid hD1
          clear hD1 HD1
          go_wp2_with fail
          refine HD1'.out.mono ?_
          rintro e w2 ⟨A1, c1', rfl, hO1, hb2⟩
          have HO1 := Lib.hid hO1
          have HB2 := Lib.hid (HB4.out.trans (hb2.mono HB4.out.size))
          have HKB2 : Hid (Blk (w2.setCell ⟨g, 5, none⟩ (.slice A1 lx c1')) g 50 #[.int .u8 k1, .int .u8 a1, .int .i64 a2, .int .u8 b1, .int .i64 b2, .slice A1 lx c1', .slice As lsb ns]) := (KB.out.old hb2).set_ 5 _
          have KB2 := Lib.hid (KB.out.old hb2)
          have HW2 : Hid (wa.heap.size ≤ w2.heap.size) := hb2.size
          clear hO1 hb2 c0 c1 c2 c3 c4 c5 c6 zg HD1' KB
          obtain ⟨c0, c1, c2, c3, c4, c5, c6⟩ := KB2.out.c7
          have zg : g < w2.heap.size := KB2.out.lt
          have zf := KB2.out.frozen 5
          go_upto_region 10 with (fail)
          have HB3 : Hid (Below wr.heap.size wr (w2.setCell ⟨g, 5, none⟩ (.slice A1 lx c1'))) := HB2.out.setCell (p := ⟨g, 5, none⟩) (by rw [HGD.out]; exact Nat.le_refl _) _
          have HO1b : Hid ((w2.setCell ⟨g, 5, none⟩ (.slice A1 lx c1')).ownsRow wa.heap.size 46 2 (.slice A1 lx c1') lx (refV xs)) := own_blocks HO1.out (fun k hk => Below.heap_setCell _ _ _ _ (fun e => own_ne HO1.out KB2.out (by decide) (by have e' : k = g := e; subst e'; exact hk)))
          have HW3 : Hid (wa.heap.size ≤ (w2.setCell ⟨g, 5, none⟩ (.slice A1 lx c1')).heap.size) := by show _ ≤ _; have := HW2.out; simp [World.setCell]; exact this
          generalize w2.setCell ⟨g, 5, none⟩ (.slice A1 lx c1') = w3 at *
          clear c0 c1 c2 c3 c4 c5 c6 zg zf KB2 HO1 HB2 HW2
          obtain ⟨c0, c1, c2, c3, c4, c5, c6⟩ := HKB2.out.c7
          have zg : g < w3.heap.size := HKB2.out.lt
          have hD2 := HD2.out w3 HB3.out
          rw [← HLS.out] at hD2
          have HD2' := Lib.hid hD2
          clear hD2 HD2
          go_wp2_with fail
          refine HD2'.out.mono ?_
          rintro e w4 ⟨A4, c4', rfl, ⟨csb, hO4, hcsb, hcc⟩, hb4⟩
          have hgq : g ≠ qp := by have := HGD.out; omega
          have HKB4 := Lib.hid (HKB2.out.old hb4)
          have HB5 : Hid (Below wr.heap.size wr (w4.setCell ⟨g, 6, none⟩ (.slice A4 lsb c4'))) := (HB3.out.trans (hb4.mono HB3.out.size)).setCell (p := ⟨g, 6, none⟩) (by rw [HGD.out]; exact Nat.le_refl _) _
          have HKB5 : Hid (Blk (w4.setCell ⟨g, 6, none⟩ (.slice A4 lsb c4')) g 50 #[.int .u8 k1, .int .u8 a1, .int .i64 a2, .int .u8 b1, .int .i64 b2, .slice A1 lx c1', .slice A4 lsb c4']) := HKB4.out.set_ 6 _
          have hg4 : ∀ k, some k = (Value.slice A4 lsb c4').ownBlock → k ≠ g := fun k hk e => by
            have h1 := own_geB hO4 k hk
            have h2 := HKB2.out.lt
            omega
          have HO4 : Hid ((w4.setCell ⟨g, 6, none⟩ (.slice A4 lsb c4')).ownsRow wa.heap.size 50 7 (.slice A4 lsb c4') lsb csb) := own_mono (own_blocks hO4 (fun k hk => Below.heap_setCell _ _ _ _ (hg4 k hk))) HW3.out
          have HO1c : Hid ((w4.setCell ⟨g, 6, none⟩ (.slice A4 lsb c4')).ownsRow wa.heap.size 46 2 (.slice A1 lx c1') lx (refV xs)) := own_blocks (own_old HO1b.out hb4) (fun k hk => Below.heap_setCell _ _ _ _ (fun e => own_ne (own_old HO1b.out hb4) HKB4.out (by decide) (by have e' : k = g := e; subst e'; exact hk)))
          have HCS : Hid (CellsB (fun k => k < w3.heap.size) w3 csb sub) := hcsb
          have HCC := Lib.hid hcc
          have HB4' := Lib.hid hb4
          clear hO4 hcsb hcc hb4 hg4 c0 c1 c2 c3 c4 c5 c6 zg HD2'
          obtain ⟨c0, c1, c2, c3, c4, c5, c6⟩ := HKB4.out.c7
          have zg : g < w4.heap.size := HKB4.out.lt
          have zf := HKB4.out.frozen 6
          go_upto_region 11 with (fail)
          generalize w4.setCell ⟨g, 6, none⟩ (.slice A4 lsb c4') = w5 at *
          clear c0 c1 c2 c3 c4 c5 c6 zg zf HKB4
          obtain ⟨c0, c1, c2, c3, c4, c5, c6⟩ := HKB5.out.c7
          have zg : g < w5.heap.size := HKB5.out.lt
          have HB5p := Lib.hid (HBp.out.old HB5.out)
          have zq : qp < w5.heap.size := HB5p.out.lt
          have f0 := HB5p.out.frozen (i * 7)
          have f1 := HB5p.out.frozen (i * 7 + 1)
          have f2 := HB5p.out.frozen (i * 7 + 2)
          have f3 := HB5p.out.frozen (i * 7 + 3)
          have f4 := HB5p.out.frozen (i * 7 + 4)
          have f5 := HB5p.out.frozen (i * 7 + 5)
          have f6 := HB5p.out.frozen (i * 7 + 6)
          obtain ⟨x0, x1, x2, x3, x4, x5, x6⟩ := HD0.out
          have y0 := cell_old HB5.out hqpl x0
          have y1 := cell_old HB5.out hqpl x1
          have y2 := cell_old HB5.out hqpl x2
          have y3 := cell_old HB5.out hqpl x3
          have y4 := cell_old HB5.out hqpl x4
          have y5 := cell_old HB5.out hqpl x5
          have y6 := cell_old HB5.out hqpl x6
          clear x0 x1 x2 x3 x4 x5 x6
          go_upto_region 12 with (fail)
          have HNQ : Hid (∀ k, some k = (Value.slice A4 lsb c4').ownBlock → wa.heap.size ≤ k) := fun k hk => own_geB HO4.out k hk
          have hR := round_all (S0 := S0) (base := w.heap.size) (c1 := c1') (c4 := c4') Hqp.out HB5.out HB3.out HBp.out HD0.out HA.out HS.out HLX.out HLS.out HB4.out.size HO1c.out HO4.out HCS.out HCC.out
          have HR := Lib.hid hR
          have HKB6 : Hid (Blk (put7 w5 qp (i * 7) (.int .u8 k1) (.int .u8 a1) (.int .i64 a2) (.int .u8 b1) (.int .i64 b2) (.slice A1 lx c1') (.slice A4 lsb c4')) g 50 #[.int .u8 k1, .int .u8 a1, .int .i64 a2, .int .u8 b1, .int .i64 b2, .slice A1 lx c1', .slice A4 lsb c4']) := (put7_heap hgq).trans HKB5.out
          change Code.wp _ _ _ _ (put7 w5 qp (i * 7) (.int .u8 k1) (.int .u8 a1) (.int .i64 a2) (.int .u8 b1) (.int .i64 b2) (.slice A1 lx c1') (.slice A4 lsb c4'))
          generalize put7 w5 qp (i * 7) (.int .u8 k1) (.int .u8 a1) (.int .i64 a2) (.int .u8 b1) (.int .i64 b2) (.slice A1 lx c1') (.slice A4 lsb c4') = w6 at *
          clear hR c0 c1 c2 c3 c4 c5 c6 zg zq f0 f1 f2 f3 f4 f5 f6 y0 y1 y2 y3 y4 y5 y6 HKB5 HB5p HO1b HO1c HO4 HCS HCC HB4' hgq hqpl
          have HO6 := Lib.hid (HR.out.own _ _ _ hO3.out)
          have HK6 : Hid (∀ p ∈ Q, OKl S0 w.heap.size w6 p) := fun p hp => (hK3.out p hp).swap HR.out.swap HR.out.stay
          have HT6 := Lib.hid (hT3.out.swap HR.out.swap HR.out.stay)
          have HP6 := Lib.hid (hP3.out.swap HR.out.swap HR.out.stay)
          have HB6 := Lib.hid (HR.out.bel w rfl hB3.out)
          have HL6 : Hid (∀ q, A = some ⟨q, 0, none⟩ → ∀ k, k < dn (i + 1) → LooseAt w.heap.size w6 q k) := loose_step (c := c) (cp := cp) rfl hlt HD.out hF3.out.2 HR.out.swap HR.out.stay HR.out.loose
          have HS6 : Hid (OKl S0 w.heap.size w6 ⟨A4, c4', sub⟩) := HR.out.sub _ _ _ _ _ _ _ _ _ _ rfl hlt HDR.out hP3.out
          have HQ6 : Hid (∀ p ∈ Q, 0 < p.t.len → 0 < t.len → p.A ≠ A) := hF3.out.1
          have HNA : Hid (0 < sub.len → 0 < t.len → A4 ≠ A) := fun h1 h2 e => by
            obtain ⟨q', cs', hA', _, hB'⟩ := hT3.out.1 h2
            simp only at hA'
            have := HNQ.out q' (by rw [e, hA']; rfl)
            have := hB'.lt
            have := HB4.out.size
            omega
          clear hO3 hK3 hT3 hP3 hB3 hF3 HR HA HS HD0 HB3 HB4 HB5 HW3 HBp HKB2 HDR
          obtain ⟨c0, c1, c2, c3, c4, c5, c6⟩ := HKB6.out.c7
          have zg : g < w6.heap.size := HKB6.out.lt
          have hlQ := len_wtL Q
          by_cases hp0 : 0 < lsb
          · have hp0i : (0 : Int) < (lsb : Int) := by omega
            obtain ⟨q5, cap5, w7, hr5, hO5, hg5⟩ := own_pushL w.heap.size (.slice (some ⟨q3, 0, none⟩) Q.length cap3) Q ⟨A4, c4', sub⟩ w6 HO6.out (by omega) HB6.out.size
            dsimp only at hr5
            rw [← show lsb = sub.len from HLS.out] at hr5
            have hBA : Below w6.heap.size w6 (w6.alloc (.cells #[.slice A4 sub.len c4'] 38)) := (Below.refl _ _).alloc (Nat.le_refl _) _
            have hOA := HO6.out.alloc (.cells #[.slice A4 sub.len c4'] 38)
            have HO7 := Lib.hid hO5
            have HK7 : Hid (∀ p ∈ Q ++ [⟨A4, c4', sub⟩], OKl S0 w.heap.size w7 p) := fun p hp => by
              rcases List.mem_append.1 hp with h | h
              · exact ((HK6.out p h).old hBA).grown hOA hg5
              · obtain rfl := List.mem_singleton.1 h
                exact (HS6.out.old hBA).grown hOA hg5
            have HT7 := Lib.hid ((HT6.out.old hBA).grown hOA hg5)
            have HP7 := Lib.hid ((HP6.out.old hBA).grown hOA hg5)
            have HB7 : Hid (Below w.heap.size w w7) := (HB6.out.trans (hBA.mono HB6.out.size)).grown hg5 (by have := HB6.out.size; simp; omega) (fun k hk => own_geB hOA k hk.symm)
            have HQ7 : Hid (∀ p ∈ Q ++ [⟨A4, c4', sub⟩], 0 < p.t.len → 0 < t.len → p.A ≠ A) := fun p hp h1 h2 => by
              rcases List.mem_append.1 hp with h | h
              · exact HQ6.out p h h1 h2
              · obtain rfl := List.mem_singleton.1 h
                exact HNA.out h1 h2
            have HL7 : Hid (∀ q, A = some ⟨q, 0, none⟩ → ∀ k, k < dn (i + 1) → LooseAt w.heap.size w7 q k) := fun q hA k hk => by
              have hp : 0 < t.len := by
                rcases HD.out with ⟨rfl, he⟩ | ⟨h1, _⟩
                · have e1 : tp = t := congrArg Ln.t he
                  rw [← e1]; omega
                · rw [h1] at hk; omega
              obtain ⟨q', cs', hA', _, hB'⟩ := HT6.out.1 hp
              simp only at hA'
              rw [hA] at hA'
              injection hA' with hA'
              injection hA' with hA'
              subst hA'
              exact ((HL6.out q hA k hk).old hBA).grown (hB'.old hBA) hOA hg5
            have HWn : Hid (wtL (Q ++ [⟨A4, c4', sub⟩]) + rest.size + 1 ≤ G) := by
              show _ ≤ _
              rw [wtL_append, show wtL [(⟨A4, c4', sub⟩ : Ln)] = sub.size + 1 from rfl]
              omega
            clear hO5 hg5 hBA hOA
            go_upto_region 13 with (fail)
            go_wp2_with (at_builtin; refine Lib.wpList_append_run _ rfl _ _ 132 132 rfl _ _ rfl rfl _ _ hr5 ?_)
            go_roundg (tp.len - (i + 1))
            case measure => omega
            case rel => exact ⟨i + 1, Q ++ [⟨A4, c4', sub⟩], by omega, rfl, by go_num, ⟨q5, cap5, by simp⟩, (by rw [show (Q ++ [(⟨A4, c4', sub⟩ : Ln)]).length = Q.length + 1 from by simp] at HO7 ⊢; exact HO7), HK7, HT7, HP7, HB7, (by show _ ≤ _; rw [Hn1.out]; exact HWn.out), ⟨HQ7.out, HL7.out⟩⟩
          · obtain rfl : lsb = 0 := by omega
            go_wp2
            go_roundg (tp.len - (i + 1))
            case measure => omega
            case rel => exact ⟨i + 1, Q, by omega, rfl, by go_num, ⟨_, _, rfl⟩, HO6, HK6, HT6, HP6, HB6, (by show _ ≤ _; rw [Hn1.out]; omega), ⟨HQ6.out, HL6.out⟩⟩
        · obtain rfl : i = tp.len := by omega
          have hW4 := hW3.out
          rw [Bd.drop_end tp tp.len (Nat.le_refl _)] at hW4
          simp only [Bd.size] at hW4
          have HFn : Hid (Q = [⟨A, c, t⟩] ∨ ((∀ p ∈ Q, 0 < p.t.len → 0 < t.len → p.A ≠ A) ∧ ∀ q, A = some ⟨q, 0, none⟩ → ∀ k, k < t.len → LooseAt w.heap.size wr q k)) := .inr ⟨hF3.out.1, fun q hA k hk => hF3.out.2 q hA k (by
            rcases HD.out with ⟨rfl, he⟩ | ⟨h1, _⟩
            · have e1 : tp = t := congrArg Ln.t he
              rw [e1]; exact hk
            · rw [h1]; exact hk)⟩
          clear hF3 HD
          go_wp2
          go_roundg (wtL Q)
          case measure => omega
          case rel => exact ⟨Q, rfl, by omega, ⟨_, _, rfl⟩, hO3, hK3, hT3, hB3, HFn⟩
end Go.Proofs.Ytpdebnecfknohaa
namespace Go.Proofs.Ytpdebnecfknohaa
open Go.RowKit
set_option linter.unusedVariables false
set_option maxRecDepth 20000
theorem strV_snoc (l : List (List UInt8)) (x : List UInt8) : strV (l ++ [x]) = strV l ++ [.string (bs x)] := by simp [strV]
theorem intV_snoc (l : List Int) (x : Int) : intV (l ++ [x]) = intV l ++ [.int .i64 x] := by simp [intV]
/-- While a function is made: the draft's box, the result's, the module's, the function's, and their rows. -/
structure MkJ (w wr : World) (D Z : Array Value) (q9 : Nat) (S : List (List UInt8)) (gl : List Int) (L : List Fn) (f0 f1 : Int) (loc sit : List Int) (As : Option Addr) (ns cs : Nat) (Ag : Option Addr) (ng cg : Nat) (Af : Option Addr) (i cf : Nat) (Al : Option Addr) (nl cl : Nat) (At : Option Addr) (nt ct : Nat) : Prop where
  bel : Below w.heap.size w wr
  bd : Blk wr w.heap.size 24 D
  bz : Blk wr (w.heap.size + 1) 30 Z
  bm : Blk wr (w.heap.size + 1 + 1) 30 #[.slice As ns cs, .slice Ag ng cg, .slice Af i cf, .slice none 0 0]
  bf : Blk wr q9 40 #[.int .i64 f0, .int .i64 f1, .slice Al nl cl, .slice At nt ct, .slice none 0 0]
  lens : S.length = ns ∧ gl.length = ng ∧ L.length = i ∧ loc.length = nl ∧ sit.length = nt
  os : wr.ownsRow (w.heap.size + 1 + 1 + 1) 9 1 (.slice As ns cs) ns (strV S)
  og : wr.ownsRow (w.heap.size + 1 + 1 + 1) 3 1 (.slice Ag ng cg) ng (intV gl)
  ogq : ∀ k, some k = (Value.slice Ag ng cg).ownBlock → k < q9
  ol : wr.ownsRow q9 3 1 (.slice Al nl cl) nl (intV loc)
  ot : wr.ownsRow q9 3 1 (.slice At nt ct) nt (intV sit)
  ne : ∀ k, some k = (Value.slice Al nl cl).ownBlock → some k ≠ (Value.slice At nt ct).ownBlock
  fr : FnRow wr (w.heap.size + 1 + 1 + 1) (fun k => some k ≠ (Value.slice As ns cs).ownBlock ∧ w.heap.size + 1 + 1 + 1 ≤ k ∧ k < q9) (.slice Af i cf) L
  frq : ∀ k, some k = (Value.slice Af i cf).ownBlock → k < q9
  q9 : w.heap.size + 1 + 1 + 1 ≤ q9
  nob : ∀ k, some k = (Value.slice Af i cf).ownBlock → ∀ t, t < i → wr.cell? ⟨k, t * 5 + 4, none⟩ = some (.slice none 0 0)
section
variable {w wr : World} {D Z : Array Value} {q9 : Nat} {S : List (List UInt8)} {gl : List Int} {L : List Fn} {f0 f1 : Int} {loc sit : List Int} {As : Option Addr} {ns cs : Nat} {Ag : Option Addr} {ng cg : Nat} {Af : Option Addr} {i cf : Nat} {Al : Option Addr} {nl cl : Nat} {At : Option Addr} {nt ct : Nat}
/-- A string more. -/
theorem MkJ.addStr (h : MkJ w wr D Z q9 S gl L f0 f1 loc sit As ns cs Ag ng cg Af i cf Al nl cl At nt ct) (hl : ns ≤ 10000) (x : List UInt8) (w3 : World) (hb : Below wr.heap.size wr w3) :
    ∃ q5 c5 w5, (Builtin.append_ #[26, 26] 26 #[.slice As ns cs, .slice (some ⟨w3.heap.size, 0, none⟩) 1 1]).run Try.prog (w3.alloc (.cells #[.string (bs x)] 9)) = .ok (.slice (some ⟨q5, 0, none⟩) (ns + 1) c5) w5 ∧ w3.cell? ⟨w.heap.size + 1 + 1, 0, none⟩ = some (.slice As ns cs) ∧ w.heap.size + 1 + 1 < w3.heap.size ∧ w5.cell? ⟨w.heap.size + 1 + 1, 0, none⟩ = some (.slice As ns cs) ∧ w5.frozen? ⟨w.heap.size + 1 + 1, 0, none⟩ = false ∧
      Hid (MkJ w (w5.setCell ⟨w.heap.size + 1 + 1, 0, none⟩ (.slice (some ⟨q5, 0, none⟩) (ns + 1) c5)) D Z q9 (S ++ [x]) gl L f0 f1 loc sit (some ⟨q5, 0, none⟩) (ns + 1) c5 Ag ng cg Af i cf Al nl cl At nt ct) := by
  have hq := h.q9
  have zq := h.bf.lt
  obtain ⟨q5, c5, w5, hr, a1, a2, a3, a4, HO⟩ := row_step (j := 0) 9 26 16 (.string ⟨#[]⟩) Try.underlying26 info9 rfl (by decide) (.string (bs x)) rfl hb h.bm (by decide) rfl h.os (by omega) (by omega)
  have O := HO.out
  have hkk : ∀ k, some k = (Value.slice Af i cf).ownBlock → (w5.setCell ⟨w.heap.size + 1 + 1, 0, none⟩ (.slice (some ⟨q5, 0, none⟩) (ns + 1) c5)).heap[k]? = wr.heap[k]? := fun k hk => by
    obtain ⟨b1, b2, cur, b3⟩ := h.fr.blk k hk
    exact (O.blk h.os b3 (by omega) (by decide)).trans b3.symm
  refine ⟨q5, c5, w5, hr, a1, a2, a3, a4, ⟨O.bel _ _ h.bel (by omega) (by omega) (by omega), O.blk h.os h.bd (by omega) (by decide), O.blk h.os h.bz (by omega) (by decide), O.box, O.blk h.os h.bf (by omega) (by decide), ⟨by simp [h.lens.1], h.lens.2⟩, by rw [strV_snoc]; exact O.own, O.row h.os h.bm h.og (by decide) (by decide), h.ogq, O.row h.os h.bm h.ol (by decide) (by decide), O.row h.os h.bm h.ot (by decide) (by decide), h.ne, ?_, h.frq, hq, fun k hk t ht => (World.cell?_of_block (hkk k hk)).trans (h.nob k hk t ht)⟩⟩
  refine h.fr.kept hkk (fun k hk hlt => O.kept k hlt (by omega) hk.1) (fun k hk hlt => ⟨fun e => ?_, hk.2⟩)
  rcases O.fresh k e with e | e
  · exact hk.1 e
  · omega
/-- A local more. -/
theorem MkJ.addLoc (h : MkJ w wr D Z q9 S gl L f0 f1 loc [] As ns cs Ag ng cg Af i cf Al nl cl none 0 0) (hl : nl ≤ 10000) (x : Int) :
    ∃ q5 c5 w5, (Builtin.append_ #[27, 27] 27 #[.slice Al nl cl, .slice (some ⟨wr.heap.size, 0, none⟩) 1 1]).run Try.prog (wr.alloc (.cells #[.int .i64 x] 3)) = .ok (.slice (some ⟨q5, 0, none⟩) (nl + 1) c5) w5 ∧ w5.cell? ⟨q9, 2, none⟩ = some (.slice Al nl cl) ∧ w5.frozen? ⟨q9, 2, none⟩ = false ∧
      Hid (MkJ w (w5.setCell ⟨q9, 2, none⟩ (.slice (some ⟨q5, 0, none⟩) (nl + 1) c5)) D Z q9 S gl L f0 f1 (loc ++ [x]) [] As ns cs Ag ng cg Af i cf (some ⟨q5, 0, none⟩) (nl + 1) c5 none 0 0) := by
  have hq := h.q9
  have zq := h.bf.lt
  obtain ⟨q5, c5, w5, hr, a1, a2, a3, a4, HO⟩ := row_step (j := 2) 3 27 8 (.int .i64 0) Try.underlying27 info3 rfl (by decide) (.int .i64 x) rfl (Below.refl _ wr) h.bf (by decide) rfl h.ol (by omega) (by omega)
  have O := HO.out
  have old : ∀ k, k < q9 → (w5.setCell ⟨q9, 2, none⟩ (.slice (some ⟨q5, 0, none⟩) (nl + 1) c5)).heap[k]? = wr.heap[k]? := fun k hk => O.kept k (by omega) (by omega) (fun e => by have := (h.ol.lt k e.symm).1; omega)
  refine ⟨q5, c5, w5, hr, a3, a4, ⟨O.bel _ _ h.bel (by omega) (by omega) (by omega), (old _ (by omega)).trans h.bd, (old _ (by omega)).trans h.bz, (old _ (by omega)).trans h.bm, O.box, ⟨h.lens.1, h.lens.2.1, h.lens.2.2.1, by simp [h.lens.2.2.2.1], rfl⟩, O.row h.ol h.bf h.os (by decide) (by decide), own_blocks h.og (fun k hk => old k (h.ogq k hk)), h.ogq, by rw [intV_snoc]; exact O.own, ⟨rfl, .inl ⟨rfl, rfl⟩⟩, fun k _ e => by simp [Value.ownBlock] at e, ?_, h.frq, hq, fun k hk t ht => (World.cell?_of_block (old k (h.frq k hk))).trans (h.nob k hk t ht)⟩⟩
  exact h.fr.kept (fun k hk => old k (h.frq k hk)) (fun k hk _ => old k hk.2.2) (fun k hk _ => hk)
/-- A site more. -/
theorem MkJ.addSit (h : MkJ w wr D Z q9 S gl L f0 f1 loc sit As ns cs Ag ng cg Af i cf Al nl cl At nt ct) (hl : nt ≤ 10000) (x : Int) :
    ∃ q5 c5 w5, (Builtin.append_ #[27, 27] 27 #[.slice At nt ct, .slice (some ⟨wr.heap.size, 0, none⟩) 1 1]).run Try.prog (wr.alloc (.cells #[.int .i64 x] 3)) = .ok (.slice (some ⟨q5, 0, none⟩) (nt + 1) c5) w5 ∧ w5.cell? ⟨q9, 3, none⟩ = some (.slice At nt ct) ∧ w5.frozen? ⟨q9, 3, none⟩ = false ∧
      Hid (MkJ w (w5.setCell ⟨q9, 3, none⟩ (.slice (some ⟨q5, 0, none⟩) (nt + 1) c5)) D Z q9 S gl L f0 f1 loc (sit ++ [x]) As ns cs Ag ng cg Af i cf Al nl cl (some ⟨q5, 0, none⟩) (nt + 1) c5) := by
  have hq := h.q9
  have zq := h.bf.lt
  obtain ⟨q5, c5, w5, hr, a1, a2, a3, a4, HO⟩ := row_step (j := 3) 3 27 8 (.int .i64 0) Try.underlying27 info3 rfl (by decide) (.int .i64 x) rfl (Below.refl _ wr) h.bf (by decide) rfl h.ot (by omega) (by omega)
  have O := HO.out
  have old : ∀ k, k < q9 → (w5.setCell ⟨q9, 3, none⟩ (.slice (some ⟨q5, 0, none⟩) (nt + 1) c5)).heap[k]? = wr.heap[k]? := fun k hk => O.kept k (by omega) (by omega) (fun e => by have := (h.ot.lt k e.symm).1; omega)
  have hlb : ∀ k, some k = (Value.slice Al nl cl).ownBlock → k < wr.heap.size ∧ k ≠ q9 := fun k hk => by
    rcases h.ol.2 with ⟨e, _⟩ | ⟨g, cap, cur, e, _, hh, _⟩
    · rw [e] at hk; simp [Value.ownBlock] at hk
    · have e0 : k = g := by rw [e] at hk; simpa [Value.ownBlock] using hk
      subst e0
      exact ⟨heap_ltM hh, fun e0 => by subst e0; exact absurd (h.bf.uniq hh) (by decide)⟩
  refine ⟨q5, c5, w5, hr, a3, a4, ⟨O.bel _ _ h.bel (by omega) (by omega) (by omega), (old _ (by omega)).trans h.bd, (old _ (by omega)).trans h.bz, (old _ (by omega)).trans h.bm, O.box, ⟨h.lens.1, h.lens.2.1, h.lens.2.2.1, h.lens.2.2.2.1, by simp [h.lens.2.2.2.2]⟩, O.row h.ot h.bf h.os (by decide) (by decide), own_blocks h.og (fun k hk => old k (h.ogq k hk)), h.ogq, own_blocks h.ol (fun k hk => O.kept k (hlb k hk).1 (hlb k hk).2 (h.ne k hk)), by rw [intV_snoc]; exact O.own, fun k hk e => ?_, ?_, h.frq, hq, fun k hk t ht => (World.cell?_of_block (old k (h.frq k hk))).trans (h.nob k hk t ht)⟩⟩
  · rcases O.fresh k e with e | e
    · exact h.ne k hk e
    · have := (hlb k hk).1; omega
  · exact h.fr.kept (fun k hk => old k (h.frq k hk)) (fun k hk _ => old k hk.2.2) (fun k hk _ => hk)
end
/-- Between two functions. -/
structure MkI (w wr : World) (D Z : Array Value) (S : List (List UInt8)) (gl : List Int) (L : List Fn) (As : Option Addr) (ns cs : Nat) (Ag : Option Addr) (ng cg : Nat) (Af : Option Addr) (i cf : Nat) : Prop where
  bel : Below w.heap.size w wr
  bd : Blk wr w.heap.size 24 D
  bz : Blk wr (w.heap.size + 1) 30 Z
  bm : Blk wr (w.heap.size + 1 + 1) 30 #[.slice As ns cs, .slice Ag ng cg, .slice Af i cf, .slice none 0 0]
  lens : S.length = ns ∧ gl.length = ng ∧ L.length = i
  os : wr.ownsRow (w.heap.size + 1 + 1 + 1) 9 1 (.slice As ns cs) ns (strV S)
  og : wr.ownsRow (w.heap.size + 1 + 1 + 1) 3 1 (.slice Ag ng cg) ng (intV gl)
  fr : FnRow wr (w.heap.size + 1 + 1 + 1) (fun k => some k ≠ (Value.slice As ns cs).ownBlock ∧ w.heap.size + 1 + 1 + 1 ≤ k) (.slice Af i cf) L
  nob : ∀ k, some k = (Value.slice Af i cf).ownBlock → ∀ t, t < i → wr.cell? ⟨k, t * 5 + 4, none⟩ = some (.slice none 0 0)
section
variable {w wr : World} {D Z : Array Value} {S : List (List UInt8)} {gl : List Int} {L : List Fn} {As : Option Addr} {ns cs : Nat} {Ag : Option Addr} {ng cg : Nat} {Af : Option Addr} {i cf : Nat}
/-- A string more, between two functions. -/
theorem MkI.addStr (h : MkI w wr D Z S gl L As ns cs Ag ng cg Af i cf) (hl : ns ≤ 10000) (x : List UInt8) (w3 : World) (hb : Below wr.heap.size wr w3) :
    ∃ q5 c5 w5, (Builtin.append_ #[26, 26] 26 #[.slice As ns cs, .slice (some ⟨w3.heap.size, 0, none⟩) 1 1]).run Try.prog (w3.alloc (.cells #[.string (bs x)] 9)) = .ok (.slice (some ⟨q5, 0, none⟩) (ns + 1) c5) w5 ∧ w3.cell? ⟨w.heap.size + 1 + 1, 0, none⟩ = some (.slice As ns cs) ∧ w.heap.size + 1 + 1 < w3.heap.size ∧ w5.cell? ⟨w.heap.size + 1 + 1, 0, none⟩ = some (.slice As ns cs) ∧ w5.frozen? ⟨w.heap.size + 1 + 1, 0, none⟩ = false ∧
      Hid (MkI w (w5.setCell ⟨w.heap.size + 1 + 1, 0, none⟩ (.slice (some ⟨q5, 0, none⟩) (ns + 1) c5)) D Z (S ++ [x]) gl L (some ⟨q5, 0, none⟩) (ns + 1) c5 Ag ng cg Af i cf) := by
  have zm := h.bm.lt
  obtain ⟨q5, c5, w5, hr, a1, a2, a3, a4, HO⟩ := row_step (j := 0) 9 26 16 (.string ⟨#[]⟩) Try.underlying26 info9 rfl (by decide) (.string (bs x)) rfl hb h.bm (by decide) rfl h.os (by omega) (by omega)
  have O := HO.out
  have hkk : ∀ k, some k = (Value.slice Af i cf).ownBlock → (w5.setCell ⟨w.heap.size + 1 + 1, 0, none⟩ (.slice (some ⟨q5, 0, none⟩) (ns + 1) c5)).heap[k]? = wr.heap[k]? := fun k hk => by
    obtain ⟨b1, b2, cur, b3⟩ := h.fr.blk k hk
    exact (O.blk h.os b3 (by omega) (by decide)).trans b3.symm
  refine ⟨q5, c5, w5, hr, a1, a2, a3, a4, ⟨O.bel _ _ h.bel (by omega) (by omega) (by omega), O.blk h.os h.bd (by omega) (by decide), O.blk h.os h.bz (by omega) (by decide), O.box, ⟨by simp [h.lens.1], h.lens.2⟩, by rw [strV_snoc]; exact O.own, O.row h.os h.bm h.og (by decide) (by decide), ?_, fun k hk t ht => (World.cell?_of_block (hkk k hk)).trans (h.nob k hk t ht)⟩⟩
  refine h.fr.kept hkk (fun k hk hlt => O.kept k hlt (by omega) hk.1) (fun k hk hlt => ⟨fun e => ?_, hk.2⟩)
  rcases O.fresh k e with e | e
  · exact hk.1 e
  · omega
/-- A function is begun. -/
theorem MkI.begin (h : MkI w wr D Z S gl L As ns cs Ag ng cg Af i cf) (f0 f1 : Int) :
    MkJ w (wr.alloc (.cells #[.int .i64 f0, .int .i64 f1, .slice none 0 0, .slice none 0 0, .slice none 0 0] 40)) D Z wr.heap.size S gl L f0 f1 [] [] As ns cs Ag ng cg Af i cf none 0 0 none 0 0 := by
  have zm := h.bm.lt
  have hb : Below wr.heap.size wr (wr.alloc (.cells #[.int .i64 f0, .int .i64 f1, .slice none 0 0, .slice none 0 0, .slice none 0 0] 40)) := (Below.refl _ _).alloc (Nat.le_refl _) _
  refine ⟨h.bel.alloc h.bel.size _, h.bd.alloc _, h.bz.alloc _, h.bm.alloc _, Blk.new wr 40 _, ⟨h.lens.1, h.lens.2.1, h.lens.2.2, rfl, rfl⟩, h.os.alloc _, h.og.alloc _, fun k hk => (h.og.lt k hk.symm).2, ⟨rfl, .inl ⟨rfl, rfl⟩⟩, ⟨rfl, .inl ⟨rfl, rfl⟩⟩, fun k hk => by simp [Value.ownBlock] at hk, ?_, fun k hk => (h.fr.blk k hk).2.1, by omega, fun k hk t ht => (World.cell?_of_block (hb.block k (h.fr.blk k hk).2.1)).trans (h.nob k hk t ht)⟩
  exact h.fr.kept (fun k hk => hb.block k (h.fr.blk k hk).2.1) (fun k hk hlt => hb.block k hlt) (fun k hk hlt => ⟨hk.1, hk.2, hlt⟩)
/-- A function is done. -/
theorem MkJ.done {q9 : Nat} {f0 f1 : Int} {loc sit : List Int} {Al : Option Addr} {nl cl : Nat} {At : Option Addr} {nt ct : Nat} (h : MkJ w wr D Z q9 S gl L f0 f1 loc sit As ns cs Ag ng cg Af i cf Al nl cl At nt ct) (hl : i ≤ 10000) :
    ∃ q5 c5 w5, (Builtin.append_ #[28, 28] 28 #[.slice Af i cf, .slice (some ⟨wr.heap.size, 0, none⟩) 1 1]).run Try.prog (wr.alloc (.cells #[.int .i64 f0, .int .i64 f1, .slice Al nl cl, .slice At nt ct, .slice none 0 0] 40)) = .ok (.slice (some ⟨q5, 0, none⟩) (i + 1) c5) w5 ∧ w5.cell? ⟨w.heap.size + 1 + 1, 2, none⟩ = some (.slice Af i cf) ∧ w5.frozen? ⟨w.heap.size + 1 + 1, 2, none⟩ = false ∧
      Hid (MkI w (w5.setCell ⟨w.heap.size + 1 + 1, 2, none⟩ (.slice (some ⟨q5, 0, none⟩) (i + 1) c5)) D Z S gl (L ++ [⟨f0, f1, loc, sit, .nil⟩]) As ns cs Ag ng cg (some ⟨q5, 0, none⟩) (i + 1) c5) := by
  have hq := h.q9
  have zq := h.bf.lt
  obtain ⟨hl1, hl2, hl3, hl4, hl5⟩ := h.lens
  have hup : ∀ k, q9 ≤ k → some k ≠ (Value.slice Af i cf).ownBlock := fun k hk e => by have := h.frq k e; omega
  have hne : ∀ (v : Value) (n : Nat) (l : List Int), wr.ownsRow q9 3 1 v n (intV l) → ∀ k, some k = v.ownBlock → some k ≠ (Value.slice As ns cs).ownBlock := fun v n l ho k hk e => by
    rcases ho.2 with ⟨e0, _⟩ | ⟨g, cap, cur, e0, _, hh, _⟩
    · rw [e0] at hk; simp [Value.ownBlock] at hk
    · have e1 : k = g := by rw [e0] at hk; simpa [Value.ownBlock] using hk
      subst e1
      exact own_ne h.os (show Blk wr k 3 cur from hh) (by decide) e
  have rd : ∀ (A : Option Addr) (n c : Nat) (l : List Int), wr.ownsRow q9 3 1 (.slice A n c) n (intV l) → RdS (fun k => some k ≠ (Value.slice Af i cf).ownBlock ∧ some k ≠ (Value.slice As ns cs).ownBlock ∧ w.heap.size + 1 + 1 + 1 ≤ k) wr A n 1 (intV l) := fun A n c l ho => by
    have h0 := RdS.own ho
    refine ⟨h0.1, fun hp => ?_⟩
    obtain ⟨b, o, hA, hb, hc⟩ := h0.2 hp
    refine ⟨b, o, hA, ⟨hup b hb, ?_, by omega⟩, hc⟩
    rcases ho.2 with ⟨_, e0⟩ | ⟨g, cap, cur, e0, _, _⟩
    · omega
    · have e1 : A = some ⟨g, 0, none⟩ := by injection e0
      have e2 : b = g := by rw [e1] at hA; injection hA with hA; injection hA with hA _; exact hA.symm
      exact hne _ n l ho b (by rw [e1, e2]; rfl)
  have hF : FnRow wr (w.heap.size + 1 + 1 + 1) (fun k => some k ≠ (Value.slice As ns cs).ownBlock ∧ w.heap.size + 1 + 1 + 1 ≤ k) (.slice Af i cf) L := h.fr.kept (fun _ _ => rfl) (fun _ _ _ => rfl) (fun k hk _ => ⟨hk.1, hk.2.1⟩)
  obtain ⟨q5, c5, w5, hr, hat, hg, hF5, hcl, hcz⟩ := FnRow.push hF (by omega) (by omega) ⟨f0, f1, loc, sit, .nil⟩ Al At none cl ct 0 ⟨Al, cl, At, ct, none, 0, rfl, by simp only; rw [hl4]; exact rd _ _ _ _ h.ol, by simp only; rw [hl5]; exact rd _ _ _ _ h.ot, noBody _ _ _⟩
  simp only [hl3, hl4, hl5, Bd.len] at hr hF5 hg hcl hcz
  have keep : ∀ k, k < wr.heap.size → some k ≠ (Value.slice Af i cf).ownBlock → w5.heap[k]? = wr.heap[k]? := fun k hk hne => by rw [hg.block k (by simp; omega) hne, heap_alloc_old _ _ hk]
  have kb : ∀ {k t : Nat} {ds : Array Value}, Blk wr k t ds → t ≠ 40 → Blk w5 k t ds := fun {k t ds} hb ht => (keep k hb.lt (fun e => by obtain ⟨_, _, cur, b3⟩ := h.fr.blk k e; exact ht (hb.uniq b3))).trans hb
  have km := kb h.bm (by decide)
  have sz := hg.size
  have ko : ∀ {B2 e2 n2 : Nat} {v2 : Value} {zs : List Value}, wr.ownsRow B2 e2 1 v2 n2 zs → e2 ≠ 40 → e2 ≠ 30 → (w5.setCell ⟨w.heap.size + 1 + 1, 2, none⟩ (.slice (some ⟨q5, 0, none⟩) (i + 1) c5)).ownsRow B2 e2 1 v2 n2 zs := fun {B2 e2 n2 v2 zs} ho h35 h32 => own_blocks ho (fun k hk => by
    rcases ho.2 with ⟨rfl, _⟩ | ⟨g, cap, cur, rfl, _, hh, _⟩
    · simp [Value.ownBlock] at hk
    · have e1 : k = g := by simpa [Value.ownBlock] using hk
      subst e1
      have hb5 : Blk w5 k e2 cur := kb (show Blk wr k e2 cur from hh) h35
      rw [Below.heap_setCell w5 ⟨w.heap.size + 1 + 1, 2, none⟩ _ k (fun e => by have e' : k = w.heap.size + 1 + 1 := e; subst e'; exact h32 (hb5.uniq km))]
      exact hb5.trans hh.symm)
  refine ⟨q5, c5, w5, hr, km.cell 2, km.frozen 2, ⟨?_, (kb h.bd (by decide)).far (by show _ ≠ w.heap.size + 1 + 1; omega) _, (kb h.bz (by decide)).far (by show _ ≠ w.heap.size + 1 + 1; omega) _, km.set_ 2 _, ⟨hl1, hl2, by simp [hl3]⟩, ko h.os (by decide) (by decide), ko h.og (by decide) (by decide), ?_, fun k hk t ht => ?_⟩⟩
  · refine Below.set1 ((h.bel.alloc h.bel.size _).grown hg (by have := h.bel.size; simp; omega) (fun k hk => ?_)) (by omega) _
    have := (h.fr.blk k hk.symm).1; omega
  · refine hF5.kept (fun k hk => Below.heap_setCell w5 ⟨w.heap.size + 1 + 1, 2, none⟩ _ k (fun e => ?_)) (fun k hk _ => Below.heap_setCell w5 ⟨w.heap.size + 1 + 1, 2, none⟩ _ k (fun e => ?_)) (fun k hk _ => hk)
    · obtain ⟨_, _, cur, b3⟩ := hF5.blk k hk
      have e' : k = w.heap.size + 1 + 1 := e
      subst e'
      exact absurd (b3.uniq km) (by decide)
    · have e' : k = w.heap.size + 1 + 1 := e
      omega
  · have e0 : k = q5 := by simpa [Value.ownBlock] using hk
    subst e0
    have e1 : (w5.setCell ⟨w.heap.size + 1 + 1, 2, none⟩ (.slice (some ⟨k, 0, none⟩) (i + 1) c5)).heap[k]? = w5.heap[k]? := Below.heap_setCell w5 ⟨w.heap.size + 1 + 1, 2, none⟩ _ k (fun e => by
      obtain ⟨_, _, cur, b3⟩ := hF5.blk k hk
      have e' : k = w.heap.size + 1 + 1 := e
      subst e'
      exact absurd (b3.uniq km) (by decide))
    rw [World.cell?_of_block (a := ⟨k, t * 5 + 4, none⟩) e1]
    rcases Nat.lt_or_ge t i with hti | hti
    · obtain ⟨css, h1, _, _⟩ := h.fr.own
      rcases h1.2 with ⟨_, h0⟩ | ⟨g, cap, cur, e, _⟩
      · omega
      · have hk2 : some g = (Value.slice Af i cf).ownBlock := by rw [e]; rfl
        rw [hcl g hk2 (t * 5 + 4) (by omega)]
        exact h.nob g hk2 t hti
    · obtain rfl : t = i := by omega
      exact hcz
end
end Go.Proofs.Ytpdebnecfknohaa
namespace Go.Proofs.Ytpdebnecfknohaa
open Go.RowKit
set_option linter.unusedVariables false
set_option maxRecDepth 20000
/-- While the entries are gathered: B3 is how many blocks there were. -/
structure MkE (w wr : World) (D Z : Array Value) (B3 : Nat) (S : List (List UInt8)) (gl : List Int) (L : List Fn) (En : List Int) (As : Option Addr) (ns cs : Nat) (Ag : Option Addr) (ng cg : Nat) (Af : Option Addr) (i cf : Nat) (Ae : Option Addr) (ne ce : Nat) : Prop where
  bel : Below w.heap.size w wr
  bd : Blk wr w.heap.size 24 D
  bz : Blk wr (w.heap.size + 1) 30 Z
  bm : Blk wr (w.heap.size + 1 + 1) 30 #[.slice As ns cs, .slice Ag ng cg, .slice Af i cf, .slice Ae ne ce]
  lens : S.length = ns ∧ gl.length = ng ∧ L.length = i ∧ En.length = ne
  os : wr.ownsRow (w.heap.size + 1 + 1 + 1) 9 1 (.slice As ns cs) ns (strV S)
  og : wr.ownsRow (w.heap.size + 1 + 1 + 1) 3 1 (.slice Ag ng cg) ng (intV gl)
  ogq : ∀ k, some k = (Value.slice Ag ng cg).ownBlock → k < B3
  oe : wr.ownsRow B3 3 1 (.slice Ae ne ce) ne (intV En)
  fr : FnRow wr (w.heap.size + 1 + 1 + 1) (fun k => some k ≠ (Value.slice As ns cs).ownBlock ∧ w.heap.size + 1 + 1 + 1 ≤ k ∧ k < B3) (.slice Af i cf) L
  frq : ∀ k, some k = (Value.slice Af i cf).ownBlock → k < B3
  nob : ∀ k, some k = (Value.slice Af i cf).ownBlock → ∀ t, t < i → wr.cell? ⟨k, t * 5 + 4, none⟩ = some (.slice none 0 0)
  b3 : w.heap.size + 1 + 1 + 1 ≤ B3 ∧ B3 ≤ wr.heap.size
section
variable {w wr : World} {D Z : Array Value} {B3 : Nat} {S : List (List UInt8)} {gl : List Int} {L : List Fn} {En : List Int} {As : Option Addr} {ns cs : Nat} {Ag : Option Addr} {ng cg : Nat} {Af : Option Addr} {i cf : Nat} {Ae : Option Addr} {ne ce : Nat}
theorem MkI.ents (h : MkI w wr D Z S gl L As ns cs Ag ng cg Af i cf) : MkE w wr D Z wr.heap.size S gl L [] As ns cs Ag ng cg Af i cf none 0 0 := by
  have zm := h.bm.lt
  refine ⟨h.bel, h.bd, h.bz, h.bm, ⟨h.lens.1, h.lens.2.1, h.lens.2.2, rfl⟩, h.os, h.og, fun k hk => (h.og.lt k hk.symm).2, ⟨rfl, .inl ⟨rfl, rfl⟩⟩, ?_, fun k hk => (h.fr.blk k hk).2.1, h.nob, by omega, Nat.le_refl _⟩
  exact h.fr.kept (fun _ _ => rfl) (fun _ _ _ => rfl) (fun k hk hlt => ⟨hk.1, hk.2, hlt⟩)
/-- An entry more. -/
theorem MkE.addEnt (h : MkE w wr D Z B3 S gl L En As ns cs Ag ng cg Af i cf Ae ne ce) (hl : ne ≤ 10000) (x : Int) :
    ∃ q5 c5 w5, (Builtin.append_ #[27, 27] 27 #[.slice Ae ne ce, .slice (some ⟨wr.heap.size, 0, none⟩) 1 1]).run Try.prog (wr.alloc (.cells #[.int .i64 x] 3)) = .ok (.slice (some ⟨q5, 0, none⟩) (ne + 1) c5) w5 ∧ w5.cell? ⟨w.heap.size + 1 + 1, 3, none⟩ = some (.slice Ae ne ce) ∧ w5.frozen? ⟨w.heap.size + 1 + 1, 3, none⟩ = false ∧
      Hid (MkE w (w5.setCell ⟨w.heap.size + 1 + 1, 3, none⟩ (.slice (some ⟨q5, 0, none⟩) (ne + 1) c5)) D Z B3 S gl L (En ++ [x]) As ns cs Ag ng cg Af i cf (some ⟨q5, 0, none⟩) (ne + 1) c5) := by
  obtain ⟨hb1, hb2⟩ := h.b3
  have zm := h.bm.lt
  obtain ⟨q5, c5, w5, hr, a1, a2, a3, a4, HO⟩ := row_step (j := 3) 3 27 8 (.int .i64 0) Try.underlying27 info3 rfl (by decide) (.int .i64 x) rfl (Below.refl _ wr) h.bm (by decide) rfl h.oe (by omega) (by omega)
  have O := HO.out
  have old : ∀ k, k < B3 → k ≠ w.heap.size + 1 + 1 → (w5.setCell ⟨w.heap.size + 1 + 1, 3, none⟩ (.slice (some ⟨q5, 0, none⟩) (ne + 1) c5)).heap[k]? = wr.heap[k]? := fun k hk hne => O.kept k (by omega) hne (fun e => by have := (h.oe.lt k e.symm).1; omega)
  have hkk : ∀ k, some k = (Value.slice Af i cf).ownBlock → (w5.setCell ⟨w.heap.size + 1 + 1, 3, none⟩ (.slice (some ⟨q5, 0, none⟩) (ne + 1) c5)).heap[k]? = wr.heap[k]? := fun k hk => old k (h.frq k hk) (by have := (h.fr.blk k hk).1; omega)
  have hsz := O.size
  refine ⟨q5, c5, w5, hr, a3, a4, ⟨O.bel _ _ h.bel (by omega) (by omega) (by omega), (old _ (by omega) (by omega)).trans h.bd, (old _ (by omega) (by omega)).trans h.bz, O.box, ⟨h.lens.1, h.lens.2.1, h.lens.2.2.1, by simp [h.lens.2.2.2]⟩, O.row h.oe h.bm h.os (by decide) (by decide), own_blocks h.og (fun k hk => old k (h.ogq k hk) (by have := (h.og.lt k hk.symm).1; omega)), h.ogq, by rw [intV_snoc]; exact O.own, ?_, h.frq, fun k hk t ht => (World.cell?_of_block (hkk k hk)).trans (h.nob k hk t ht), hb1, by omega⟩⟩
  exact h.fr.kept hkk (fun k hk _ => old k hk.2.2 (by have := hk.2.1; omega)) (fun k hk _ => hk)
end
/-- Statements in a row: the cells of one, as it lies. -/
def StS (X : Nat → Prop) (w : World) (cs : List Value) (s : St7) : Prop := ∃ va A c, cs = [.int .u8 s.k, .int .u8 s.a.1, .int .i64 s.a.2, .int .u8 s.b.1, .int .i64 s.b.2, va, .slice A s.sub.len c] ∧ ArgsS X w va s.xs ∧ BodyS X w A s.sub
theorem StS.kept {S S' : Nat → Prop} {w w' : World} {cs : List Value} {s : St7} (h : StS S w cs s) (hk : Kept S w w') (hS : ∀ k, S k → k < w.heap.size → S' k) : StS S' w' cs s := by
  obtain ⟨va, A, c, h1, h2, h3⟩ := h
  exact ⟨va, A, c, h1, h2.kept hk hS, h3.kept hk hS⟩
/-- A body of these. -/
def bdOf : List St7 → Bd
  | [] => .nil
  | s :: l => s.ahead (bdOf l)
theorem bdOf_len : ∀ l : List St7, (bdOf l).len = l.length
  | [] => rfl
  | s :: l => by simp [bdOf, St7.ahead, Bd.len, bdOf_len l]
/-- A row of statements of the call's own, whose parts lie in blocks of the kind X. -/
structure BdRow (w : World) (base : Nat) (X : Nat → Prop) (v : Value) (T : List St7) : Prop where
  own : ∃ css : List (List Value), w.ownsRow base 50 7 v T.length css.flatten ∧ css.length = T.length ∧ ∀ i (h : i < T.length), ∃ cs, css[i]? = some cs ∧ StS X w cs T[i]
theorem BdRow.nil (w : World) (base : Nat) (X : Nat → Prop) : BdRow w base X (.slice none 0 0) [] := ⟨[], ⟨rfl, .inl ⟨rfl, rfl⟩⟩, rfl, fun i h => by simp at h⟩
theorem BdRow.kept {w w' : World} {base : Nat} {X X' : Nat → Prop} {v : Value} {T : List St7} (h : BdRow w base X v T) (hv : ∀ k, some k = v.ownBlock → w'.heap[k]? = w.heap[k]?) (hk : Kept X w w') (hX : ∀ k, X k → k < w.heap.size → X' k) : BdRow w' base X' v T := by
  obtain ⟨css, h1, h2, h3⟩ := h.own
  refine ⟨css, own_blocks h1 hv, h2, fun i hi => ?_⟩
  obtain ⟨cs, e, hf⟩ := h3 i hi
  exact ⟨cs, e, hf.kept hk hX⟩
theorem BdRow.blk {w : World} {base : Nat} {X : Nat → Prop} {v : Value} {T : List St7} (h : BdRow w base X v T) : ∀ k, some k = v.ownBlock → base ≤ k ∧ k < w.heap.size ∧ ∃ cur, Blk w k 50 cur := fun k hk => by
  obtain ⟨css, h1, _, _⟩ := h.own
  rcases h1.2 with ⟨rfl, _⟩ | ⟨q, cap, cur, rfl, hq, hh, _⟩
  · simp [Value.ownBlock] at hk
  · have : k = q := by simpa [Value.ownBlock] using hk
    subst this
    exact ⟨hq, heap_ltM hh, cur, hh⟩
/-- It reads as a body. -/
theorem bdS_row {S : Nat → Prop} {w : World} {b : Nat} (hb : S b) : ∀ (T : List St7) (css : List (List Value)) (o : Nat), (∀ i (h : i < T.length), ∃ cs, css[i]? = some cs ∧ StS S w cs T[i]) → (∀ j u, css.flatten[j]? = some u → w.cell? ⟨b, o + j, none⟩ = some u) → BdS S w b o (bdOf T)
  | [], _, _, _, _ => trivial
  | s :: T, [], _, h, _ => by obtain ⟨cs, e, _⟩ := h 0 (by simp); simp at e
  | s :: T, c :: css, o, h, hc => by
    have h00 := h 0 (by simp)
    simp only [List.getElem_cons_zero] at h00
    obtain ⟨cs, e, va, A, cc, hcs, h1, h2⟩ := h00
    have e : c = cs := by simpa using e
    subst e
    subst hcs
    have g : ∀ j u, ([.int .u8 s.k, .int .u8 s.a.1, .int .i64 s.a.2, .int .u8 s.b.1, .int .i64 s.b.2, va, .slice A s.sub.len cc] : List Value)[j]? = some u → w.cell? ⟨b, o + j, none⟩ = some u := fun j u hj => hc j u (by
      rw [List.flatten_cons, List.getElem?_append_left ((List.getElem?_eq_some_iff.1 hj).1)]; exact hj)
    refine ⟨hb, ⟨g 0 _ rfl, g 1 _ rfl, g 2 _ rfl, g 3 _ rfl, g 4 _ rfl⟩, ⟨va, g 5 _ rfl, h1⟩, ⟨A, cc, g 6 _ rfl, h2⟩, ?_⟩
    refine bdS_row hb T css (o + 7) (fun i hi => ?_) (fun j u hj => ?_)
    · obtain ⟨cs, e, hs⟩ := h (i + 1) (by simpa using hi)
      exact ⟨cs, by simpa using e, by simpa using hs⟩
    · rw [Nat.add_assoc, Nat.add_comm 7 j, ← Nat.add_assoc]
      exact hc (j + 7) u (by rw [List.flatten_cons, List.getElem?_append_right (by simp)]; simpa using hj)
theorem BdRow.body {w : World} {base : Nat} {X S : Nat → Prop} {A : Option Addr} {n c : Nat} {T : List St7} (h : BdRow w base X (.slice A n c) T) (hX : ∀ k, X k → k < w.heap.size → S k) (hS : ∀ k, some k = (Value.slice A n c).ownBlock → S k) : BodyS S w A (bdOf T) ∧ n = (bdOf T).len := by
  obtain ⟨css, h1, h2, h3⟩ := h.own
  rw [bdOf_len]
  rcases h1.2 with ⟨e, h0⟩ | ⟨q, cap, cur, e, hq, hh, hc⟩
  · injection e with e1 e2 e3
    refine ⟨fun hp => ?_, by omega⟩
    rw [bdOf_len] at hp
    omega
  · injection e with e1 e2 e3
    subst e1; subst e2; subst e3
    refine ⟨fun hp => ⟨q, 0, rfl, bdS_row (hS q rfl) T css 0 (fun i hi => ?_) (fun j u hj => ?_)⟩, rfl⟩
    · obtain ⟨cs, e, hs⟩ := h3 i hi
      exact ⟨cs, e, hs.kept (fun _ _ _ => rfl) hX⟩
    · have := h1.cells (g := q) rfl j u hj
      rwa [Go.WideShapes.add_plain] at this
end Go.Proofs.Ytpdebnecfknohaa
namespace Go.Proofs.Ytpdebnecfknohaa
open Go.RowKit
set_option linter.unusedVariables false
set_option maxRecDepth 20000
/-- While the statements are made: W1 is the world ahead, g the functions' row. -/
structure MkA (w W1 wr : World) (g n : Nat) (Vs : List Value) (Ts : List (List St7)) : Prop where
  bel : Below w.heap.size w wr
  size : W1.heap.size ≤ wr.heap.size
  keep : ∀ k, k < W1.heap.size → k ≠ g → wr.heap[k]? = W1.heap[k]?
  gin : w.heap.size ≤ g ∧ g < W1.heap.size
  row : ∃ cur0 cur, Blk W1 g 40 cur0 ∧ Blk wr g 40 cur ∧ n * 5 ≤ cur.size ∧ ∀ i, i < n → cur[i * 5 + 4]? = Vs[i]? ∧ ∀ t, t < 4 → cur[i * 5 + t]? = cur0[i * 5 + t]?
  lens : Vs.length = n ∧ Ts.length = n
  bodies : ∀ (i : Nat) (v : Value) (T : List St7), Vs[i]? = some v → Ts[i]? = some T → BdRow wr W1.heap.size (fun k => W1.heap.size ≤ k ∧ ∀ u ∈ Vs, some k ≠ u.ownBlock) v T
  apart : ∀ (i j : Nat) (v u : Value), i ≠ j → Vs[i]? = some v → Vs[j]? = some u → ∀ k, some k = v.ownBlock → some k ≠ u.ownBlock
section
variable {w W1 wr : World} {g n : Nat} {Vs : List Value} {Ts : List (List St7)}
theorem MkA.blk (h : MkA w W1 wr g n Vs Ts) {i : Nat} {v : Value} (hv : Vs[i]? = some v) : ∀ k, some k = v.ownBlock → W1.heap.size ≤ k ∧ k < wr.heap.size := fun k hk => by
  have hi : i < Ts.length := by have := (List.getElem?_eq_some_iff.1 hv).1; rw [h.lens.2]; rw [h.lens.1] at this; exact this
  obtain ⟨a, b, _⟩ := (h.bodies i v _ hv (List.getElem?_eq_getElem hi)).blk k hk
  exact ⟨a, b⟩
theorem MkA.core (h : MkA w W1 wr g n Vs Ts) {j : Nat} (hj : j < n) {v : Value} {T : List St7} (hv : Vs[j]? = some v) (hT : Ts[j]? = some T) {wA wf : World} {q5 c5 : Nat} (s : St7) (cs : List Value)
    (hbA : Below wr.heap.size wr wA) (hq : some q5 = v.ownBlock ∨ wA.heap.size ≤ q5) (hsz : wA.heap.size ≤ wf.heap.size) (hwf : Below w.heap.size w wf)
    (hkeep : ∀ k, k < wA.heap.size → k ≠ g → some k ≠ v.ownBlock → wf.heap[k]? = wA.heap[k]?)
    (hg : ∀ cur, Blk wA g 40 cur → Blk wf g 40 (cur.setIfInBounds (j * 5 + 4) (.slice (some ⟨q5, 0, none⟩) (T.length + 1) c5)))
    (css : List (List Value)) (h2 : css.length = T.length) (h3 : ∀ i (h : i < T.length), ∃ cs, css[i]? = some cs ∧ StS (fun k => W1.heap.size ≤ k ∧ ∀ u ∈ Vs, some k ≠ u.ownBlock) wr cs T[i])
    (hown : wf.ownsRow W1.heap.size 50 7 (.slice (some ⟨q5, 0, none⟩) (T.length + 1) c5) (T.length + 1) (css.flatten ++ cs))
    (hs : StS (fun k => wr.heap.size ≤ k) wA cs s) :
    MkA w W1 wf g n (Vs.set j (.slice (some ⟨q5, 0, none⟩) (T.length + 1) c5)) (Ts.set j (T ++ [s])) := by
  obtain ⟨hl1, hl2⟩ := h.lens
  have hs1 := hbA.size
  have hs0 := h.size
  have hgi := h.gin
  have hvb := h.blk hv
  have hmem : ∀ u ∈ Vs, ∀ k, some k = u.ownBlock → W1.heap.size ≤ k ∧ k < wr.heap.size := fun u hu k hk => by
    obtain ⟨i, hi, e⟩ := List.mem_iff_getElem.1 hu
    exact h.blk (i := i) (by rw [List.getElem?_eq_getElem hi, e]) k hk
  have kq : ∀ k, k < wr.heap.size → k ≠ g → some k ≠ v.ownBlock → wf.heap[k]? = wr.heap[k]? := fun k h1 h2 h3 => (hkeep k (by omega) h2 h3).trans (hbA.block k h1)
  have hX : ∀ k, (W1.heap.size ≤ k ∧ ∀ u ∈ Vs, some k ≠ u.ownBlock) → k < wr.heap.size → (W1.heap.size ≤ k ∧ ∀ u ∈ Vs.set j (.slice (some ⟨q5, 0, none⟩) (T.length + 1) c5), some k ≠ u.ownBlock) := fun k hk hlt => by
    refine ⟨hk.1, fun u hu => ?_⟩
    rcases List.mem_or_eq_of_mem_set hu with hu | rfl
    · exact hk.2 u hu
    · intro e
      have e : k = q5 := by simpa [Value.ownBlock] using e
      subst e
      rcases hq with hq | hq
      · exact hk.2 v (List.mem_of_getElem? hv) hq
      · omega
  have hXk : Kept (fun k => W1.heap.size ≤ k ∧ ∀ u ∈ Vs, some k ≠ u.ownBlock) wr wf := fun k hk hlt => kq k hlt (by have := hk.1; omega) (hk.2 v (List.mem_of_getElem? hv))
  refine ⟨hwf, by omega, fun k hk hkg => ?_, hgi, ?_, ⟨by simp [hl1], by simp [hl2]⟩, fun i u T' hu hT' => ?_, fun i i' u u' hne hu hu' k hk => ?_⟩
  · rw [kq k (by omega) hkg (fun e => by have := hvb k e; omega)]
    exact h.keep k hk hkg
  · obtain ⟨cur0, cur, b0, b1, hcs, hc⟩ := h.row
    refine ⟨cur0, _, b0, hg cur (b1.old hbA), by simpa using hcs, fun i hi => ?_⟩
    obtain ⟨c1, c2⟩ := hc i hi
    refine ⟨?_, fun t ht => ?_⟩
    · by_cases hij : i = j
      · subst hij
        rw [Array.getElem?_setIfInBounds_self_of_lt (by omega), List.getElem?_set_self (by omega)]
      · rw [Array.getElem?_setIfInBounds_ne (by omega), List.getElem?_set_ne (by omega)]
        exact c1
    · rw [Array.getElem?_setIfInBounds_ne (by omega)]
      exact c2 t ht
  · by_cases hij : i = j
    · subst hij
      rw [List.getElem?_set_self (by omega)] at hu hT'
      injection hu with hu
      injection hT' with hT'
      subst hu; subst hT'
      refine ⟨css ++ [cs], ?_, by simp [h2], fun i' hi' => ?_⟩
      · rw [List.flatten_append]
        simpa using hown
      · by_cases hlt : i' < T.length
        · obtain ⟨c', e, hf⟩ := h3 i' hlt
          refine ⟨c', by rw [List.getElem?_append_left (by omega)]; exact e, ?_⟩
          rw [List.getElem_append_left hlt]
          exact hf.kept hXk hX
        · obtain rfl : i' = T.length := by simp at hi'; omega
          refine ⟨cs, by rw [List.getElem?_append_right (by omega), h2, Nat.sub_self]; rfl, ?_⟩
          rw [List.getElem_append_right (Nat.le_refl _)]
          simp only [Nat.sub_self, List.getElem_cons_zero]
          refine hs.kept (fun k hk hlt => hkeep k hlt (by omega) (fun e => by have := hvb k e; omega)) (fun k hk hlt => ⟨by omega, fun u hu e => ?_⟩)
          rcases List.mem_or_eq_of_mem_set hu with hu | rfl
          · have := hmem u hu k e; omega
          · have e : k = q5 := by simpa [Value.ownBlock] using e
            subst e
            rcases hq with hq | hq
            · have := hvb k hq; omega
            · omega
    · rw [List.getElem?_set_ne (by omega)] at hu hT'
      refine (h.bodies i u T' hu hT').kept (fun k hk => ?_) hXk hX
      have := h.blk hu k hk
      exact kq k this.2 (by omega) (h.apart i j u v hij hu hv k hk)
  · have hnew : ∀ (i2 : Nat) (u2 : Value), i2 ≠ j → Vs[i2]? = some u2 → ∀ k2, some k2 = (Value.slice (some ⟨q5, 0, none⟩) (T.length + 1) c5).ownBlock → some k2 ≠ u2.ownBlock := fun i2 u2 hn2 hu2 k2 hk2 e2 => by
      have hk3 : q5 = k2 := by have : k2 = q5 := by simpa [Value.ownBlock] using hk2
                               exact this.symm
      subst hk3
      rcases hq with hq | hq
      · exact h.apart j i2 v u2 (fun e => hn2 e.symm) hv hu2 q5 hq e2
      · have := h.blk hu2 q5 e2; omega
    by_cases hij : i = j
    · subst hij
      rw [List.getElem?_set_self (by omega)] at hu
      injection hu with hu
      subst hu
      rw [List.getElem?_set_ne hne] at hu'
      exact hnew i' u' (fun e => hne e.symm) hu' k hk
    · rw [List.getElem?_set_ne (by omega)] at hu
      by_cases hij' : i' = j
      · subst hij'
        rw [List.getElem?_set_self (by omega)] at hu'
        injection hu' with hu'
        subst hu'
        intro e
        exact hnew i u hij hu k e hk
      · rw [List.getElem?_set_ne (by omega)] at hu'
        exact h.apart i i' u u' hne hu hu' k hk
end
/-- A statement more. -/
theorem push46 (base : Nat) (v : Value) (n : Nat) (xs us : List Value) (w : World) (h : w.ownsRow base 50 7 v n xs) (hl : n ≤ 100000) (hb : base ≤ w.heap.size) (z : Nat) (hlen : us.length = 7) (hone : ∀ u ∈ us, u.oneCell' = true) (hz : ∀ j u, us[j]? = some u → w.cell? ⟨z, j, none⟩ = some u) :
    ∃ q c w', (Builtin.append_ #[38, 38] 38 #[v, .slice (some ⟨z, 0, none⟩) 1 1]).run Try.prog w = .ok (.slice (some ⟨q, 0, none⟩) (n + 1) c) w' ∧ w'.ownsRow base 50 7 (.slice (some ⟨q, 0, none⟩) (n + 1) c) (n + 1) (xs ++ us) ∧ w.grownBy w' v.ownBlock ∧ (some q = v.ownBlock ∨ q = w.heap.size) := by
  obtain ⟨i0, hi0, hz0, hz1, hz2⟩ := info_parts info50
  obtain ⟨v5, w5, hr5, hO5, hg5, _, hat⟩ := run_append_own_at (P := Try.prog) w base 38 38 50 i0 (.agg #[.int .u8 0, .int .u8 0, .int .i64 0, .int .u8 0, .int .i64 0, .slice none 0 0, .slice none 0 0]) 7 88 Try.underlying38 hi0 hz0 hz1 hz2 rfl (by decide) v n _ h ⟨z, 0, none⟩ 1 1 us (by omega) (fun j u hj => by rw [Go.WideShapes.add_plain, Nat.zero_add]; exact hz j u hj) hone (by unfold maxLen; omega) (by omega) hb
  obtain ⟨q5, c5, rfl⟩ : ∃ q5 c5, v5 = .slice (some ⟨q5, 0, none⟩) (n + 1) c5 := by
    rcases hO5.2 with ⟨_, h1⟩ | ⟨k, cap, cur, hv, _⟩
    · omega
    · exact ⟨k, cap, hv⟩
  refine ⟨q5, c5, w5, hr5, hO5, hg5, ?_⟩
  rcases hat with h | h
  · exact .inl h
  · refine .inr ?_
    have : some q5 = some w.heap.size := h
    injection this
theorem flat_get (m : Nat) : ∀ (css : List (List Value)) (i : Nat) (c : List Value) (t : Nat), (∀ c ∈ css, c.length = m) → css[i]? = some c → t < m → css.flatten[i * m + t]? = c[t]?
  | [], i, c, t, _, h, _ => by simp at h
  | d :: css, 0, c, t, hm, h, ht => by
    have e : d = c := by simpa using h
    subst e
    rw [List.flatten_cons, Nat.zero_mul, Nat.zero_add, List.getElem?_append_left (by rw [hm d (by simp)]; exact ht)]
  | d :: css, i + 1, c, t, hm, h, ht => by
    have h' : css[i]? = some c := by simpa using h
    have hd := hm d (by simp)
    rw [List.flatten_cons, List.getElem?_append_right (by rw [hd, Nat.succ_mul]; omega), hd, show (i + 1) * m + t - m = i * m + t from by rw [Nat.succ_mul]; omega]
    exact flat_get m css i c t (fun c hc => hm c (by simp [hc])) h' ht
section
variable {w W1 wr : World} {g n : Nat} {Vs : List Value} {Ts : List (List St7)}
/-- A function, while the statements are made. -/
theorem MkA.fn (h : MkA w W1 wr g n Vs Ts) {base cf : Nat} {X : Nat → Prop} {L : List Fn} (hF : FnRow W1 base X (.slice (some ⟨g, 0, none⟩) n cf) L) (hL : L.length = n) (i : Nat) (hi : i < L.length) :
    ∃ Al cl At ct v, Vs[i]? = some v ∧ (wr.cell? ⟨g, i * 5, none⟩ = some (.int .i64 L[i].name) ∧ wr.cell? ⟨g, i * 5 + 1, none⟩ = some (.int .i64 L[i].params) ∧ wr.cell? ⟨g, i * 5 + 2, none⟩ = some (.slice Al L[i].locals.length cl) ∧ wr.cell? ⟨g, i * 5 + 3, none⟩ = some (.slice At L[i].sites.length ct) ∧ wr.cell? ⟨g, i * 5 + 4, none⟩ = some v) ∧ RdS (fun k => k ≠ g ∧ X k) W1 Al L[i].locals.length 1 (intV L[i].locals) ∧ RdS (fun k => k ≠ g ∧ X k) W1 At L[i].sites.length 1 (intV L[i].sites) := by
  obtain ⟨css, h1, h2, h3⟩ := hF.own
  obtain ⟨cur0, cur, b0, b1, hcs, hc⟩ := h.row
  have hall : ∀ c ∈ css, c.length = 5 := fun c hc => by
    obtain ⟨k, hk, e⟩ := List.mem_iff_getElem.1 hc
    obtain ⟨cs, e2, Al, cl, As, cs', Ab, cb, e3, _⟩ := h3 k (by omega)
    rw [List.getElem?_eq_getElem hk, e] at e2
    injection e2 with e2
    rw [e2, e3]; rfl
  obtain ⟨cs, e, Al, cl, At, ct, Ab, cb, hcs', r1, r2, _⟩ := h3 i hi
  have hin : i < n := by omega
  obtain ⟨c1, c2⟩ := hc i hin
  have hv : i < Vs.length := by rw [h.lens.1]; exact hin
  have get : ∀ t, t < 4 → wr.cell? ⟨g, i * 5 + t, none⟩ = cs[t]? := fun t ht => by
    rw [b1.cell, c2 t ht, ← b0.cell, ← flat_get 5 css i cs t hall e (by omega)]
    rw [hL] at h1
    exact h1.cellAt _ (by omega)
  have w1 : ∀ {A : Option Addr} {m : Nat} {xs : List Value}, RdS (fun k => some k ≠ (Value.slice (some ⟨g, 0, none⟩) n cf).ownBlock ∧ X k) W1 A m 1 xs → RdS (fun k => k ≠ g ∧ X k) W1 A m 1 xs := fun hr => hr.below (fun k hk => ⟨fun e => hk.1 (by rw [e]; rfl), hk.2⟩)
  subst hcs'
  refine ⟨Al, cl, At, ct, Vs[i], List.getElem?_eq_getElem hv, ⟨get 0 (by omega), get 1 (by omega), get 2 (by omega), get 3 (by omega), ?_⟩, w1 r1, w1 r2⟩
  rw [b1.cell, c1, List.getElem?_eq_getElem hv]
theorem MkA.push42 (h : MkA w W1 wr g n Vs Ts) {j o nb : Nat} (hj : j < n) (ho : o = j * 5 + 4) {v : Value} {T : List St7} (hv : Vs[j]? = some v) (hT : Ts[j]? = some T) (hnb : T.length = nb) (hl : nb ≤ 1000) (s : St7) (Aa A : Option Addr) (ca c na nS : Nat) (hna : na = s.xs.length) (hnS : nS = s.sub.len) {w3 : World} (hb3 : Below wr.heap.size wr w3) (hA : ArgsS (fun k => wr.heap.size ≤ k) w3 (.slice Aa na ca) s.xs) (hB : BodyS (fun k => wr.heap.size ≤ k) w3 A s.sub) :
    ∃ q5 c5 w5, (Builtin.append_ #[38, 38] 38 #[v, .slice (some ⟨w3.heap.size, 0, none⟩) 1 1]).run Try.prog (w3.alloc (.cells #[.int .u8 s.k, .int .u8 s.a.1, .int .i64 s.a.2, .int .u8 s.b.1, .int .i64 s.b.2, .slice Aa na ca, .slice A nS c] 50)) = .ok (.slice (some ⟨q5, 0, none⟩) (nb + 1) c5) w5 ∧ w5.cell? ⟨g, o, none⟩ = some v ∧ w5.frozen? ⟨g, o, none⟩ = false ∧
      Hid (MkA w W1 (w5.setCell ⟨g, o, none⟩ (.slice (some ⟨q5, 0, none⟩) (nb + 1) c5)) g n (Vs.set j (.slice (some ⟨q5, 0, none⟩) (nb + 1) c5)) (Ts.set j (T ++ [s]))) := by
  subst ho; subst hnb; subst hna; subst hnS
  obtain ⟨css, h1, h2, h3⟩ := (h.bodies j v T hv hT).own
  have hs0 := h.size
  have hs3 := hb3.size
  have hgi := h.gin
  have hvb := h.blk hv
  obtain ⟨cur0, cur, b0, b1, hcs, hc⟩ := h.row
  have b3 : Blk (w3.alloc (.cells #[.int .u8 s.k, .int .u8 s.a.1, .int .i64 s.a.2, .int .u8 s.b.1, .int .i64 s.b.2, .slice Aa s.xs.length ca, .slice A s.sub.len c] 50)) g 40 cur := (b1.old hb3).alloc _
  have hz : ∀ j u, ([.int .u8 s.k, .int .u8 s.a.1, .int .i64 s.a.2, .int .u8 s.b.1, .int .i64 s.b.2, .slice Aa s.xs.length ca, .slice A s.sub.len c] : List Value)[j]? = some u → (w3.alloc (.cells #[.int .u8 s.k, .int .u8 s.a.1, .int .i64 s.a.2, .int .u8 s.b.1, .int .i64 s.b.2, .slice Aa s.xs.length ca, .slice A s.sub.len c] 50)).cell? ⟨w3.heap.size, j, none⟩ = some u := fun j u hj => by
    rw [(Blk.new w3 50 _).cell]; simpa using hj
  have hbA : Below wr.heap.size wr (w3.alloc (.cells #[.int .u8 s.k, .int .u8 s.a.1, .int .i64 s.a.2, .int .u8 s.b.1, .int .i64 s.b.2, .slice Aa s.xs.length ca, .slice A s.sub.len c] 50)) := hb3.alloc hs3 _
  have hsA : StS (fun k => wr.heap.size ≤ k) (w3.alloc (.cells #[.int .u8 s.k, .int .u8 s.a.1, .int .i64 s.a.2, .int .u8 s.b.1, .int .i64 s.b.2, .slice Aa s.xs.length ca, .slice A s.sub.len c] 50)) [.int .u8 s.k, .int .u8 s.a.1, .int .i64 s.a.2, .int .u8 s.b.1, .int .i64 s.b.2, .slice Aa s.xs.length ca, .slice A s.sub.len c] s :=
    ⟨_, A, c, rfl, hA.kept (fun k _ hk => heap_alloc_old _ _ hk) (fun _ h _ => h), hB.kept (fun k _ hk => heap_alloc_old _ _ hk) (fun _ h _ => h)⟩
  generalize w3.alloc (.cells #[.int .u8 s.k, .int .u8 s.a.1, .int .i64 s.a.2, .int .u8 s.b.1, .int .i64 s.b.2, .slice Aa s.xs.length ca, .slice A s.sub.len c] 50) = wA at *
  have hsA2 := hbA.size
  obtain ⟨q5, c5, w5, hr, hO, hg, hat⟩ := push46 W1.heap.size v T.length css.flatten _ wA (own_old h1 hbA) (by omega) (by omega) w3.heap.size rfl (by intro u hu; simp at hu; rcases hu with rfl | rfl | rfl | rfl | rfl | rfl | rfl <;> rfl) hz
  have hgv : some g ≠ v.ownBlock := fun e => by have := hvb g e; omega
  have b5 : Blk w5 g 40 cur := b3.grown hg hgv
  have hq : some q5 = v.ownBlock ∨ wA.heap.size ≤ q5 := by rcases hat with h | h; exact .inl h; exact .inr (by omega)
  have hqg : q5 ≠ g := fun e => by subst e; rcases hq with hq | hq; exact hgv hq; omega
  refine ⟨q5, c5, w5, hr, ?_, b5.frozen _, ?_⟩
  · rw [b5.cell, (hc j hj).1, hv]
  · refine h.core hj hv hT s _ hbA hq (by have := hg.size; simp [World.setCell]; omega) ?_ (fun k hk hkg hkv => ?_) (fun cur' hc' => ?_) css h2 h3 ?_ hsA
    · exact Below.set1 ((h.bel.trans (hbA.mono h.bel.size)).grown hg (by have := h.bel.size; omega) (fun k hk => by have := hvb k hk.symm; omega)) hgi.1 _
    · rw [Below.heap_setCell w5 ⟨g, j * 5 + 4, none⟩ _ k hkg, hg.block k hk hkv]
    · exact (hc'.grown hg hgv).set_ _ _
    · exact own_blocks hO (fun k hk => Below.heap_setCell w5 ⟨g, j * 5 + 4, none⟩ _ k (fun e => by
        have e1 : k = q5 := by simpa [Value.ownBlock] using hk
        have e2 : k = g := e
        omega))
end
section
variable {w wr : World} {D Z : Array Value} {B3 : Nat} {S : List (List UInt8)} {gl : List Int} {L : List Fn} {En : List Int} {As : Option Addr} {ns cs : Nat} {Ag : Option Addr} {ng cg : Nat} {Af : Option Addr} {i cf : Nat} {Ae : Option Addr} {ne ce : Nat}
theorem MkE.start (h : MkE w wr D Z B3 S gl L En As ns cs Ag ng cg Af i cf Ae ne ce) (hi : 0 < i) : ∃ g, Af = some ⟨g, 0, none⟩ ∧ w.heap.size + 1 + 1 + 1 ≤ g ∧ MkA w wr wr g i (List.replicate i (.slice none 0 0)) (List.replicate i []) := by
  obtain ⟨css, h1, h2, h3⟩ := h.fr.own
  have hL := h.lens.2.2.1
  rcases h1.2 with ⟨_, h0⟩ | ⟨q, cap, cur, e, hq, hh, hnc, _, hcs, htake⟩
  · omega
  · injection e with e1 e2 e3
    subst e1
    refine ⟨q, rfl, hq, h.bel, Nat.le_refl _, fun _ _ _ => rfl, ⟨by omega, heap_ltM hh⟩, ⟨cur, cur, hh, hh, by rw [hcs]; exact Nat.mul_le_mul (by omega) (Nat.le_refl _), fun t ht => ⟨?_, fun _ _ => rfl⟩⟩, ⟨by simp, by simp⟩, fun t v T hv hT => ?_, fun t t' v u hne hv hu k hk => ?_⟩
    · have := h.nob q rfl t ht
      rw [Blk.cell (show Blk wr q 40 cur from hh)] at this
      rw [this, List.getElem?_replicate, if_pos ht]
    · rw [List.getElem?_replicate] at hv hT
      split at hv
      · rename_i hlt
        rw [if_pos hlt] at hT
        injection hv with hv
        injection hT with hT
        subst hv; subst hT
        exact BdRow.nil _ _ _
      · cases hv
    · rw [List.getElem?_replicate] at hv
      split at hv
      · injection hv with hv
        subst hv
        simp [Value.ownBlock] at hk
      · cases hv
end
end Go.Proofs.Ytpdebnecfknohaa
namespace Go.Proofs.Ytpdebnecfknohaa
open Go.RowKit
set_option linter.unusedVariables false
set_option maxRecDepth 20000
theorem own_set7 {w : World} {base e q n c p : Nat} {xs zs : List Value} (hz : zs.length = 7) (hp : xs.length = p) (h : w.ownsRow base e 7 (.slice (some ⟨q, 0, none⟩) n c) n (xs ++ zs)) (v0 v1 v2 v3 v4 v5 v6 : Value) :
    (((((((w.setCell ⟨q, p, none⟩ v0).setCell ⟨q, p + 1, none⟩ v1).setCell ⟨q, p + 2, none⟩ v2).setCell ⟨q, p + 3, none⟩ v3).setCell ⟨q, p + 4, none⟩ v4).setCell ⟨q, p + 5, none⟩ v5).setCell ⟨q, p + 6, none⟩ v6).ownsRow base e 7 (.slice (some ⟨q, 0, none⟩) n c) n (xs ++ [v0, v1, v2, v3, v4, v5, v6]) := by
  have := ((((((((h.stored p v0).1).stored (p + 1) v1).1.stored (p + 2) v2).1.stored (p + 3) v3).1.stored (p + 4) v4).1.stored (p + 5) v5).1.stored (p + 6) v6).1
  have e : (((((((xs ++ zs).set p v0).set (p + 1) v1).set (p + 2) v2).set (p + 3) v3).set (p + 4) v4).set (p + 5) v5).set (p + 6) v6 = xs ++ [v0, v1, v2, v3, v4, v5, v6] := by
    subst hp
    match zs, hz with
    | [z0, z1, z2, z3, z4, z5, z6], _ => simp
  rwa [e] at this
theorem far7 {w : World} {q p k : Nat} (hk : k ≠ q) (v0 v1 v2 v3 v4 v5 v6 : Value) : (((((((w.setCell ⟨q, p, none⟩ v0).setCell ⟨q, p + 1, none⟩ v1).setCell ⟨q, p + 2, none⟩ v2).setCell ⟨q, p + 3, none⟩ v3).setCell ⟨q, p + 4, none⟩ v4).setCell ⟨q, p + 5, none⟩ v5).setCell ⟨q, p + 6, none⟩ v6).heap[k]? = w.heap[k]? := by
  rw [Below.heap_setCell _ _ _ _ hk, Below.heap_setCell _ _ _ _ hk, Below.heap_setCell _ _ _ _ hk, Below.heap_setCell _ _ _ _ hk, Below.heap_setCell _ _ _ _ hk, Below.heap_setCell _ _ _ _ hk, Below.heap_setCell _ _ _ _ hk]
section
variable {w W1 wr : World} {g n : Nat} {Vs : List Value} {Ts : List (List St7)}
/-- Blocks more. -/
theorem MkA.more (h : MkA w W1 wr g n Vs Ts) {wq : World} (hb : Below wr.heap.size wr wq) : MkA w W1 wq g n Vs Ts := by
  have hs := h.size
  have hz := hb.size
  have hgi := h.gin
  refine ⟨h.bel.trans (hb.mono h.bel.size), by omega, fun k hk hne => (hb.block k (by omega)).trans (h.keep k hk hne), hgi, ?_, h.lens, fun i v T hv hT => ?_, h.apart⟩
  · obtain ⟨cur0, cur, b0, b1, hc⟩ := h.row
    exact ⟨cur0, cur, b0, b1.old hb, hc⟩
  · exact (h.bodies i v T hv hT).kept (fun k hk => hb.block k (h.blk hv k hk).2) (fun k _ hlt => hb.block k hlt) (fun _ h _ => h)
/-- A body's slice. -/
theorem MkA.slice (h : MkA w W1 wr g n Vs Ts) {j : Nat} {v : Value} {T : List St7} (hv : Vs[j]? = some v) (hT : Ts[j]? = some T) : ∃ Ab cb, v = .slice Ab T.length cb := by
  obtain ⟨css, h1, _, _⟩ := (h.bodies j v T hv hT).own
  rcases h1.2 with ⟨e, h0⟩ | ⟨q, cap, cur, e, _⟩
  · exact ⟨none, 0, by rw [e, h0]⟩
  · exact ⟨_, _, e⟩
theorem MkA.push40 (h : MkA w W1 wr g n Vs Ts) {j o nb p : Nat} (hj : j < n) (ho : o = j * 5 + 4) {v : Value} {T : List St7} (hv : Vs[j]? = some v) (hT : Ts[j]? = some T) (hnb : T.length = nb) (hp : p = nb * 7) (hl : nb ≤ 1000) (s : St7) (Aa A : Option Addr) (ca c na nS : Nat) (hna : na = s.xs.length) (hnS : nS = s.sub.len) {wA : World} (hbA : Below wr.heap.size wr wA) (hA : ArgsS (fun k => wr.heap.size ≤ k) wA (.slice Aa na ca) s.xs) (hB : BodyS (fun k => wr.heap.size ≤ k) wA A s.sub) (z : Nat) (hz : Blk wA z 50 #[.int .u8 0, .int .u8 0, .int .i64 0, .int .u8 0, .int .i64 0, .slice none 0 0, .slice none 0 0]) :
    ∃ q5 c5 w5, (Builtin.append_ #[38, 38] 38 #[v, .slice (some ⟨z, 0, none⟩) 1 1]).run Try.prog wA = .ok (.slice (some ⟨q5, 0, none⟩) (nb + 1) c5) w5 ∧ w5.cell? ⟨g, o, none⟩ = some v ∧ w5.frozen? ⟨g, o, none⟩ = false ∧ nb + 1 ≤ c5 ∧ (∀ q, q < W1.heap.size → q ≠ g → w5.heap[q]? = W1.heap[q]?) ∧
      (∀ wz, wz = w5.setCell ⟨g, o, none⟩ (.slice (some ⟨q5, 0, none⟩) (nb + 1) c5) → q5 < wz.heap.size ∧ (wz.cell? ⟨q5, p, none⟩ = some (.int .u8 0) ∧ wz.cell? ⟨q5, p + 1, none⟩ = some (.int .u8 0) ∧ wz.cell? ⟨q5, p + 2, none⟩ = some (.int .i64 0) ∧ wz.cell? ⟨q5, p + 3, none⟩ = some (.int .u8 0) ∧ wz.cell? ⟨q5, p + 4, none⟩ = some (.int .i64 0) ∧ wz.cell? ⟨q5, p + 5, none⟩ = some (.slice none 0 0) ∧ wz.cell? ⟨q5, p + 6, none⟩ = some (.slice none 0 0)) ∧ (∀ t, wz.frozen? ⟨q5, t, none⟩ = false) ∧
        Hid (MkA w W1 (((((((wz.setCell ⟨q5, p, none⟩ (.int .u8 s.k)).setCell ⟨q5, p + 1, none⟩ (.int .u8 s.a.1)).setCell ⟨q5, p + 2, none⟩ (.int .i64 s.a.2)).setCell ⟨q5, p + 3, none⟩ (.int .u8 s.b.1)).setCell ⟨q5, p + 4, none⟩ (.int .i64 s.b.2)).setCell ⟨q5, p + 5, none⟩ (.slice Aa na ca)).setCell ⟨q5, p + 6, none⟩ (.slice A nS c)) g n (Vs.set j (.slice (some ⟨q5, 0, none⟩) (nb + 1) c5)) (Ts.set j (T ++ [s])))) := by
  subst ho; subst hnb; subst hna; subst hnS; subst hp
  obtain ⟨css, h1, h2, h3⟩ := (h.bodies j v T hv hT).own
  have hs0 := h.size
  have hsA2 := hbA.size
  have hgi := h.gin
  have hvb := h.blk hv
  obtain ⟨cur0, cur, b0, b1, hcs, hc⟩ := h.row
  have b3 : Blk wA g 40 cur := b1.old hbA
  have hsA : StS (fun k => wr.heap.size ≤ k) wA [.int .u8 s.k, .int .u8 s.a.1, .int .i64 s.a.2, .int .u8 s.b.1, .int .i64 s.b.2, .slice Aa s.xs.length ca, .slice A s.sub.len c] s := ⟨_, A, c, rfl, hA, hB⟩
  have hzz : ∀ j u, ([.int .u8 0, .int .u8 0, .int .i64 0, .int .u8 0, .int .i64 0, .slice none 0 0, .slice none 0 0] : List Value)[j]? = some u → wA.cell? ⟨z, j, none⟩ = some u := fun j u hj => by
    rw [hz.cell]; simpa using hj
  obtain ⟨q5, c5, w5, hr, hO, hg, hat⟩ := push46 W1.heap.size v T.length css.flatten _ wA (own_old h1 hbA) (by omega) (by omega) z rfl (by intro u hu; simp at hu; rcases hu with rfl | rfl | rfl | rfl | rfl <;> rfl) hzz
  have hgv : some g ≠ v.ownBlock := fun e => by have := hvb g e; omega
  have b5 : Blk w5 g 40 cur := b3.grown hg hgv
  have hq : some q5 = v.ownBlock ∨ wA.heap.size ≤ q5 := by rcases hat with h | h; exact .inl h; exact .inr (by omega)
  have hqg : q5 ≠ g := fun e => by subst e; rcases hq with hq | hq; exact hgv hq; omega
  have hqb : w.heap.size ≤ q5 := by
    rcases hq with hq | hq
    · have := hvb q5 hq; omega
    · have := h.bel.size; omega
  have hlen : css.flatten.length = T.length * 7 := h1.1
  have hcc : T.length + 1 ≤ c5 := by
    rcases hO.2 with ⟨e, _⟩ | ⟨_, cap, _, e, _, _, hh, _⟩
    · cases e
    · injection e with _ _ e; omega
  refine ⟨q5, c5, w5, hr, by rw [b5.cell, (hc j hj).1, hv], b5.frozen _, hcc, fun q hq1 hq2 => ((hg.block q (by omega) (fun e => by have := hvb q e; omega)).trans (hbA.block q (by omega))).trans (h.keep q hq1 hq2), ?_⟩
  rintro wz rfl
  have hOz : (w5.setCell ⟨g, j * 5 + 4, none⟩ (.slice (some ⟨q5, 0, none⟩) (T.length + 1) c5)).ownsRow W1.heap.size 50 7 (.slice (some ⟨q5, 0, none⟩) (T.length + 1) c5) (T.length + 1) (css.flatten ++ [.int .u8 0, .int .u8 0, .int .i64 0, .int .u8 0, .int .i64 0, .slice none 0 0, .slice none 0 0]) :=
    own_blocks hO (fun k hk => Below.heap_setCell w5 ⟨g, j * 5 + 4, none⟩ _ k (fun e => by
        have e1 : k = q5 := by simpa [Value.ownBlock] using hk
        have e2 : k = g := e
        omega))
  have cell : ∀ t, t < 7 → (w5.setCell ⟨g, j * 5 + 4, none⟩ (.slice (some ⟨q5, 0, none⟩) (T.length + 1) c5)).cell? ⟨q5, T.length * 7 + t, none⟩ = ([.int .u8 0, .int .u8 0, .int .i64 0, .int .u8 0, .int .i64 0, .slice none 0 0, .slice none 0 0] : List Value)[t]? := fun t ht => by
    rw [hOz.cellAt _ (by omega), List.getElem?_append_right (by omega), hlen]
    congr 1
    omega
  refine ⟨(hOz.lt q5 rfl).2, ⟨cell 0 (by omega), cell 1 (by omega), cell 2 (by omega), cell 3 (by omega), cell 4 (by omega), cell 5 (by omega), cell 6 (by omega)⟩, fun t => hOz.frozenAt t, ?_⟩
  refine h.core hj hv hT s _ hbA hq (by have := hg.size; simp [World.setCell]; omega) ?_ (fun k hk hkg hkv => ?_) (fun cur' hc' => ?_) css h2 h3 ?_ hsA
  · exact Below.set1 (Below.set1 (Below.set1 (Below.set1 (Below.set1 (Below.set1 (Below.set1 (Below.set1 ((h.bel.trans (hbA.mono h.bel.size)).grown hg (by have := h.bel.size; omega) (fun k hk => by have := hvb k hk.symm; omega)) hgi.1 _) hqb _) hqb _) hqb _) hqb _) hqb _) hqb _) hqb _
  · have hkq : k ≠ q5 := fun e => by subst e; rcases hq with hq | hq; exact hkv hq; omega
    rw [far7 hkq, Below.heap_setCell w5 ⟨g, j * 5 + 4, none⟩ _ k hkg, hg.block k hk hkv]
  · exact (far7 (fun e => hqg e.symm) _ _ _ _ _ _ _).trans ((hc'.grown hg hgv).set_ _ _)
  · exact own_set7 rfl hlen hOz _ _ _ _ _ _ _
end
end Go.Proofs.Ytpdebnecfknohaa
