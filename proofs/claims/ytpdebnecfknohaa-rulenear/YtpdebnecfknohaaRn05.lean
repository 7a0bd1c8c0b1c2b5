/-
  Parts: Zb.
-/
import Derived.Test.YtpdebnecfknohaaRn00
import Derived.Test.YtpdebnecfknohaaRn01
import Derived.Test.YtpdebnecfknohaaRn02
import Derived.Test.YtpdebnecfknohaaRn03
import Derived.Test.YtpdebnecfknohaaRn04
namespace Go.Proofs.Ytpdebnecfknohaa
open Go.RowKit
set_option linter.unusedVariables false
set_option linter.unusedSimpArgs false
theorem FnRowP.base {P : Nat → Value → Prop} {w : World} {base base' : Nat} {X1 X2 : Nat → Prop} {v : Value} {L : List Fn} (h : FnRowP P w base X1 X2 v L) (hb : base' ≤ base) : FnRowP P w base' X1 X2 v L := by
  obtain ⟨css, h1, h2, h3⟩ := h.own
  refine ⟨css, ⟨h1.1, ?_⟩, h2, h3⟩
  rcases h1.2 with h | ⟨k, cap, cur, hv, hq, rest⟩
  · exact .inl h
  · exact .inr ⟨k, cap, cur, hv, Nat.le_trans hb hq, rest⟩
/-- What Canon leaves: rows of the call's own, and bodies that were there, whose slices meet P. -/
def CanPostP (P : Nat → Value → Prop) (Sb : Nat → Prop) (w : World) (M : Md) (Ae : Option Addr) (ce : Nat) (e : Ending) (w' : World) : Prop :=
  ∃ Al cl A2 c2 Ax cx, e = .returned (.agg #[.slice Al (canM M).strs.length cl, .slice A2 (canM M).globs.length c2, .slice Ax (canM M).funcs.length cx, .slice Ae M.ents.length ce]) ∧
    w'.ownsRow w.heap.size 9 1 (.slice Al (canM M).strs.length cl) (canM M).strs.length (strV (canM M).strs) ∧
    w'.ownsRow w.heap.size 3 1 (.slice A2 (canM M).globs.length c2) (canM M).globs.length (intV (canM M).globs) ∧
    FnRowP P w' w.heap.size (fun k => some k ≠ (Value.slice Al (canM M).strs.length cl).ownBlock ∧ (some k ≠ (Value.slice A2 (canM M).globs.length c2).ownBlock ∧ w.heap.size ≤ k)) (fun k => some k ≠ (Value.slice Al (canM M).strs.length cl).ownBlock ∧ (Sb k ∧ k < w.heap.size)) (.slice Ax (canM M).funcs.length cx) (canM M).funcs ∧ Below w.heap.size w w'
set_option maxRecDepth 20000 in
set_option maxHeartbeats 2000000 in
theorem canon_anyP (P : Nat → Value → Prop) (Sb : Nat → Prop) (As Ag Af Ae : Option Addr) (cs cg cf ce : Nat) (M : Md) (w : World) (hM : M.Ok) (h1 : RdS (fun _ => True) w As M.strs.length 1 (strV M.strs)) (h2 : RdS (fun _ => True) w Ag M.globs.length 1 (intV M.globs)) (h3 : FnsS Sb w Af M.funcs) (hP : ∀ b o, Af = some ⟨b, o, none⟩ → ∀ j v, j < M.funcs.length → w.cell? ⟨b, o + j * 5 + 4, none⟩ = some v → P j v) :
    Calls Try.prog 29 #[.agg #[.slice As M.strs.length cs, .slice Ag M.globs.length cg, .slice Af M.funcs.length cf, .slice Ae M.ents.length ce]] w (CanPostP P Sb w M Ae ce) := by
  have H1 := Lib.hid h1
  have H2 := Lib.hid h2
  have H3 := Lib.hid h3
  have HP := Lib.hid hP
  have HM := Lib.hid hM
  have hm1 := hM.strs
  have hm2 := hM.globs.1
  have hm3 := hM.funcs
  clear h1 h2 h3 hM hP
  obtain ⟨ns, hns⟩ : ∃ n, n = M.strs.length := ⟨_, rfl⟩
  obtain ⟨ng, hng⟩ : ∃ n, n = M.globs.length := ⟨_, rfl⟩
  obtain ⟨nf, hnf⟩ : ∃ n, n = M.funcs.length := ⟨_, rfl⟩
  obtain ⟨ne, hne⟩ : ∃ n, n = M.ents.length := ⟨_, rfl⟩
  have HNE := Lib.hid hne
  rw [← hne]
  clear hne
  rw [← hns] at hm1
  rw [← hng] at hm2
  rw [← hnf] at hm3
  have HNS := Lib.hid hns
  have HNG := Lib.hid hng
  have HNF := Lib.hid hnf
  have HU := Lib.hid (fun n w' hb => used_any (.slice As ns cs) (.slice Ae ne ce) Ag Af cg cf M.globs M.funcs n w' (H2.out.old hb (by decide)) ((H3.out.old hb).kept (S' := fun _ => True) (fun _ _ _ => rfl) (fun _ _ _ => trivial)) (by omega) (by omega) (fun f hf => by have := HM.out.fns f hf; omega))
  rw [← hng, ← hnf] at HU
  rw [← hns, ← hng, ← hnf]
  clear hns hng hnf
  have HB0 : Hid (Below w.heap.size w ((w.alloc (.cells #[.slice As ns cs, .slice Ag ng cg, .slice Af nf cf, .slice Ae ne ce] 30)).alloc (.cells #[.slice none 0 0, .slice none 0 0, .slice none 0 0, .slice none 0 0] 30))) := ((Below.refl _ _).alloc (Nat.le_refl _) _).alloc (by simp) _
  have KM : Hid (Blk ((w.alloc (.cells #[.slice As ns cs, .slice Ag ng cg, .slice Af nf cf, .slice Ae ne ce] 30)).alloc (.cells #[.slice none 0 0, .slice none 0 0, .slice none 0 0, .slice none 0 0] 30)) w.heap.size 30 #[.slice As ns cs, .slice Ag ng cg, .slice Af nf cf, .slice Ae ne ce]) := (Blk.new w 30 _).alloc _
  have KR : Hid (Blk ((w.alloc (.cells #[.slice As ns cs, .slice Ag ng cg, .slice Af nf cf, .slice Ae ne ce] 30)).alloc (.cells #[.slice none 0 0, .slice none 0 0, .slice none 0 0, .slice none 0 0] 30)) (w.heap.size + 1) 30 #[.slice none 0 0, .slice none 0 0, .slice none 0 0, .slice none 0 0]) := Blk.new' _ 30 _ _ (by simp)
  go_enter Try.func29, Try.ntmps29
  go_wp2_with fail
  generalize (w.alloc (.cells #[.slice As ns cs, .slice Ag ng cg, .slice Af nf cf, .slice Ae ne ce] 30)).alloc (.cells #[.slice none 0 0, .slice none 0 0, .slice none 0 0, .slice none 0 0] 30) = W0 at *
  go_loopw [3, 4] (fun s3 s4 wr => ∃ (i : Nat) (Al : Option Addr) (nl cl : Nat), i ≤ ns ∧ s4 = .int .i64 (i : Int) ∧ s3 = .slice Al nl cl ∧ nl ≤ i ∧ Hid (nl = (canL M.globs M.funcs M.strs i).length) ∧ Hid (wr.ownsRow W0.heap.size 9 1 (.slice Al nl cl) nl (strV (canL M.globs M.funcs M.strs i))) ∧ Hid (Below W0.heap.size W0 wr)) (fun _ s4 _ => ns - (intOf s4).toNat)
  case atStart => exact ⟨0, none, 0, 0, Nat.zero_le _, rfl, rfl, Nat.zero_le _, rfl, ⟨rfl, .inl ⟨rfl, rfl⟩⟩, Below.refl _ _⟩
  case round =>
    obtain ⟨i, Al, nl, cl, hi, rfl, rfl, hnl, hNL, hO, hB⟩ := hrel
    have KMr := Lib.hid (KM.out.old hB.out)
    have KRr := Lib.hid (KR.out.old hB.out)
    obtain ⟨m0, m1, m2, m3⟩ := KMr.out.c4
    have HBw := Lib.hid (HB0.out.trans (hB.out.mono HB0.out.size))
    have zr1 : w.heap.size < wr.heap.size := KMr.out.lt
    by_cases hlt : i < ns
    · have hil : i < M.strs.length := by have := HNS.out; omega
      have HU1 := Lib.hid (HU.out (i : Int) wr HBw.out)
      obtain ⟨b, o, rfl, _, dc⟩ := H1.out.2 (by omega)
      have HCi := Lib.hid (canL_succ M.globs M.funcs M.strs i hil)
      go_wp2_with fail
      refine HU1.out.mono ?_
      rintro e w1 ⟨rfl, hb1⟩
      have HB1 := Lib.hid (hB.out.trans (hb1.mono hB.out.size))
      have HBw1 := Lib.hid (HBw.out.trans (hb1.mono HBw.out.size))
      have KM1 := Lib.hid (KMr.out.old hb1)
      have HO1 := Lib.hid (own_old hO.out hb1)
      have c1 := cell_old HBw1.out (World.block_lt_of_cell? w ⟨b, o + i, none⟩ (dc i _ (strV_get M.strs i hil))) (dc i _ (strV_get M.strs i hil))
      obtain ⟨p0, p1, p2, p3⟩ := KM1.out.c4
      clear hb1 dc m0 m1 m2 m3
      generalize canL M.globs M.funcs M.strs i = l at *
      cases hu : usedF M.globs M.funcs (i : Int)
      · have HC2 : Hid (canL M.globs M.funcs M.strs (i + 1) = l) := by
          show _ = _
          rw [HCi.out, if_neg (by rw [hu]; simp)]
        clear hu HCi
        go_wp2
        go_roundw
        case rel => exact ⟨i + 1, _, _, _, by omega, by go_num, rfl, by omega, by rw [HC2.out]; exact hNL, by rw [HC2.out]; exact HO1, HB1⟩
        case measure => simp [intOf]; omega
      · have hNm := number_any Al cl l M.strs[i] w1 (by have := RdS.own HO1.out; rw [hNL.out] at this; exact this.below (fun _ _ => trivial)) (by have := hNL.out; omega)
        rw [← hNL.out] at hNm
        have HNm := Lib.hid hNm
        have hnb := numF_bound l M.strs[i] 0
        clear hNm
        go_wp2_with fail
        refine HNm.out.mono ?_
        rintro e w2 ⟨rfl, rfl⟩
        by_cases hneg : numF l M.strs[i] 0 < 0
        · have HC2 : Hid (canL M.globs M.funcs M.strs (i + 1) = bub l.length (l ++ [M.strs[i]])) := by
            show _ = _
            rw [HCi.out, if_pos ⟨hu, hneg⟩]
          obtain ⟨q5, c5, w5, hr5, hO5, hg5, hat5⟩ := pushS W0.heap.size (.slice Al nl cl) l M.strs[i] w1 (by have := HO1.out; rwa [hNL.out] at this ⊢) (by have := hNL.out; omega) HB1.out.size
          rw [← hNL.out] at hr5 hO5
          have hl5 : (l ++ [M.strs[i]]).length = nl + 1 := by simp [hNL.out]
          rw [hl5] at hO5
          have HB5 : Hid (Below W0.heap.size W0 w5) := (HB1.out.alloc HB1.out.size _).grown hg5 (by have := HB1.out.size; simp; omega) (fun q hq => (HO1.out.lt q hq).1)
          have HL5 := Lib.hid hl5
          rw [← hNL.out] at HC2
          generalize l ++ [M.strs[i]] = l5 at *
          generalize numF l M.strs[i] 0 = nv at *
          generalize M.strs[i] = si at *
          have HO5 := Lib.hid hO5
          clear hO5 hg5 hat5 hl5 hu HCi
          go_upto_region 6 with (fail)
          go_wp2_with (at_builtin; refine Lib.wpList_append_run _ rfl _ _ 26 26 rfl _ _ rfl rfl _ _ hr5 ?_)
          go_wp2_with fail
          obtain ⟨wo, hwo⟩ : ∃ wo, wo = wr := ⟨wr, rfl⟩
          subst hwo
          go_loopw [5] (fun s5 wi => ∃ (k : Nat) (l' : List (List UInt8)), k ≤ nl ∧ s5 = .int .i64 (k : Int) ∧ Hid (l'.length = nl + 1) ∧ Hid (wi.ownsRow W0.heap.size 9 1 (.slice (some ⟨q5, 0, none⟩) (nl + 1) c5) (nl + 1) (strV l')) ∧ Hid (bub k l' = bub nl l5) ∧ Hid (Below W0.heap.size W0 wi)) (fun s5 _ => (intOf s5).toNat)
          case atStart => exact ⟨nl, l5, Nat.le_refl _, rfl, HL5, HO5, rfl, HB5⟩
          case round =>
            obtain ⟨k, l', hk, rfl, hl', hO', hE', hB'⟩ := hrel
            obtain ⟨hcap, _, hq, hcell, hset⟩ := own_at hO'.out (by omega)
            have fin : Hid (∀ nq, bub k l' = l' → ∃ (Al : Option Addr) (n2 c2 : Nat), (.slice (some ⟨q5, 0, none⟩) (nl + 1) c5 : Value) = .slice Al n2 c2 ∧ n2 ≤ i + 1 ∧ Hid (n2 = (canL M.globs M.funcs M.strs (i + 1)).length) ∧ Hid ((wr.drewN nq).ownsRow W0.heap.size 9 1 (.slice Al n2 c2) n2 (strV (canL M.globs M.funcs M.strs (i + 1)))) ∧ Hid (Below W0.heap.size W0 (wr.drewN nq))) := fun nq hb => by
              have e : canL M.globs M.funcs M.strs (i + 1) = l' := by rw [HC2.out, ← hE'.out, hb]
              exact ⟨_, nl + 1, c5, rfl, by omega, by rw [e]; exact hl'.out.symm, by rw [e]; exact hO'.out, hB'.out.trans ⟨rfl, rfl, rfl, Nat.le_refl _, fun _ _ => rfl⟩⟩
            cases k with
            | zero =>
              clear hcell hset
              go_upto_region 8 with (fail)
              go_quiet (fail)
              go_wp2
              obtain ⟨A9, n9, c9, e9, hn9, f1, f2, f3⟩ := fin.out nq rfl
              injection e9 with e91 e92 e93
              subst e91; subst e92; subst e93
              go_roundw
              case rel => exact ⟨i + 1, _, _, _, by omega, by go_num, rfl, hn9, f1, f2, f3⟩
              case measure => simp [intOf]; omega
            | succ k =>
              have hk1 : k < l'.length := by have := hl'.out; omega
              have hk2 : k + 1 < l'.length := by have := hl'.out; omega
              obtain ⟨x1, x2⟩ := hcell k _ (strV_get l' k hk1)
              obtain ⟨y1, y2⟩ := hcell (k + 1) _ (strV_get l' (k + 1) hk2)
              have HG : Hid (gtF (l'.getD k []) (l'.getD (k + 1) []) = gtF l'[k] l'[k + 1]) := by show _ = _; simp [List.getD, hk1, hk2]
              have HSw : Hid (strV (swp l' k) = ((strV l').set (k + 1) (.string (bs l'[k]))).set k (.string (bs l'[k + 1]))) := by
                show _ = _
                unfold swp strV
                rw [List.map_set, List.map_set]
                simp [List.getD, hk1, hk2]
              have HSl : Hid ((swp l' k).length = nl + 1) := (swp_len l' k).trans hl'.out
              have HEs : Hid (gtF l'[k] l'[k + 1] = true → bub k (swp l' k) = bub nl l5) := fun h => by
                rw [← hE'.out, bub, HG.out, if_pos h]
              have HNs : Hid (gtF l'[k] l'[k + 1] = false → bub (k + 1) l' = l') := fun h => by
                rw [bub, HG.out, if_neg (by rw [h]; simp)]
              have HSet := Lib.hid (hset (k + 1) (.string (bs l'[k])) (by omega))
              have ew : IntKind.i64.wrap ((k : Int) + 1 - 1) = (k : Int) := by rw [IntWalk.i64_in _ (by omega)]; omega
              have hki : (0 : Int) < (k : Int) + 1 := by omega
              have hkc : (k : Int) + 1 < (c5 : Int) := by omega
              have hkc2 : (k : Int) < (c5 : Int) := by omega
              have hkn : (k : Int) + 1 < (nl : Int) + 1 := by omega
              have hkn2 : (k : Int) < (nl : Int) + 1 := by omega
              have hkn3 : k < nl + 1 := by omega
              have hkn4 : k + 1 < nl + 1 := by omega
              clear hcell hset
              generalize l'[k] = s1 at *
              generalize l'[k + 1] = s2 at *
              have hgt : gtF s1 s2 = (!(Op.bytesLess (bs s1).toList (bs s2).toList || (bs s1).toList == (bs s2).toList)) := by rw [bs_toList, bs_toList]; rfl
              cases h1 : Op.bytesLess (bs s1).toList (bs s2).toList
              · cases h2 : ((bs s1).toList == (bs s2).toList)
                · rw [h1, h2] at hgt
                  have HE2 := Lib.hid (HEs.out hgt)
                  clear hgt HEs HNs fin
                  go_upto_region 8 with (fail)
                  go_quiet (fail)
                  go_wp2
                  have h0 : (wr.drewN nq).ownsRow W0.heap.size 9 1 (.slice (some ⟨q5, 0, none⟩) (nl + 1) c5) (nl + 1) (strV l') := hO'.out
                  have h3 := (own_at h0 (by omega)).2.2.2.2 (k + 1) (.string (bs s1)) (by omega)
                  have h4 := (own_at h3 (by omega)).2.2.2.2 k (.string (bs s2)) (by omega)
                  have hq5 := (own_at h0 (by omega)).2.1
                  have hbd : Below W0.heap.size W0 (wr.drewN nq) := hB'.out.trans ⟨rfl, rfl, rfl, Nat.le_refl _, fun _ _ => rfl⟩
                  exact ⟨⟨k, swp l' k, by omega, rfl, HSl, by rw [HSw.out]; exact h4, HE2, Below.set1 (Below.set1 hbd hq5 _) hq5 _⟩, by simp [intOf]⟩
                · rw [h1, h2] at hgt
                  have HNG := Lib.hid (HNs.out hgt)
                  clear hgt HEs HNs
                  go_upto_region 8 with (fail)
                  go_quiet (fail)
                  go_wp2
                  obtain ⟨A9, n9, c9, e9, hn9, f1, f2, f3⟩ := fin.out nq HNG.out
                  injection e9 with e91 e92 e93
                  subst e91; subst e92; subst e93
                  go_roundw
                  case rel => exact ⟨i + 1, _, _, _, by omega, by go_num, rfl, hn9, f1, f2, f3⟩
                  case measure => simp [intOf]; omega
              · rw [h1, Bool.true_or] at hgt
                have HNG := Lib.hid (HNs.out hgt)
                clear hgt HEs HNs
                go_upto_region 8 with (fail)
                go_quiet (fail)
                go_wp2
                obtain ⟨A9, n9, c9, e9, hn9, f1, f2, f3⟩ := fin.out nq HNG.out
                injection e9 with e91 e92 e93
                subst e91; subst e92; subst e93
                go_roundw
                case rel => exact ⟨i + 1, _, _, _, by omega, by go_num, rfl, hn9, f1, f2, f3⟩
                case measure => simp [intOf]; omega
        · have HC2 : Hid (canL M.globs M.funcs M.strs (i + 1) = l) := by
            show _ = _
            rw [HCi.out, if_neg (fun h => hneg h.2)]
          generalize numF l M.strs[i] 0 = nv at *
          have hnn : ¬ (nv < 0) := hneg
          have hnn2 : 0 ≤ nv := by omega
          clear hu HCi
          go_wp2
          go_roundw
          case rel => exact ⟨i + 1, _, _, _, by omega, by go_num, rfl, by omega, by rw [HC2.out]; exact hNL, by rw [HC2.out]; exact HO1, HB1⟩
          case measure => simp [intOf]; omega
    · obtain rfl : i = ns := by omega
      have hLl : canL M.globs M.funcs M.strs i = canl M := by unfold canl; rw [← HNS.out]
      rw [hLl] at hO hNL
      clear hLl
      generalize hll : canl M = l at *
      have HLL := Lib.hid hll
      clear hll
      have HNb : Hid (∀ W, Below wr.heap.size wr W → Calls Try.prog 56 #[.slice Al nl cl, .slice As i cs, .slice Ag ng cg] W (IntsPost W (numsF l M.strs M.globs))) := fun W hW => by
        have hw2 := HBw.out.trans (hW.mono HBw.out.size)
        have h1 := RdS.own (own_old hO.out hW)
        rw [hNL.out] at h1
        have := numbers_any Al As Ag cl cs cg l M.strs M.globs W (h1.below (fun _ _ => trivial)) (H1.out.old hw2 (by decide)) (H2.out.old hw2 (by decide)) (by have := hNL.out; omega) (by have := HM.out.strs; omega) (by have := HM.out.globs.1; omega) HM.out.globs.2
        rwa [← hNL.out, ← HNS.out, ← HNG.out] at this
      have hNGl : (numsF l M.strs M.globs).length = ng := by simp [numsF, HNG.out]
      have HNGl := Lib.hid hNGl
      clear hNGl
      go_upto_region 13 with (fail)
      clear m0 m1 m2 m3
      go_cut [7] (fun s7 wz => ∃ (q7 : Nat) (A2 : Option Addr) (c2 : Nat), s7 = .pointer (some ⟨q7, 0, none⟩) ∧ wr.heap.size ≤ q7 ∧ Hid (Below wr.heap.size wr wz ∧ Blk wz q7 30 #[.slice Al nl cl, .slice A2 ng c2, .slice none 0 0, .slice Ae ne ce] ∧ wz.ownsRow wr.heap.size 3 1 (.slice A2 ng c2) ng (intV (numsF l M.strs M.globs))))
      case first =>
        refine wp_region_held_drew (S := (fun W => Blk W w.heap.size 30 #[.slice As i cs, .slice Ag ng cg, .slice Af nf cf, .slice Ae ne ce])) (by kernel_rfl) KMr.out.drew (fun hHeld => ?_)
        refine wpAnyH_take (i := 0) (oi := ⟨_, _, _, _, _, _⟩) (v := ?_) rfl (by kernel_rfl) (by kernel_rfl) (by kernel_rfl) (fun _ _ _ h => h) (Or.inl ⟨by rfl, ?_⟩) (by assumption) ?_
        rotate_left
        · (intro W hSW; (try dsimp only at hSW); obtain ⟨p0, p1, p2, p3⟩ := Blk.c4 hSW; go_simp; first | done | with_reducible rfl)
        try simp only [Act.put, List.setIfInBounds_toArray, List.set_cons_zero, List.set_cons_succ]
        refine wpAnyH_take (i := 1) (oi := ⟨_, _, _, _, _, _⟩) (v := ?_) rfl (by kernel_rfl) (by kernel_rfl) (by kernel_rfl) (fun _ _ _ h => h) (Or.inl ⟨by rfl, ?_⟩) (by assumption) ?_
        rotate_left
        · (intro W hSW; (try dsimp only at hSW); obtain ⟨p0, p1, p2, p3⟩ := Blk.c4 hSW; go_simp; first | done | with_reducible rfl)
        try simp only [Act.put, List.setIfInBounds_toArray, List.set_cons_zero, List.set_cons_succ]
        refine wpAnyH_take (i := 2) (oi := ⟨_, _, _, _, _, _⟩) (v := ?_) rfl (by kernel_rfl) (by kernel_rfl) (by kernel_rfl) (fun _ _ _ h => h) (Or.inl ⟨by rfl, ?_⟩) (by assumption) ?_
        rotate_left
        · (intro W hSW; (try dsimp only at hSW); obtain ⟨p0, p1, p2, p3⟩ := Blk.c4 hSW; go_simp; first | done | with_reducible rfl)
        try simp only [Act.put, List.setIfInBounds_toArray, List.set_cons_zero, List.set_cons_succ]
        refine wpAnyH_take (i := 3) (oi := ⟨_, _, _, _, _, _⟩) (v := ?_) rfl (by kernel_rfl) (by kernel_rfl) (by kernel_rfl) (fun _ _ _ h => h) (Or.inl ⟨by rfl, ?_⟩) (by assumption) ?_
        rotate_left
        · (intro W hSW; (try dsimp only at hSW); obtain ⟨p0, p1, p2, p3⟩ := Blk.c4 hSW; go_simp; first | done | with_reducible rfl)
        try simp only [Act.put, List.setIfInBounds_toArray, List.set_cons_zero, List.set_cons_succ]
        refine wpAnyH_take (i := 4) (oi := ⟨_, _, _, _, _, _⟩) (v := ?_) rfl (by kernel_rfl) (by kernel_rfl) (by kernel_rfl) (fun _ _ _ h => h) (Or.inl ⟨by rfl, ?_⟩) (by assumption) ?_
        rotate_left
        · (intro W hSW; (try dsimp only at hSW); obtain ⟨p0, p1, p2, p3⟩ := Blk.c4 hSW; go_simp; first | done | with_reducible rfl)
        try simp only [Act.put, List.setIfInBounds_toArray, List.set_cons_zero, List.set_cons_succ]
        refine wpAnyH_take (i := 5) (oi := ⟨_, _, _, _, _, _⟩) (v := ?_) rfl (by kernel_rfl) (by kernel_rfl) (by kernel_rfl) (fun _ _ _ h => h) (Or.inl ⟨by rfl, ?_⟩) (by assumption) ?_
        rotate_left
        · (intro W hSW; (try dsimp only at hSW); obtain ⟨p0, p1, p2, p3⟩ := Blk.c4 hSW; go_simp; first | done | with_reducible rfl)
        try simp only [Act.put, List.setIfInBounds_toArray, List.set_cons_zero, List.set_cons_succ]
        refine wpAnyH_take (i := 7) (oi := ⟨_, _, _, _, _, _⟩) (v := ?_) rfl (by kernel_rfl) (by kernel_rfl) (by kernel_rfl) (fun _ _ _ h => h) (Or.inl ⟨by rfl, ?_⟩) (by assumption) ?_
        rotate_left
        · (intro W hSW; (try dsimp only at hSW); obtain ⟨p0, p1, p2, p3⟩ := Blk.c4 hSW; go_simp; first | done | with_reducible rfl)
        try simp only [Act.put, List.setIfInBounds_toArray, List.set_cons_zero, List.set_cons_succ]
        refine wpAnyH_take (i := 8) (oi := ⟨_, _, _, _, _, _⟩) (v := ?_) rfl (by kernel_rfl) (by kernel_rfl) (by kernel_rfl) (fun _ _ _ h => h) (Or.inl ⟨by rfl, ?_⟩) (by assumption) ?_
        rotate_left
        · (intro W hSW; (try dsimp only at hSW); obtain ⟨p0, p1, p2, p3⟩ := Blk.c4 hSW; go_simp; first | done | with_reducible rfl)
        try simp only [Act.put, List.setIfInBounds_toArray, List.set_cons_zero, List.set_cons_succ]
        refine wpAnyH_ready (rs := [6, 10]) (by kernel_rfl) (by simp) ?_
        refine AllReadyH.cons (o := ⟨_, _, _, _, _, _⟩) rfl (fun KQ hKQ => ?_) (AllReadyH.cons (o := ⟨_, _, _, _, _, _⟩) rfl (fun KQ hKQ => ?_) AllReadyH.nil)
        · go_simp
          refine (HNb.out wr.drew ((Below.refl _ wr).drew)).mono ?_
          rintro e w3 ⟨A2, c2, rfl, hO3, hb3⟩
          rw [HNGl.out] at hO3 ⊢
          have hb3w : Below wr.heap.size wr w3 := (Below.refl _ wr).drew.trans hb3
          have hS3 : (fun W => Blk W w.heap.size 30 #[.slice As i cs, .slice Ag ng cg, .slice Af nf cf, .slice Ae ne ce]) w3 := KMr.out.old hb3w
          refine hKQ.out _ _ hS3 (fun _ => ?_)
          clear hKQ KQ hHeld
          try simp only [Act.put, List.setIfInBounds_toArray, List.set_cons_zero, List.set_cons_succ]
          refine wpAnyH_take (i := 9) (oi := ⟨_, _, _, _, _, _⟩) (v := ?_) rfl (by kernel_rfl) (by kernel_rfl) (by kernel_rfl) (fun _ _ _ h => h) (Or.inl ⟨by rfl, ?_⟩) (by assumption) ?_
          rotate_left
          · (intro W hSW; (try dsimp only at hSW); obtain ⟨p0, p1, p2, p3⟩ := Blk.c4 hSW; go_simp; first | done | with_reducible rfl)
          try simp only [Act.put, List.setIfInBounds_toArray, List.set_cons_zero, List.set_cons_succ]
          refine wpAnyH_ready (rs := [10]) (by kernel_rfl) (by simp) ?_
          refine AllReadyH.cons (o := ⟨_, _, _, _, _, _⟩) rfl (fun KQ hKQ => ?_) AllReadyH.nil
          go_simp
          have hS4 : (fun W => Blk W w.heap.size 30 #[.slice As i cs, .slice Ag ng cg, .slice Af nf cf, .slice Ae ne ce]) (w3.alloc (.cells #[.slice none 0 0, .slice none 0 0, .slice none 0 0, .slice none 0 0] 30)) := hS3.alloc _
          refine hKQ.out _ _ hS4 (fun _ => ?_)
          clear hKQ KQ
          try simp only [Act.put, List.setIfInBounds_toArray, List.set_cons_zero, List.set_cons_succ]
          refine wpAnyH_ready (rs := [11]) (by kernel_rfl) (by simp) ?_
          refine AllReadyH.cons (o := ⟨_, _, _, _, _, _⟩) rfl (fun KQ hKQ => ?_) AllReadyH.nil
          go_simp
          have hS5 : (fun W => Blk W w.heap.size 30 #[.slice As i cs, .slice Ag ng cg, .slice Af nf cf, .slice Ae ne ce]) (w3.alloc (.cells #[.slice Al nl cl, .slice A2 ng c2, .slice none 0 0, .slice Ae ne ce] 30)) := hS3.alloc _
          refine hKQ.out _ _ hS5 (fun _ => ?_)
          clear hKQ KQ
          try simp only [Act.put, List.setIfInBounds_toArray, List.set_cons_zero, List.set_cons_succ]
          refine wpAnyH_done (by kernel_rfl) ?_ _
          have HO3 := Lib.hid hO3
          have HB3w := Lib.hid hb3w
          clear hO3 hb3 hb3w hS3 hS4 hS5
          go_wp2_with fail
          go_meet
          case rel => exact ⟨_, A2, c2, rfl, HB3w.out.size, HB3w.out.alloc HB3w.out.size _, Blk.new w3 30 _, HO3.out.alloc _⟩
        · go_simp
          have hS3 : (fun W => Blk W w.heap.size 30 #[.slice As i cs, .slice Ag ng cg, .slice Af nf cf, .slice Ae ne ce]) (wr.drew.alloc (.cells #[.slice none 0 0, .slice none 0 0, .slice none 0 0, .slice none 0 0] 30)) := KMr.out.drew.alloc _
          refine hKQ.out _ _ hS3 (fun _ => ?_)
          clear hKQ KQ hHeld
          try simp only [Act.put, List.setIfInBounds_toArray, List.set_cons_zero, List.set_cons_succ]
          refine wpAnyH_ready (rs := [6]) (by kernel_rfl) (by simp) ?_
          refine AllReadyH.cons (o := ⟨_, _, _, _, _, _⟩) rfl (fun KQ hKQ => ?_) AllReadyH.nil
          go_simp
          refine (HNb.out (wr.drew.alloc (.cells #[.slice none 0 0, .slice none 0 0, .slice none 0 0, .slice none 0 0] 30)) (((Below.refl _ wr).drew).alloc (Nat.le_refl _) _)).mono ?_
          rintro e w3 ⟨A2, c2, rfl, hO3, hb3⟩
          rw [HNGl.out] at hO3 ⊢
          have hb3w : Below wr.heap.size wr w3 := (((Below.refl _ wr).drew).alloc (Nat.le_refl _) (.cells #[.slice none 0 0, .slice none 0 0, .slice none 0 0, .slice none 0 0] 30)).trans (hb3.mono (by simp))
          have K7 : Blk w3 wr.heap.size 30 #[.slice none 0 0, .slice none 0 0, .slice none 0 0, .slice none 0 0] := (Blk.new' wr.drew 30 _ _ rfl).old hb3
          have hS4 : (fun W => Blk W w.heap.size 30 #[.slice As i cs, .slice Ag ng cg, .slice Af nf cf, .slice Ae ne ce]) w3 := KMr.out.old hb3w
          refine hKQ.out _ _ hS4 (fun _ => ?_)
          clear hKQ KQ
          try simp only [Act.put, List.setIfInBounds_toArray, List.set_cons_zero, List.set_cons_succ]
          refine wpAnyH_take (i := 9) (oi := ⟨_, _, _, _, _, _⟩) (v := ?_) rfl (by kernel_rfl) (by kernel_rfl) (by kernel_rfl) (fun _ _ _ h => h) (Or.inl ⟨by rfl, ?_⟩) (by assumption) ?_
          rotate_left
          · (intro W hSW; (try dsimp only at hSW); obtain ⟨p0, p1, p2, p3⟩ := Blk.c4 hSW; go_simp; first | done | with_reducible rfl)
          try simp only [Act.put, List.setIfInBounds_toArray, List.set_cons_zero, List.set_cons_succ]
          obtain ⟨r0, r1, r2, r3⟩ := K7.c4
          have f0 := K7.frozen 0
          have f1 := K7.frozen 1
          have f2 := K7.frozen 2
          have f3 := K7.frozen 3
          have hz3 : wr.heap.size < w3.heap.size := K7.lt
          refine wpAnyH_ready (rs := [11]) (by kernel_rfl) (by simp) ?_
          refine AllReadyH.cons (o := ⟨_, _, _, _, _, _⟩) rfl (fun KQ hKQ => ?_) AllReadyH.nil
          go_simp
          have HS4 := Lib.hid hS4
          have HK7 := Lib.hid K7
          have HO3 := Lib.hid hO3
          have HB3w := Lib.hid hb3w
          have hwz : w.heap.size ≠ wr.heap.size := by omega
          refine hKQ.out _ _ ((set4_far _ _ _ _ hwz).trans HS4.out) (fun _ => ?_)
          clear hKQ KQ hS3 hS4 K7 hO3 hb3 hb3w r0 r1 r2 r3 f0 f1 f2 f3
          try simp only [Act.put, List.setIfInBounds_toArray, List.set_cons_zero, List.set_cons_succ]
          refine wpAnyH_done (by kernel_rfl) ?_ _
          go_wp2_with fail
          go_meet
          case rel => exact ⟨wr.heap.size, A2, c2, rfl, Nat.le_refl _, set4 HB3w.out (Nat.le_refl _) _ _ _ _, (((HK7.out.set_ 0 _).set_ 1 _).set_ 2 _).set_ 3 _, own_blocks (own_mono HO3.out (by simp)) (fun k hk => set4_far _ _ _ _ (fun e => own_ne HO3.out HK7.out (by decide) (by rw [← e]; exact hk)))⟩
      case rest =>
        obtain ⟨q7, A2, c2, rfl, hq7, hC⟩ := hcut
        obtain ⟨wo, hwo⟩ : ∃ wo, wo = wr := ⟨wr, rfl⟩
        subst hwo
        go_wp2_with fail
        go_loopw [8] (fun s8 wx => ∃ (j : Nat) (Ax : Option Addr) (cx : Nat), j ≤ nf ∧ s8 = .int .i64 (j : Int) ∧ Hid (Below wo.heap.size wo wx ∧ Blk wx q7 30 #[.slice Al nl cl, .slice A2 ng c2, .slice Ax j cx, .slice Ae ne ce] ∧ wx.ownsRow wo.heap.size 3 1 (.slice A2 ng c2) ng (intV (numsF l M.strs M.globs)) ∧ FnRowP P wx wo.heap.size (fun k => k ≠ q7 ∧ k ≠ w.heap.size + 1 ∧ some k ≠ (Value.slice Al nl cl).ownBlock ∧ (some k ≠ (Value.slice A2 ng c2).ownBlock ∧ w.heap.size ≤ k)) (fun k => k ≠ q7 ∧ k ≠ w.heap.size + 1 ∧ some k ≠ (Value.slice Al nl cl).ownBlock ∧ (Sb k ∧ k < w.heap.size)) (.slice Ax j cx) ((M.funcs.take j).map (canFn l M.strs)))) (fun s8 _ => nf - (intOf s8).toNat)
        case atStart => exact ⟨0, none, 0, Nat.zero_le _, rfl, hC.out.1, hC.out.2.1, hC.out.2.2, FnRowP.nil _ _ _ _ _⟩
        case round =>
          obtain ⟨j, Ax, cx, hj, rfl, hI⟩ := hrel
          have HBx := Lib.hid (HBw.out.trans (hI.out.1.mono HBw.out.size))
          have KMx := Lib.hid (KMr.out.old hI.out.1)
          have zx0 : wo.heap.size ≤ wr.heap.size := hI.out.1.size
          have zx1 : w.heap.size < wr.heap.size := KMx.out.lt
          have zx2 : q7 < wr.heap.size := hI.out.2.1.lt
          obtain ⟨m0, m1, m2, m3⟩ := KMx.out.c4
          by_cases hlt : j < nf
          · have hjl : j < M.funcs.length := by have := HNF.out; omega
            obtain ⟨bF, oF, rfl, _, dF⟩ := H3.out (by omega)
            obtain ⟨cs0, ⟨Afl, clo, Afs, csi, Ab, cb, hcs, rlo, rsi, rbo⟩, hcc⟩ := dF j hjl
            subst hcs
            have HP4 := Lib.hid (HP.out bF oF rfl j _ hjl (hcc 4 _ rfl))
            have hbl := World.block_lt_of_cell? w ⟨bF, oF + j * 5 + 0, none⟩ (hcc 0 _ rfl)
            have e0 := cell_old HBx.out hbl (hcc 0 _ rfl)
            have e1 := cell_old HBx.out hbl (hcc 1 _ rfl)
            have e2 := cell_old HBx.out hbl (hcc 2 _ rfl)
            have e3 := cell_old HBx.out hbl (hcc 3 _ rfl)
            have e4 := cell_old HBx.out hbl (hcc 4 _ rfl)
            simp only [Nat.add_zero] at e0
            obtain ⟨⟨hn0, hn1⟩, ⟨hlo1, hlo2⟩, ⟨hsi1, hsi2⟩⟩ := HM.out.fns _ (List.getElem_mem hjl)
            have HTk : Hid ((M.funcs.take (j + 1)).map (canFn l M.strs) = (M.funcs.take j).map (canFn l M.strs) ++ [canFn l M.strs M.funcs[j]]) := by
              show _ = _
              rw [List.take_succ_eq_append_getElem hjl, List.map_append]; rfl
            have RLO := Lib.hid rlo
            have RSI := Lib.hid rsi
            have RBO := Lib.hid rbo
            have HL2 := Lib.hid hlo2
            have HS2 := Lib.hid hsi2
            have HTl : Hid (((M.funcs.take j).map (canFn l M.strs)).length = j) := by show _ = _; simp; have := HNF.out; omega
            clear dF hcc rlo rsi rbo hlo2 hsi2
            generalize M.funcs[j] = f at *
            obtain ⟨fnm, fpr, flo, fsi, fbo⟩ := f
            simp only at e0 e1 e2 e3 e4 hn0 hn1 hlo1 hsi1
            obtain ⟨nm, rfl⟩ : ∃ nm : Nat, fnm = nm := ⟨fnm.toNat, by omega⟩
            have hnms : nm < M.strs.length := by omega
            obtain ⟨nlo, hnlo⟩ : ∃ n, n = flo.length := ⟨_, rfl⟩
            obtain ⟨nsi, hnsi⟩ : ∃ n, n = fsi.length := ⟨_, rfl⟩
            obtain ⟨nb, hnb⟩ : ∃ n, n = fbo.len := ⟨_, rfl⟩
            rw [← hnlo] at e2 hlo1
            rw [← hnsi] at e3 hsi1
            rw [← hnb] at e4
            have HNlo := Lib.hid hnlo
            have HNsi := Lib.hid hnsi
            have HNb5 := Lib.hid hnb
            clear hnlo hnsi hnb
            obtain ⟨bS, oS, rfl, _, dS⟩ := H1.out.2 (by omega)
            have HBS : Hid (bS < w.heap.size) := World.block_lt_of_cell? w ⟨bS, oS + nm, none⟩ (dS nm _ (strV_get M.strs nm hnms))
            have cS := cell_old HBx.out (World.block_lt_of_cell? w ⟨bS, oS + nm, none⟩ (dS nm _ (strV_get M.strs nm hnms))) (dS nm _ (strV_get M.strs nm hnms))
            have HDs : Hid (M.strs.getD nm [] = M.strs[nm]) := by show _ = _; simp [List.getD, hnms]
            clear dS
            have HNlo2 : Hid ((numsF l M.strs flo).length = nlo) := by show _ = _; simp [numsF, HNlo.out]
            have HNsi2 : Hid ((numsF l M.strs fsi).length = nsi) := by show _ = _; simp [numsF, HNsi.out]
            obtain ⟨wb, hwb⟩ : ∃ wb, wb = wr.alloc (.cells #[.int .i64 (nm : Int), .int .i64 fpr, .slice Afl nlo clo, .slice Afs nsi csi, .slice Ab nb cb] 40) := ⟨_, rfl⟩
            have hbb : Below wr.heap.size wr wb := by rw [hwb]; exact (Below.refl _ _).alloc (Nat.le_refl _) _
            have HBo : Hid (Below wo.heap.size wo wb) := hI.out.1.trans (hbb.mono hI.out.1.size)
            have HBb := Lib.hid (HBx.out.trans (hbb.mono HBx.out.size))
            have KMb := Lib.hid (KMx.out.old hbb)
            have K9 : Hid (Blk wb wr.heap.size 40 #[.int .i64 (nm : Int), .int .i64 fpr, .slice Afl nlo clo, .slice Afs nsi csi, .slice Ab nb cb]) := by rw [hwb]; exact Blk.new wr 40 _
            have K7 := Lib.hid (hI.out.2.1.old hbb)
            have CSb : Hid (wb.cell? ⟨bS, oS + nm, none⟩ = some (.string (bs M.strs[nm]))) := cell_old hbb (World.block_lt_of_cell? wr ⟨bS, oS + nm, none⟩ cS) cS
            have HBB := Lib.hid hbb
            have HGl := Lib.hid (own_old hI.out.2.2.1 hbb)
            have HFr := Lib.hid (hI.out.2.2.2.old hbb)
            have HRb : Hid (∀ k, some k = (Value.slice Ax j cx).ownBlock → wo.heap.size ≤ k ∧ k < wr.heap.size) := fun k hk => ⟨(hI.out.2.2.2.blk k hk).1, (hI.out.2.2.2.blk k hk).2.1⟩
            have HX1 : Hid (∀ k, wb.heap.size ≤ k → k ≠ q7 ∧ k ≠ w.heap.size + 1 ∧ some k ≠ (Value.slice Al nl cl).ownBlock ∧ (some k ≠ (Value.slice A2 ng c2).ownBlock ∧ w.heap.size ≤ k)) := fun k hk => ⟨by have := K7.out.lt; omega, by have := KRr.out.lt; have := HBo.out.size; omega, fun e => by have := (hO.out.lt k e.symm).2; have := HBo.out.size; omega, fun e => by have := (hI.out.2.2.1.lt k e.symm).2; have := hbb.size; omega, by have := HBb.out.size; omega⟩
            have HX2 : Hid (∀ k, Sb k → k < w.heap.size → k ≠ q7 ∧ k ≠ w.heap.size + 1 ∧ some k ≠ (Value.slice Al nl cl).ownBlock ∧ (Sb k ∧ k < w.heap.size)) := fun k hSb hk => ⟨by omega, by omega, fun e => by have := (hO.out.lt k e.symm).1; have := HB0.out.size; omega, hSb, hk⟩
            have HLo : Hid (∀ W, Below wo.heap.size wo W → RdS (fun _ => True) W Al l.length 1 (strV l)) := fun W hW => by
              have h1 := RdS.own (own_old hO.out hW)
              rw [hNL.out] at h1
              exact h1.below (fun _ _ => trivial)
            have HN1 : Hid (∀ W, Below wb.heap.size wb W → Calls Try.prog 55 #[.slice Al nl cl, .string (bs M.strs[nm])] W fun e w' => e = .returned (.int .i64 (numF l M.strs[nm] 0)) ∧ W = w') := fun W hW => by
              have := number_any Al cl l M.strs[nm] W (HLo.out W (HBo.out.trans (hW.mono HBo.out.size))) (by have := hNL.out; omega)
              rwa [← hNL.out] at this
            have HN2 : Hid (∀ W, Below wb.heap.size wb W → Calls Try.prog 56 #[.slice Al nl cl, .slice (some ⟨bS, oS, none⟩) i cs, .slice Afl nlo clo] W (IntsPost W (numsF l M.strs flo))) := fun W hW => by
              have hw2 := HBb.out.trans (hW.mono HBb.out.size)
              have := numbers_any Al (some ⟨bS, oS, none⟩) Afl cl cs clo l M.strs flo W (HLo.out W (HBo.out.trans (hW.mono HBo.out.size))) (H1.out.old hw2 (by decide)) ((RLO.out.old hw2 (by decide)).below (fun _ _ => trivial)) (by have := hNL.out; omega) (by have := HM.out.strs; omega) (by have := HNlo.out; omega) HL2.out
              rwa [← hNL.out, ← HNS.out, ← HNlo.out] at this
            have HN3 : Hid (∀ W, Below wb.heap.size wb W → Calls Try.prog 56 #[.slice Al nl cl, .slice (some ⟨bS, oS, none⟩) i cs, .slice Afs nsi csi] W (IntsPost W (numsF l M.strs fsi))) := fun W hW => by
              have hw2 := HBb.out.trans (hW.mono HBb.out.size)
              have := numbers_any Al (some ⟨bS, oS, none⟩) Afs cl cs csi l M.strs fsi W (HLo.out W (HBo.out.trans (hW.mono HBo.out.size))) (H1.out.old hw2 (by decide)) ((RSI.out.old hw2 (by decide)).below (fun _ _ => trivial)) (by have := hNL.out; omega) (by have := HM.out.strs; omega) (by have := HNsi.out; omega) HS2.out
              rwa [← hNL.out, ← HNS.out, ← HNsi.out] at this
            have HNv : Hid (canFn l M.strs ⟨(nm : Int), fpr, flo, fsi, fbo⟩ = ⟨numF l M.strs[nm] 0, fpr, numsF l M.strs flo, numsF l M.strs fsi, fbo⟩) := by
              show _ = _
              unfold canFn
              rw [show ((nm : Int).toNat) = nm from by simp, HDs.out]
            have hnmi : (nm : Int) < (i : Int) := by have := HNS.out; omega
            have hnm0 : (0 : Int) ≤ (nm : Int) := by omega
            have hnmN : nm < i := by have := HNS.out; omega
            generalize numF l M.strs[nm] 0 = nv at *
            generalize M.strs[nm] = sn at *
            go_upto_region 18 with (fail)
            rw [← hwb]
            have z9 : wr.heap.size < wb.heap.size := K9.out.lt
            have z7 : q7 < wb.heap.size := K7.out.lt
            have c7 : wb.cell? ⟨q7, 2, none⟩ = some (.slice Ax j cx) := K7.out.cell 2
            clear hwb hbb e0 e1 e2 e3 e4 m0 m1 m2 m3 cS
            obtain ⟨q9, hq9⟩ : ∃ q9, q9 = wr.heap.size := ⟨_, rfl⟩
            have HQ9 := Lib.hid hq9
            rw [← hq9]
            rw [← hq9] at K9 z9 HRb zx2
            clear hq9
            refine wp_region_held_drew (S := (fun W => Blk W w.heap.size 30 #[.slice (some ⟨bS, oS, none⟩) i cs, .slice Ag ng cg, .slice (some ⟨bF, oF, none⟩) nf cf, .slice Ae ne ce] ∧ Blk W q9 40 #[.int .i64 (nm : Int), .int .i64 fpr, .slice Afl nlo clo, .slice Afs nsi csi, .slice Ab nb cb] ∧ W.cell? ⟨bS, oS + nm, none⟩ = some (.string (bs sn)))) (by kernel_rfl) ⟨KMb.out.drew, K9.out.drew, CSb.out⟩ (fun hHeld => ?_)
            refine wpAnyH_take (i := 0) (oi := ⟨_, _, _, _, _, _⟩) (v := ?_) rfl (by kernel_rfl) (by kernel_rfl) (by kernel_rfl) (fun _ _ _ h => h) (Or.inl ⟨by rfl, ?_⟩) (by assumption) ?_
            rotate_left
            · (intro W hSW; (try dsimp only at hSW); obtain ⟨s1, s2, s3⟩ := hSW; obtain ⟨p0, p1, p2, p3⟩ := s1.c4; obtain ⟨p4, p5, p6, p7, p8⟩ := s2.c5; go_simp; first | done | with_reducible rfl)
            try simp only [Act.put, List.setIfInBounds_toArray, List.set_cons_zero, List.set_cons_succ]
            refine wpAnyH_take (i := 2) (oi := ⟨_, _, _, _, _, _⟩) (v := ?_) rfl (by kernel_rfl) (by kernel_rfl) (by kernel_rfl) (fun _ _ _ h => h) (Or.inl ⟨by rfl, ?_⟩) (by assumption) ?_
            rotate_left
            · (intro W hSW; (try dsimp only at hSW); obtain ⟨s1, s2, s3⟩ := hSW; obtain ⟨p0, p1, p2, p3⟩ := s1.c4; obtain ⟨p4, p5, p6, p7, p8⟩ := s2.c5; go_simp; first | done | with_reducible rfl)
            try simp only [Act.put, List.setIfInBounds_toArray, List.set_cons_zero, List.set_cons_succ]
            refine wpAnyH_take (i := 3) (oi := ⟨_, _, _, _, _, _⟩) (v := ?_) rfl (by kernel_rfl) (by kernel_rfl) (by kernel_rfl) (fun _ _ _ h => h) (Or.inl ⟨by rfl, ?_⟩) (by assumption) ?_
            rotate_left
            · (intro W hSW; (try dsimp only at hSW); obtain ⟨s1, s2, s3⟩ := hSW; obtain ⟨p0, p1, p2, p3⟩ := s1.c4; obtain ⟨p4, p5, p6, p7, p8⟩ := s2.c5; go_simp; first | done | with_reducible rfl)
            try simp only [Act.put, List.setIfInBounds_toArray, List.set_cons_zero, List.set_cons_succ]
            refine wpAnyH_take (i := 4) (oi := ⟨_, _, _, _, _, _⟩) (v := ?_) rfl (by kernel_rfl) (by kernel_rfl) (by kernel_rfl) (fun _ _ _ h => h) (Or.inl ⟨by rfl, ?_⟩) (by assumption) ?_
            rotate_left
            · (intro W hSW; (try dsimp only at hSW); obtain ⟨s1, s2, s3⟩ := hSW; obtain ⟨p0, p1, p2, p3⟩ := s1.c4; obtain ⟨p4, p5, p6, p7, p8⟩ := s2.c5; go_simp; first | done | with_reducible rfl)
            try simp only [Act.put, List.setIfInBounds_toArray, List.set_cons_zero, List.set_cons_succ]
            refine wpAnyH_take (i := 5) (oi := ⟨_, _, _, _, _, _⟩) (v := ?_) rfl (by kernel_rfl) (by kernel_rfl) (by kernel_rfl) (fun _ _ _ h => h) (Or.inl ⟨by rfl, ?_⟩) (by assumption) ?_
            rotate_left
            · (intro W hSW; (try dsimp only at hSW); obtain ⟨s1, s2, s3⟩ := hSW; obtain ⟨p0, p1, p2, p3⟩ := s1.c4; obtain ⟨p4, p5, p6, p7, p8⟩ := s2.c5; go_simp; first | done | with_reducible rfl)
            try simp only [Act.put, List.setIfInBounds_toArray, List.set_cons_zero, List.set_cons_succ]
            refine wpAnyH_take (i := 6) (oi := ⟨_, _, _, _, _, _⟩) (v := ?_) rfl (by kernel_rfl) (by kernel_rfl) (by kernel_rfl) (fun _ _ _ h => h) (Or.inl ⟨by rfl, ?_⟩) (by assumption) ?_
            rotate_left
            · (intro W hSW; (try dsimp only at hSW); obtain ⟨s1, s2, s3⟩ := hSW; obtain ⟨p0, p1, p2, p3⟩ := s1.c4; obtain ⟨p4, p5, p6, p7, p8⟩ := s2.c5; go_simp; first | done | with_reducible rfl)
            try simp only [Act.put, List.setIfInBounds_toArray, List.set_cons_zero, List.set_cons_succ]
            refine wpAnyH_take (i := 7) (oi := ⟨_, _, _, _, _, _⟩) (v := ?_) rfl (by kernel_rfl) (by kernel_rfl) (by kernel_rfl) (fun _ _ _ h => h) (Or.inl ⟨by rfl, ?_⟩) (by assumption) ?_
            rotate_left
            · (intro W hSW; (try dsimp only at hSW); obtain ⟨s1, s2, s3⟩ := hSW; obtain ⟨p0, p1, p2, p3⟩ := s1.c4; obtain ⟨p4, p5, p6, p7, p8⟩ := s2.c5; go_simp; first | done | with_reducible rfl)
            try simp only [Act.put, List.setIfInBounds_toArray, List.set_cons_zero, List.set_cons_succ]
            refine wpAnyH_take (i := 8) (oi := ⟨_, _, _, _, _, _⟩) (v := ?_) rfl (by kernel_rfl) (by kernel_rfl) (by kernel_rfl) (fun _ _ _ h => h) (Or.inl ⟨by rfl, ?_⟩) (by assumption) ?_
            rotate_left
            · (intro W hSW; (try dsimp only at hSW); obtain ⟨s1, s2, s3⟩ := hSW; obtain ⟨p0, p1, p2, p3⟩ := s1.c4; obtain ⟨p4, p5, p6, p7, p8⟩ := s2.c5; go_simp; first | done | with_reducible rfl)
            try simp only [Act.put, List.setIfInBounds_toArray, List.set_cons_zero, List.set_cons_succ]
            refine wpAnyH_take (i := 10) (oi := ⟨_, _, _, _, _, _⟩) (v := ?_) rfl (by kernel_rfl) (by kernel_rfl) (by kernel_rfl) (fun _ _ _ h => h) (Or.inl ⟨by rfl, ?_⟩) (by assumption) ?_
            rotate_left
            · (intro W hSW; (try dsimp only at hSW); obtain ⟨s1, s2, s3⟩ := hSW; obtain ⟨p0, p1, p2, p3⟩ := s1.c4; obtain ⟨p4, p5, p6, p7, p8⟩ := s2.c5; go_simp; first | done | with_reducible rfl)
            try simp only [Act.put, List.setIfInBounds_toArray, List.set_cons_zero, List.set_cons_succ]
            refine wpAnyH_take (i := 11) (oi := ⟨_, _, _, _, _, _⟩) (v := ?_) rfl (by kernel_rfl) (by kernel_rfl) (by kernel_rfl) (fun _ _ _ h => h) (Or.inl ⟨by rfl, ?_⟩) (by assumption) ?_
            rotate_left
            · (intro W hSW; (try dsimp only at hSW); obtain ⟨s1, s2, s3⟩ := hSW; obtain ⟨p0, p1, p2, p3⟩ := s1.c4; obtain ⟨p4, p5, p6, p7, p8⟩ := s2.c5; go_simp; first | done | with_reducible rfl)
            try simp only [Act.put, List.setIfInBounds_toArray, List.set_cons_zero, List.set_cons_succ]
            refine wpAnyH_take (i := 12) (oi := ⟨_, _, _, _, _, _⟩) (v := ?_) rfl (by kernel_rfl) (by kernel_rfl) (by kernel_rfl) (fun _ _ _ h => h) (Or.inl ⟨by rfl, ?_⟩) (by assumption) ?_
            rotate_left
            · (intro W hSW; (try dsimp only at hSW); obtain ⟨s1, s2, s3⟩ := hSW; obtain ⟨p0, p1, p2, p3⟩ := s1.c4; obtain ⟨p4, p5, p6, p7, p8⟩ := s2.c5; go_simp; first | done | with_reducible rfl)
            try simp only [Act.put, List.setIfInBounds_toArray, List.set_cons_zero, List.set_cons_succ]
            refine wpAnyH_take (i := 13) (oi := ⟨_, _, _, _, _, _⟩) (v := ?_) rfl (by kernel_rfl) (by kernel_rfl) (by kernel_rfl) (fun _ _ _ h => h) (Or.inl ⟨by rfl, ?_⟩) (by assumption) ?_
            rotate_left
            · (intro W hSW; (try dsimp only at hSW); obtain ⟨s1, s2, s3⟩ := hSW; obtain ⟨p0, p1, p2, p3⟩ := s1.c4; obtain ⟨p4, p5, p6, p7, p8⟩ := s2.c5; go_simp; first | done | with_reducible rfl)
            try simp only [Act.put, List.setIfInBounds_toArray, List.set_cons_zero, List.set_cons_succ]
            refine wpAnyH_take (i := 14) (oi := ⟨_, _, _, _, _, _⟩) (v := ?_) rfl (by kernel_rfl) (by kernel_rfl) (by kernel_rfl) (fun _ _ _ h => h) (Or.inl ⟨by rfl, ?_⟩) (by assumption) ?_
            rotate_left
            · (intro W hSW; (try dsimp only at hSW); obtain ⟨s1, s2, s3⟩ := hSW; obtain ⟨p0, p1, p2, p3⟩ := s1.c4; obtain ⟨p4, p5, p6, p7, p8⟩ := s2.c5; go_simp; first | done | with_reducible rfl)
            try simp only [Act.put, List.setIfInBounds_toArray, List.set_cons_zero, List.set_cons_succ]
            refine wpAnyH_take (i := 15) (oi := ⟨_, _, _, _, _, _⟩) (v := ?_) rfl (by kernel_rfl) (by kernel_rfl) (by kernel_rfl) (fun _ _ _ h => h) (Or.inl ⟨by rfl, ?_⟩) (by assumption) ?_
            rotate_left
            · (intro W hSW; (try dsimp only at hSW); obtain ⟨s1, s2, s3⟩ := hSW; obtain ⟨p0, p1, p2, p3⟩ := s1.c4; obtain ⟨p4, p5, p6, p7, p8⟩ := s2.c5; go_simp; first | done | with_reducible rfl)
            try simp only [Act.put, List.setIfInBounds_toArray, List.set_cons_zero, List.set_cons_succ]
            refine wpAnyH_take (i := 16) (oi := ⟨_, _, _, _, _, _⟩) (v := ?_) rfl (by kernel_rfl) (by kernel_rfl) (by kernel_rfl) (fun _ _ _ h => h) (Or.inl ⟨by rfl, ?_⟩) (by assumption) ?_
            rotate_left
            · (intro W hSW; (try dsimp only at hSW); obtain ⟨s1, s2, s3⟩ := hSW; obtain ⟨p0, p1, p2, p3⟩ := s1.c4; obtain ⟨p4, p5, p6, p7, p8⟩ := s2.c5; go_simp; first | done | with_reducible rfl)
            try simp only [Act.put, List.setIfInBounds_toArray, List.set_cons_zero, List.set_cons_succ]
            refine wpAnyH_take (i := 18) (oi := ⟨_, _, _, _, _, _⟩) (v := ?_) rfl (by kernel_rfl) (by kernel_rfl) (by kernel_rfl) (fun _ _ _ h => h) (Or.inl ⟨by rfl, ?_⟩) (by assumption) ?_
            rotate_left
            · (intro W hSW; (try dsimp only at hSW); obtain ⟨s1, s2, s3⟩ := hSW; obtain ⟨p0, p1, p2, p3⟩ := s1.c4; obtain ⟨p4, p5, p6, p7, p8⟩ := s2.c5; go_simp; first | done | with_reducible rfl)
            try simp only [Act.put, List.setIfInBounds_toArray, List.set_cons_zero, List.set_cons_succ]
            refine wpAnyH_take (i := 19) (oi := ⟨_, _, _, _, _, _⟩) (v := ?_) rfl (by kernel_rfl) (by kernel_rfl) (by kernel_rfl) (fun _ _ _ h => h) (Or.inl ⟨by rfl, ?_⟩) (by assumption) ?_
            rotate_left
            · (intro W hSW; (try dsimp only at hSW); obtain ⟨s1, s2, s3⟩ := hSW; obtain ⟨p0, p1, p2, p3⟩ := s1.c4; obtain ⟨p4, p5, p6, p7, p8⟩ := s2.c5; go_simp; first | done | with_reducible rfl)
            try simp only [Act.put, List.setIfInBounds_toArray, List.set_cons_zero, List.set_cons_succ]
            refine wpAnyH_take (i := 20) (oi := ⟨_, _, _, _, _, _⟩) (v := ?_) rfl (by kernel_rfl) (by kernel_rfl) (by kernel_rfl) (fun _ _ _ h => h) (Or.inl ⟨by rfl, ?_⟩) (by assumption) ?_
            rotate_left
            · (intro W hSW; (try dsimp only at hSW); obtain ⟨s1, s2, s3⟩ := hSW; obtain ⟨p0, p1, p2, p3⟩ := s1.c4; obtain ⟨p4, p5, p6, p7, p8⟩ := s2.c5; go_simp; first | done | with_reducible rfl)
            try simp only [Act.put, List.setIfInBounds_toArray, List.set_cons_zero, List.set_cons_succ]
            refine wpAnyH_take (i := 21) (oi := ⟨_, _, _, _, _, _⟩) (v := ?_) rfl (by kernel_rfl) (by kernel_rfl) (by kernel_rfl) (fun _ _ _ h => h) (Or.inl ⟨by rfl, ?_⟩) (by assumption) ?_
            rotate_left
            · (intro W hSW; (try dsimp only at hSW); obtain ⟨s1, s2, s3⟩ := hSW; obtain ⟨p0, p1, p2, p3⟩ := s1.c4; obtain ⟨p4, p5, p6, p7, p8⟩ := s2.c5; go_simp; first | done | with_reducible rfl)
            try simp only [Act.put, List.setIfInBounds_toArray, List.set_cons_zero, List.set_cons_succ]
            refine wpAnyH_take (i := 22) (oi := ⟨_, _, _, _, _, _⟩) (v := ?_) rfl (by kernel_rfl) (by kernel_rfl) (by kernel_rfl) (fun _ _ _ h => h) (Or.inl ⟨by rfl, ?_⟩) (by assumption) ?_
            rotate_left
            · (intro W hSW; (try dsimp only at hSW); obtain ⟨s1, s2, s3⟩ := hSW; obtain ⟨p0, p1, p2, p3⟩ := s1.c4; obtain ⟨p4, p5, p6, p7, p8⟩ := s2.c5; go_simp; first | done | with_reducible rfl)
            try simp only [Act.put, List.setIfInBounds_toArray, List.set_cons_zero, List.set_cons_succ]
            refine wpAnyH_take (i := 24) (oi := ⟨_, _, _, _, _, _⟩) (v := ?_) rfl (by kernel_rfl) (by kernel_rfl) (by kernel_rfl) (fun _ _ _ h => h) (Or.inl ⟨by rfl, ?_⟩) (by assumption) ?_
            rotate_left
            · (intro W hSW; (try dsimp only at hSW); obtain ⟨s1, s2, s3⟩ := hSW; obtain ⟨p0, p1, p2, p3⟩ := s1.c4; obtain ⟨p4, p5, p6, p7, p8⟩ := s2.c5; go_simp; first | done | with_reducible rfl)
            try simp only [Act.put, List.setIfInBounds_toArray, List.set_cons_zero, List.set_cons_succ]
            refine wpAnyH_take (i := 25) (oi := ⟨_, _, _, _, _, _⟩) (v := ?_) rfl (by kernel_rfl) (by kernel_rfl) (by kernel_rfl) (fun _ _ _ h => h) (Or.inl ⟨by rfl, ?_⟩) (by assumption) ?_
            rotate_left
            · (intro W hSW; (try dsimp only at hSW); obtain ⟨s1, s2, s3⟩ := hSW; obtain ⟨p0, p1, p2, p3⟩ := s1.c4; obtain ⟨p4, p5, p6, p7, p8⟩ := s2.c5; go_simp; first | done | with_reducible rfl)
            try simp only [Act.put, List.setIfInBounds_toArray, List.set_cons_zero, List.set_cons_succ]
            refine wpAnyH_ready (rs := [1, 9]) (by kernel_rfl) (by simp) ?_
            refine AllReadyH.cons (o := ⟨_, _, _, _, _, _⟩) rfl (fun KQ hKQ => ?_) (AllReadyH.cons (o := ⟨_, _, _, _, _, _⟩) rfl (fun KQ hKQ => ?_) AllReadyH.nil)
            · go_simp
              refine hKQ.out _ _ hHeld (fun _ => ?_)
              clear hKQ KQ
              try simp only [Act.put, List.setIfInBounds_toArray, List.set_cons_zero, List.set_cons_succ]
              refine wpAnyH_ready (rs := [9]) (by kernel_rfl) (by simp) ?_
              refine AllReadyH.cons (o := ⟨_, _, _, _, _, _⟩) rfl (fun KQ hKQ => ?_) AllReadyH.nil
              go_simp
              refine (HN1.out _ ((Below.refl _ wb).drew)).mono ?_
              rintro e w' ⟨rfl, rfl⟩
              have hS1 := hHeld
              refine hKQ.out _ _ hS1 (fun _ => ?_)
              clear hKQ KQ
              try simp only [Act.put, List.setIfInBounds_toArray, List.set_cons_zero, List.set_cons_succ]
              refine wpAnyH_ready (rs := [17]) (by kernel_rfl) (by simp) ?_
              refine AllReadyH.cons (o := ⟨_, _, _, _, _, _⟩) rfl (fun KQ hKQ => ?_) AllReadyH.nil
              go_simp
              refine (HN2.out _ ((Below.refl _ wb).drew)).mono ?_
              rintro e w3 ⟨A4, c4, rfl, hO4, hb3⟩
              rw [HNlo2.out] at hO4 ⊢
              have hb3w : Below wb.heap.size wb w3 := (Below.refl _ wb).drew.trans hb3
              have c73 : w3.cell? ⟨q7, 2, none⟩ = some (.slice Ax j cx) := (K7.out.old hb3w).cell 2
              have hS3 := (show (fun W => Blk W w.heap.size 30 #[.slice (some ⟨bS, oS, none⟩) i cs, .slice Ag ng cg, .slice (some ⟨bF, oF, none⟩) nf cf, .slice Ae ne ce] ∧ Blk W q9 40 #[.int .i64 (nm : Int), .int .i64 fpr, .slice Afl nlo clo, .slice Afs nsi csi, .slice Ab nb cb] ∧ W.cell? ⟨bS, oS + nm, none⟩ = some (.string (bs sn))) w3 from ⟨KMb.out.old hb3w, K9.out.old hb3w, cell_old hb3w (World.block_lt_of_cell? wb ⟨bS, oS + nm, none⟩ CSb.out) CSb.out⟩)
              refine hKQ.out _ _ hS3 (fun _ => ?_)
              clear hKQ KQ
              try simp only [Act.put, List.setIfInBounds_toArray, List.set_cons_zero, List.set_cons_succ]
              refine wpAnyH_ready (rs := [23]) (by kernel_rfl) (by simp) ?_
              refine AllReadyH.cons (o := ⟨_, _, _, _, _, _⟩) rfl (fun KQ hKQ => ?_) AllReadyH.nil
              go_simp
              refine (HN3.out _ hb3w).mono ?_
              rintro e w4 ⟨A5, c5, rfl, hO5, hb4⟩
              rw [HNsi2.out] at hO5 ⊢
              have hb4w : Below wb.heap.size wb w4 := hb3w.trans (hb4.mono hb3w.size)
              have c74 : w4.cell? ⟨q7, 2, none⟩ = some (.slice Ax j cx) := (K7.out.old hb4w).cell 2
              have z74 : q7 < w4.heap.size := (K7.out.old hb4w).lt
              have hw4 : Below w.heap.size w w4 := HBb.out.trans (hb4w.mono HBb.out.size)
              obtain ⟨q5, cx5, w5, hr5, hk5, hq5, hb5, hF5⟩ := can_pushP (w := w) (wo := wo) (wb := wb) (X1 := fun k => k ≠ q7 ∧ k ≠ w.heap.size + 1 ∧ some k ≠ (Value.slice Al nl cl).ownBlock ∧ (some k ≠ (Value.slice A2 ng c2).ownBlock ∧ w.heap.size ≤ k)) (X2 := fun k => k ≠ q7 ∧ k ≠ w.heap.size + 1 ∧ some k ≠ (Value.slice Al nl cl).ownBlock ∧ (Sb k ∧ k < w.heap.size)) nv fpr (numsF l M.strs flo) (numsF l M.strs fsi) fbo A4 A5 Ab c4 c5 cb nlo nsi nb j HNlo2.out.symm HNsi2.out.symm HNb5.out HTl.out (by omega) HBo.out.size hw4 hb4w HFr.out (by rw [HNb5.out]; exact HP4.out) (by omega) (own_old hO4 hb4) (own_mono hO5 hb3w.size) RBO.out HX1.out HX2.out
              have hkk : ∀ k t cs, Blk w4 k t cs → (k < wo.heap.size ∨ q9 ≤ k ∨ t ≠ 40) → Blk w5 k t cs := fun k t cs h hor => (hk5 k (fun e => by obtain ⟨h1, h2⟩ := HRb.out k e; obtain ⟨cur, hcur⟩ := (HFr.out.blk k e).2.2; have hu := h.uniq (hcur.old hb4w); rcases hor with h3 | h3 | h3; omega; omega; exact h3 hu) h.lt).trans h
              have c75 := (hkk _ _ _ (K7.out.old hb4w) (.inr (.inr (by decide)))).cell 2
              have f75 := (hkk _ _ _ (K7.out.old hb4w) (.inr (.inr (by decide)))).frozen 2
              change w5.cell? ⟨q7, 2, none⟩ = some (.slice Ax j cx) at c75
              have HO4 := Lib.hid (own_old hO4 hb4)
              have HKK := Lib.hid hkk
              have HB5 := Lib.hid hb5
              have HF5 := Lib.hid hF5
              have HB4W := Lib.hid hb4w
              have H7e : Hid (Blk w5 q7 30 #[.slice Al nl cl, .slice A2 ng c2, .slice Ax j cx, .slice Ae ne ce]) := hkk _ _ _ (K7.out.old hb4w) (.inr (.inr (by decide)))
              have HGe : Hid (w5.ownsRow wo.heap.size 3 1 (.slice A2 ng c2) ng (intV (numsF l M.strs M.globs))) := own_blocks (own_old HGl.out hb4w) (fun k hk => hk5 k (fun e => by obtain ⟨cur, hcur⟩ := (HFr.out.blk k e).2.2; exact own_ne (own_old HGl.out hb4w) (hcur.old hb4w) (by decide) hk) ((own_old HGl.out hb4w).lt k hk.symm).2)
              clear hkk hk5 hb5 hF5 hO4 hO5
              have hS4 := (show (fun W => Blk W w.heap.size 30 #[.slice (some ⟨bS, oS, none⟩) i cs, .slice Ag ng cg, .slice (some ⟨bF, oF, none⟩) nf cf, .slice Ae ne ce] ∧ Blk W q9 40 #[.int .i64 (nm : Int), .int .i64 fpr, .slice Afl nlo clo, .slice Afs nsi csi, .slice Ab nb cb] ∧ W.cell? ⟨bS, oS + nm, none⟩ = some (.string (bs sn))) w4 from ⟨KMb.out.old hb4w, K9.out.old hb4w, cell_old hb4w (World.block_lt_of_cell? wb ⟨bS, oS + nm, none⟩ CSb.out) CSb.out⟩)
              refine hKQ.out _ _ hS4 (fun _ => ?_)
              clear hKQ KQ
              try simp only [Act.put, List.setIfInBounds_toArray, List.set_cons_zero, List.set_cons_succ]
              refine wpAnyH_take (i := 26) (oi := ⟨_, _, _, _, _, _⟩) (v := ?_) rfl (by kernel_rfl) (by kernel_rfl) (by kernel_rfl) (fun _ _ _ h => h) (Or.inl ⟨by rfl, ?_⟩) (by assumption) ?_
              rotate_left
              · (intro W hSW; (try dsimp only at hSW); obtain ⟨s1, s2, s3⟩ := hSW; obtain ⟨p0, p1, p2, p3⟩ := s1.c4; obtain ⟨p4, p5, p6, p7, p8⟩ := s2.c5; go_simp; first | done | with_reducible rfl)
              try simp only [Act.put, List.setIfInBounds_toArray, List.set_cons_zero, List.set_cons_succ]
              refine wpAnyH_ready (rs := [27]) (by kernel_rfl) (by simp) ?_
              refine AllReadyH.cons (o := ⟨_, _, _, _, _, _⟩) rfl (fun KQ hKQ => ?_) AllReadyH.nil
              go_simp
              have hS6 := (show (fun W => Blk W w.heap.size 30 #[.slice (some ⟨bS, oS, none⟩) i cs, .slice Ag ng cg, .slice (some ⟨bF, oF, none⟩) nf cf, .slice Ae ne ce] ∧ Blk W q9 40 #[.int .i64 (nm : Int), .int .i64 fpr, .slice Afl nlo clo, .slice Afs nsi csi, .slice Ab nb cb] ∧ W.cell? ⟨bS, oS + nm, none⟩ = some (.string (bs sn))) (w4.alloc (.cells #[.int .i64 nv, .int .i64 fpr, .slice A4 nlo c4, .slice A5 nsi c5, .slice Ab nb cb] 40)) from ⟨hS4.1.alloc _, hS4.2.1.alloc _, cell_old ((Below.refl _ w4).alloc (Nat.le_refl _) _) (World.block_lt_of_cell? w4 ⟨bS, oS + nm, none⟩ hS4.2.2) hS4.2.2⟩)
              refine hKQ.out _ _ hS6 (fun _ => ?_)
              clear hKQ KQ
              try simp only [Act.put, List.setIfInBounds_toArray, List.set_cons_zero, List.set_cons_succ]
              refine wpAnyH_ready (rs := [28]) (by kernel_rfl) (by simp) ?_
              refine AllReadyH.cons (o := ⟨_, _, _, _, _, _⟩) rfl (fun KQ hKQ => ?_) AllReadyH.nil
              refine step_append_run _ (by rfl) _ _ _ (by rfl) _ _ (by rfl) (by rfl) _ _ hr5 ?_
              have hS5 := (show (fun W => Blk W w.heap.size 30 #[.slice (some ⟨bS, oS, none⟩) i cs, .slice Ag ng cg, .slice (some ⟨bF, oF, none⟩) nf cf, .slice Ae ne ce] ∧ Blk W q9 40 #[.int .i64 (nm : Int), .int .i64 fpr, .slice Afl nlo clo, .slice Afs nsi csi, .slice Ab nb cb] ∧ W.cell? ⟨bS, oS + nm, none⟩ = some (.string (bs sn))) w5 from ⟨HKK.out _ _ _ hS4.1 (.inl (by omega)), HKK.out _ _ _ hS4.2.1 (.inr (.inl (Nat.le_refl _))), cell_old HB5.out (by have := HBS.out; omega) hS4.2.2⟩)
              refine hKQ.out _ _ hS5 (fun _ => ?_)
              clear hKQ KQ
              try simp only [Act.put, List.setIfInBounds_toArray, List.set_cons_zero, List.set_cons_succ]
              refine wpAnyH_take (i := 29) (oi := ⟨_, _, _, _, _, _⟩) (v := ?_) rfl (by kernel_rfl) (by kernel_rfl) (by kernel_rfl) (fun _ _ _ h => h) (Or.inl ⟨by rfl, ?_⟩) (by assumption) ?_
              rotate_left
              · (intro W hSW; (try dsimp only at hSW); go_simp; first | done | with_reducible rfl)
              try simp only [Act.put, List.setIfInBounds_toArray, List.set_cons_zero, List.set_cons_succ]
              refine wpAnyH_ready (rs := [30]) (by kernel_rfl) (by simp) ?_
              refine AllReadyH.cons (o := ⟨_, _, _, _, _, _⟩) rfl (fun KQ hKQ => ?_) AllReadyH.nil
              go_simp
              refine hKQ.out _ _ (⟨hS5.1.far (by show _ ≠ q7; omega) _, hS5.2.1.far (by show _ ≠ q7; omega) _, (World.cell?_setCell_other w5 ⟨q7, 2, none⟩ ⟨bS, oS + nm, none⟩ _ (fun e => by injection e with e; have := HBS.out; omega)).trans hS5.2.2⟩) (fun _ => ?_)
              clear hKQ KQ
              try simp only [Act.put, List.setIfInBounds_toArray, List.set_cons_zero, List.set_cons_succ]
              refine wpAnyH_done (by kernel_rfl) ?_ _
              clear hHeld hS1 hS3 hS4 hS5 hS6 hr5 c7 c73 c74 c75 f75
              go_wp2
              go_roundw
              case rel =>
                refine ⟨j + 1, _, _, by omega, by go_num, ?_, H7e.out.set_ 2 _, own_blocks HGe.out (fun k hk => Below.heap_setCell w5 ⟨q7, 2, none⟩ _ k (fun e => own_ne HGe.out H7e.out (by decide) (by have e' : k = q7 := e; rw [← e']; exact hk))), ?_⟩
                · exact Below.set1 ((HBo.out.trans (HB4W.out.mono HBo.out.size)).trans HB5.out) hq7 _
                · rw [HTk.out, HNv.out]
                  exact HF5.out.kept (fun k hk => Below.heap_setCell w5 ⟨q7, 2, none⟩ _ k (fun e => by obtain ⟨cur, hcur⟩ := (HF5.out.blk k hk).2.2; have e' : k = q7 := e; subst e'; exact absurd (hcur.uniq H7e.out) (by decide))) (fun k hk _ => Below.heap_setCell w5 ⟨q7, 2, none⟩ _ k (by rcases hk with h | h <;> exact h.1)) (fun _ h _ => h) (fun _ h _ => h)
              case measure => simp [intOf]; omega
            · go_simp
              refine (HN1.out _ ((Below.refl _ wb).drew)).mono ?_
              rintro e w' ⟨rfl, rfl⟩
              have hS1 := hHeld
              refine hKQ.out _ _ hS1 (fun _ => ?_)
              clear hKQ KQ
              try simp only [Act.put, List.setIfInBounds_toArray, List.set_cons_zero, List.set_cons_succ]
              refine wpAnyH_ready (rs := [1, 17]) (by kernel_rfl) (by simp) ?_
              refine AllReadyH.cons (o := ⟨_, _, _, _, _, _⟩) rfl (fun KQ hKQ => ?_) (AllReadyH.cons (o := ⟨_, _, _, _, _, _⟩) rfl (fun KQ hKQ => ?_) AllReadyH.nil)
              · go_simp
                refine hKQ.out _ _ hS1 (fun _ => ?_)
                clear hKQ KQ
                try simp only [Act.put, List.setIfInBounds_toArray, List.set_cons_zero, List.set_cons_succ]
                refine wpAnyH_ready (rs := [17]) (by kernel_rfl) (by simp) ?_
                refine AllReadyH.cons (o := ⟨_, _, _, _, _, _⟩) rfl (fun KQ hKQ => ?_) AllReadyH.nil
                go_simp
                refine (HN2.out _ ((Below.refl _ wb).drew)).mono ?_
                rintro e w3 ⟨A4, c4, rfl, hO4, hb3⟩
                rw [HNlo2.out] at hO4 ⊢
                have hb3w : Below wb.heap.size wb w3 := (Below.refl _ wb).drew.trans hb3
                have c73 : w3.cell? ⟨q7, 2, none⟩ = some (.slice Ax j cx) := (K7.out.old hb3w).cell 2
                have hS3 := (show (fun W => Blk W w.heap.size 30 #[.slice (some ⟨bS, oS, none⟩) i cs, .slice Ag ng cg, .slice (some ⟨bF, oF, none⟩) nf cf, .slice Ae ne ce] ∧ Blk W q9 40 #[.int .i64 (nm : Int), .int .i64 fpr, .slice Afl nlo clo, .slice Afs nsi csi, .slice Ab nb cb] ∧ W.cell? ⟨bS, oS + nm, none⟩ = some (.string (bs sn))) w3 from ⟨KMb.out.old hb3w, K9.out.old hb3w, cell_old hb3w (World.block_lt_of_cell? wb ⟨bS, oS + nm, none⟩ CSb.out) CSb.out⟩)
                refine hKQ.out _ _ hS3 (fun _ => ?_)
                clear hKQ KQ
                try simp only [Act.put, List.setIfInBounds_toArray, List.set_cons_zero, List.set_cons_succ]
                refine wpAnyH_ready (rs := [23]) (by kernel_rfl) (by simp) ?_
                refine AllReadyH.cons (o := ⟨_, _, _, _, _, _⟩) rfl (fun KQ hKQ => ?_) AllReadyH.nil
                go_simp
                refine (HN3.out _ hb3w).mono ?_
                rintro e w4 ⟨A5, c5, rfl, hO5, hb4⟩
                rw [HNsi2.out] at hO5 ⊢
                have hb4w : Below wb.heap.size wb w4 := hb3w.trans (hb4.mono hb3w.size)
                have c74 : w4.cell? ⟨q7, 2, none⟩ = some (.slice Ax j cx) := (K7.out.old hb4w).cell 2
                have z74 : q7 < w4.heap.size := (K7.out.old hb4w).lt
                have hw4 : Below w.heap.size w w4 := HBb.out.trans (hb4w.mono HBb.out.size)
                obtain ⟨q5, cx5, w5, hr5, hk5, hq5, hb5, hF5⟩ := can_pushP (w := w) (wo := wo) (wb := wb) (X1 := fun k => k ≠ q7 ∧ k ≠ w.heap.size + 1 ∧ some k ≠ (Value.slice Al nl cl).ownBlock ∧ (some k ≠ (Value.slice A2 ng c2).ownBlock ∧ w.heap.size ≤ k)) (X2 := fun k => k ≠ q7 ∧ k ≠ w.heap.size + 1 ∧ some k ≠ (Value.slice Al nl cl).ownBlock ∧ (Sb k ∧ k < w.heap.size)) nv fpr (numsF l M.strs flo) (numsF l M.strs fsi) fbo A4 A5 Ab c4 c5 cb nlo nsi nb j HNlo2.out.symm HNsi2.out.symm HNb5.out HTl.out (by omega) HBo.out.size hw4 hb4w HFr.out (by rw [HNb5.out]; exact HP4.out) (by omega) (own_old hO4 hb4) (own_mono hO5 hb3w.size) RBO.out HX1.out HX2.out
                have hkk : ∀ k t cs, Blk w4 k t cs → (k < wo.heap.size ∨ q9 ≤ k ∨ t ≠ 40) → Blk w5 k t cs := fun k t cs h hor => (hk5 k (fun e => by obtain ⟨h1, h2⟩ := HRb.out k e; obtain ⟨cur, hcur⟩ := (HFr.out.blk k e).2.2; have hu := h.uniq (hcur.old hb4w); rcases hor with h3 | h3 | h3; omega; omega; exact h3 hu) h.lt).trans h
                have c75 := (hkk _ _ _ (K7.out.old hb4w) (.inr (.inr (by decide)))).cell 2
                have f75 := (hkk _ _ _ (K7.out.old hb4w) (.inr (.inr (by decide)))).frozen 2
                change w5.cell? ⟨q7, 2, none⟩ = some (.slice Ax j cx) at c75
                have HO4 := Lib.hid (own_old hO4 hb4)
                have HKK := Lib.hid hkk
                have HB5 := Lib.hid hb5
                have HF5 := Lib.hid hF5
                have HB4W := Lib.hid hb4w
                have H7e : Hid (Blk w5 q7 30 #[.slice Al nl cl, .slice A2 ng c2, .slice Ax j cx, .slice Ae ne ce]) := hkk _ _ _ (K7.out.old hb4w) (.inr (.inr (by decide)))
                have HGe : Hid (w5.ownsRow wo.heap.size 3 1 (.slice A2 ng c2) ng (intV (numsF l M.strs M.globs))) := own_blocks (own_old HGl.out hb4w) (fun k hk => hk5 k (fun e => by obtain ⟨cur, hcur⟩ := (HFr.out.blk k e).2.2; exact own_ne (own_old HGl.out hb4w) (hcur.old hb4w) (by decide) hk) ((own_old HGl.out hb4w).lt k hk.symm).2)
                clear hkk hk5 hb5 hF5 hO4 hO5
                have hS4 := (show (fun W => Blk W w.heap.size 30 #[.slice (some ⟨bS, oS, none⟩) i cs, .slice Ag ng cg, .slice (some ⟨bF, oF, none⟩) nf cf, .slice Ae ne ce] ∧ Blk W q9 40 #[.int .i64 (nm : Int), .int .i64 fpr, .slice Afl nlo clo, .slice Afs nsi csi, .slice Ab nb cb] ∧ W.cell? ⟨bS, oS + nm, none⟩ = some (.string (bs sn))) w4 from ⟨KMb.out.old hb4w, K9.out.old hb4w, cell_old hb4w (World.block_lt_of_cell? wb ⟨bS, oS + nm, none⟩ CSb.out) CSb.out⟩)
                refine hKQ.out _ _ hS4 (fun _ => ?_)
                clear hKQ KQ
                try simp only [Act.put, List.setIfInBounds_toArray, List.set_cons_zero, List.set_cons_succ]
                refine wpAnyH_take (i := 26) (oi := ⟨_, _, _, _, _, _⟩) (v := ?_) rfl (by kernel_rfl) (by kernel_rfl) (by kernel_rfl) (fun _ _ _ h => h) (Or.inl ⟨by rfl, ?_⟩) (by assumption) ?_
                rotate_left
                · (intro W hSW; (try dsimp only at hSW); obtain ⟨s1, s2, s3⟩ := hSW; obtain ⟨p0, p1, p2, p3⟩ := s1.c4; obtain ⟨p4, p5, p6, p7, p8⟩ := s2.c5; go_simp; first | done | with_reducible rfl)
                try simp only [Act.put, List.setIfInBounds_toArray, List.set_cons_zero, List.set_cons_succ]
                refine wpAnyH_ready (rs := [27]) (by kernel_rfl) (by simp) ?_
                refine AllReadyH.cons (o := ⟨_, _, _, _, _, _⟩) rfl (fun KQ hKQ => ?_) AllReadyH.nil
                go_simp
                have hS6 := (show (fun W => Blk W w.heap.size 30 #[.slice (some ⟨bS, oS, none⟩) i cs, .slice Ag ng cg, .slice (some ⟨bF, oF, none⟩) nf cf, .slice Ae ne ce] ∧ Blk W q9 40 #[.int .i64 (nm : Int), .int .i64 fpr, .slice Afl nlo clo, .slice Afs nsi csi, .slice Ab nb cb] ∧ W.cell? ⟨bS, oS + nm, none⟩ = some (.string (bs sn))) (w4.alloc (.cells #[.int .i64 nv, .int .i64 fpr, .slice A4 nlo c4, .slice A5 nsi c5, .slice Ab nb cb] 40)) from ⟨hS4.1.alloc _, hS4.2.1.alloc _, cell_old ((Below.refl _ w4).alloc (Nat.le_refl _) _) (World.block_lt_of_cell? w4 ⟨bS, oS + nm, none⟩ hS4.2.2) hS4.2.2⟩)
                refine hKQ.out _ _ hS6 (fun _ => ?_)
                clear hKQ KQ
                try simp only [Act.put, List.setIfInBounds_toArray, List.set_cons_zero, List.set_cons_succ]
                refine wpAnyH_ready (rs := [28]) (by kernel_rfl) (by simp) ?_
                refine AllReadyH.cons (o := ⟨_, _, _, _, _, _⟩) rfl (fun KQ hKQ => ?_) AllReadyH.nil
                refine step_append_run _ (by rfl) _ _ _ (by rfl) _ _ (by rfl) (by rfl) _ _ hr5 ?_
                have hS5 := (show (fun W => Blk W w.heap.size 30 #[.slice (some ⟨bS, oS, none⟩) i cs, .slice Ag ng cg, .slice (some ⟨bF, oF, none⟩) nf cf, .slice Ae ne ce] ∧ Blk W q9 40 #[.int .i64 (nm : Int), .int .i64 fpr, .slice Afl nlo clo, .slice Afs nsi csi, .slice Ab nb cb] ∧ W.cell? ⟨bS, oS + nm, none⟩ = some (.string (bs sn))) w5 from ⟨HKK.out _ _ _ hS4.1 (.inl (by omega)), HKK.out _ _ _ hS4.2.1 (.inr (.inl (Nat.le_refl _))), cell_old HB5.out (by have := HBS.out; omega) hS4.2.2⟩)
                refine hKQ.out _ _ hS5 (fun _ => ?_)
                clear hKQ KQ
                try simp only [Act.put, List.setIfInBounds_toArray, List.set_cons_zero, List.set_cons_succ]
                refine wpAnyH_take (i := 29) (oi := ⟨_, _, _, _, _, _⟩) (v := ?_) rfl (by kernel_rfl) (by kernel_rfl) (by kernel_rfl) (fun _ _ _ h => h) (Or.inl ⟨by rfl, ?_⟩) (by assumption) ?_
                rotate_left
                · (intro W hSW; (try dsimp only at hSW); go_simp; first | done | with_reducible rfl)
                try simp only [Act.put, List.setIfInBounds_toArray, List.set_cons_zero, List.set_cons_succ]
                refine wpAnyH_ready (rs := [30]) (by kernel_rfl) (by simp) ?_
                refine AllReadyH.cons (o := ⟨_, _, _, _, _, _⟩) rfl (fun KQ hKQ => ?_) AllReadyH.nil
                go_simp
                refine hKQ.out _ _ (⟨hS5.1.far (by show _ ≠ q7; omega) _, hS5.2.1.far (by show _ ≠ q7; omega) _, (World.cell?_setCell_other w5 ⟨q7, 2, none⟩ ⟨bS, oS + nm, none⟩ _ (fun e => by injection e with e; have := HBS.out; omega)).trans hS5.2.2⟩) (fun _ => ?_)
                clear hKQ KQ
                try simp only [Act.put, List.setIfInBounds_toArray, List.set_cons_zero, List.set_cons_succ]
                refine wpAnyH_done (by kernel_rfl) ?_ _
                clear hHeld hS1 hS3 hS4 hS5 hS6 hr5 c7 c73 c74 c75 f75
                go_wp2
                go_roundw
                case rel =>
                  refine ⟨j + 1, _, _, by omega, by go_num, ?_, H7e.out.set_ 2 _, own_blocks HGe.out (fun k hk => Below.heap_setCell w5 ⟨q7, 2, none⟩ _ k (fun e => own_ne HGe.out H7e.out (by decide) (by have e' : k = q7 := e; rw [← e']; exact hk))), ?_⟩
                  · exact Below.set1 ((HBo.out.trans (HB4W.out.mono HBo.out.size)).trans HB5.out) hq7 _
                  · rw [HTk.out, HNv.out]
                    exact HF5.out.kept (fun k hk => Below.heap_setCell w5 ⟨q7, 2, none⟩ _ k (fun e => by obtain ⟨cur, hcur⟩ := (HF5.out.blk k hk).2.2; have e' : k = q7 := e; subst e'; exact absurd (hcur.uniq H7e.out) (by decide))) (fun k hk _ => Below.heap_setCell w5 ⟨q7, 2, none⟩ _ k (by rcases hk with h | h <;> exact h.1)) (fun _ h _ => h) (fun _ h _ => h)
                case measure => simp [intOf]; omega
              · go_simp
                refine (HN2.out _ ((Below.refl _ wb).drew)).mono ?_
                rintro e w3 ⟨A4, c4, rfl, hO4, hb3⟩
                rw [HNlo2.out] at hO4 ⊢
                have hb3w : Below wb.heap.size wb w3 := (Below.refl _ wb).drew.trans hb3
                have c73 : w3.cell? ⟨q7, 2, none⟩ = some (.slice Ax j cx) := (K7.out.old hb3w).cell 2
                have hS3 := (show (fun W => Blk W w.heap.size 30 #[.slice (some ⟨bS, oS, none⟩) i cs, .slice Ag ng cg, .slice (some ⟨bF, oF, none⟩) nf cf, .slice Ae ne ce] ∧ Blk W q9 40 #[.int .i64 (nm : Int), .int .i64 fpr, .slice Afl nlo clo, .slice Afs nsi csi, .slice Ab nb cb] ∧ W.cell? ⟨bS, oS + nm, none⟩ = some (.string (bs sn))) w3 from ⟨KMb.out.old hb3w, K9.out.old hb3w, cell_old hb3w (World.block_lt_of_cell? wb ⟨bS, oS + nm, none⟩ CSb.out) CSb.out⟩)
                refine hKQ.out _ _ hS3 (fun _ => ?_)
                clear hKQ KQ
                try simp only [Act.put, List.setIfInBounds_toArray, List.set_cons_zero, List.set_cons_succ]
                refine wpAnyH_ready (rs := [1, 23]) (by kernel_rfl) (by simp) ?_
                refine AllReadyH.cons (o := ⟨_, _, _, _, _, _⟩) rfl (fun KQ hKQ => ?_) (AllReadyH.cons (o := ⟨_, _, _, _, _, _⟩) rfl (fun KQ hKQ => ?_) AllReadyH.nil)
                · go_simp
                  refine hKQ.out _ _ hS3 (fun _ => ?_)
                  clear hKQ KQ
                  try simp only [Act.put, List.setIfInBounds_toArray, List.set_cons_zero, List.set_cons_succ]
                  refine wpAnyH_ready (rs := [23]) (by kernel_rfl) (by simp) ?_
                  refine AllReadyH.cons (o := ⟨_, _, _, _, _, _⟩) rfl (fun KQ hKQ => ?_) AllReadyH.nil
                  go_simp
                  refine (HN3.out _ hb3w).mono ?_
                  rintro e w4 ⟨A5, c5, rfl, hO5, hb4⟩
                  rw [HNsi2.out] at hO5 ⊢
                  have hb4w : Below wb.heap.size wb w4 := hb3w.trans (hb4.mono hb3w.size)
                  have c74 : w4.cell? ⟨q7, 2, none⟩ = some (.slice Ax j cx) := (K7.out.old hb4w).cell 2
                  have z74 : q7 < w4.heap.size := (K7.out.old hb4w).lt
                  have hw4 : Below w.heap.size w w4 := HBb.out.trans (hb4w.mono HBb.out.size)
                  obtain ⟨q5, cx5, w5, hr5, hk5, hq5, hb5, hF5⟩ := can_pushP (w := w) (wo := wo) (wb := wb) (X1 := fun k => k ≠ q7 ∧ k ≠ w.heap.size + 1 ∧ some k ≠ (Value.slice Al nl cl).ownBlock ∧ (some k ≠ (Value.slice A2 ng c2).ownBlock ∧ w.heap.size ≤ k)) (X2 := fun k => k ≠ q7 ∧ k ≠ w.heap.size + 1 ∧ some k ≠ (Value.slice Al nl cl).ownBlock ∧ (Sb k ∧ k < w.heap.size)) nv fpr (numsF l M.strs flo) (numsF l M.strs fsi) fbo A4 A5 Ab c4 c5 cb nlo nsi nb j HNlo2.out.symm HNsi2.out.symm HNb5.out HTl.out (by omega) HBo.out.size hw4 hb4w HFr.out (by rw [HNb5.out]; exact HP4.out) (by omega) (own_old hO4 hb4) (own_mono hO5 hb3w.size) RBO.out HX1.out HX2.out
                  have hkk : ∀ k t cs, Blk w4 k t cs → (k < wo.heap.size ∨ q9 ≤ k ∨ t ≠ 40) → Blk w5 k t cs := fun k t cs h hor => (hk5 k (fun e => by obtain ⟨h1, h2⟩ := HRb.out k e; obtain ⟨cur, hcur⟩ := (HFr.out.blk k e).2.2; have hu := h.uniq (hcur.old hb4w); rcases hor with h3 | h3 | h3; omega; omega; exact h3 hu) h.lt).trans h
                  have c75 := (hkk _ _ _ (K7.out.old hb4w) (.inr (.inr (by decide)))).cell 2
                  have f75 := (hkk _ _ _ (K7.out.old hb4w) (.inr (.inr (by decide)))).frozen 2
                  change w5.cell? ⟨q7, 2, none⟩ = some (.slice Ax j cx) at c75
                  have HO4 := Lib.hid (own_old hO4 hb4)
                  have HKK := Lib.hid hkk
                  have HB5 := Lib.hid hb5
                  have HF5 := Lib.hid hF5
                  have HB4W := Lib.hid hb4w
                  have H7e : Hid (Blk w5 q7 30 #[.slice Al nl cl, .slice A2 ng c2, .slice Ax j cx, .slice Ae ne ce]) := hkk _ _ _ (K7.out.old hb4w) (.inr (.inr (by decide)))
                  have HGe : Hid (w5.ownsRow wo.heap.size 3 1 (.slice A2 ng c2) ng (intV (numsF l M.strs M.globs))) := own_blocks (own_old HGl.out hb4w) (fun k hk => hk5 k (fun e => by obtain ⟨cur, hcur⟩ := (HFr.out.blk k e).2.2; exact own_ne (own_old HGl.out hb4w) (hcur.old hb4w) (by decide) hk) ((own_old HGl.out hb4w).lt k hk.symm).2)
                  clear hkk hk5 hb5 hF5 hO4 hO5
                  have hS4 := (show (fun W => Blk W w.heap.size 30 #[.slice (some ⟨bS, oS, none⟩) i cs, .slice Ag ng cg, .slice (some ⟨bF, oF, none⟩) nf cf, .slice Ae ne ce] ∧ Blk W q9 40 #[.int .i64 (nm : Int), .int .i64 fpr, .slice Afl nlo clo, .slice Afs nsi csi, .slice Ab nb cb] ∧ W.cell? ⟨bS, oS + nm, none⟩ = some (.string (bs sn))) w4 from ⟨KMb.out.old hb4w, K9.out.old hb4w, cell_old hb4w (World.block_lt_of_cell? wb ⟨bS, oS + nm, none⟩ CSb.out) CSb.out⟩)
                  refine hKQ.out _ _ hS4 (fun _ => ?_)
                  clear hKQ KQ
                  try simp only [Act.put, List.setIfInBounds_toArray, List.set_cons_zero, List.set_cons_succ]
                  refine wpAnyH_take (i := 26) (oi := ⟨_, _, _, _, _, _⟩) (v := ?_) rfl (by kernel_rfl) (by kernel_rfl) (by kernel_rfl) (fun _ _ _ h => h) (Or.inl ⟨by rfl, ?_⟩) (by assumption) ?_
                  rotate_left
                  · (intro W hSW; (try dsimp only at hSW); obtain ⟨s1, s2, s3⟩ := hSW; obtain ⟨p0, p1, p2, p3⟩ := s1.c4; obtain ⟨p4, p5, p6, p7, p8⟩ := s2.c5; go_simp; first | done | with_reducible rfl)
                  try simp only [Act.put, List.setIfInBounds_toArray, List.set_cons_zero, List.set_cons_succ]
                  refine wpAnyH_ready (rs := [27]) (by kernel_rfl) (by simp) ?_
                  refine AllReadyH.cons (o := ⟨_, _, _, _, _, _⟩) rfl (fun KQ hKQ => ?_) AllReadyH.nil
                  go_simp
                  have hS6 := (show (fun W => Blk W w.heap.size 30 #[.slice (some ⟨bS, oS, none⟩) i cs, .slice Ag ng cg, .slice (some ⟨bF, oF, none⟩) nf cf, .slice Ae ne ce] ∧ Blk W q9 40 #[.int .i64 (nm : Int), .int .i64 fpr, .slice Afl nlo clo, .slice Afs nsi csi, .slice Ab nb cb] ∧ W.cell? ⟨bS, oS + nm, none⟩ = some (.string (bs sn))) (w4.alloc (.cells #[.int .i64 nv, .int .i64 fpr, .slice A4 nlo c4, .slice A5 nsi c5, .slice Ab nb cb] 40)) from ⟨hS4.1.alloc _, hS4.2.1.alloc _, cell_old ((Below.refl _ w4).alloc (Nat.le_refl _) _) (World.block_lt_of_cell? w4 ⟨bS, oS + nm, none⟩ hS4.2.2) hS4.2.2⟩)
                  refine hKQ.out _ _ hS6 (fun _ => ?_)
                  clear hKQ KQ
                  try simp only [Act.put, List.setIfInBounds_toArray, List.set_cons_zero, List.set_cons_succ]
                  refine wpAnyH_ready (rs := [28]) (by kernel_rfl) (by simp) ?_
                  refine AllReadyH.cons (o := ⟨_, _, _, _, _, _⟩) rfl (fun KQ hKQ => ?_) AllReadyH.nil
                  refine step_append_run _ (by rfl) _ _ _ (by rfl) _ _ (by rfl) (by rfl) _ _ hr5 ?_
                  have hS5 := (show (fun W => Blk W w.heap.size 30 #[.slice (some ⟨bS, oS, none⟩) i cs, .slice Ag ng cg, .slice (some ⟨bF, oF, none⟩) nf cf, .slice Ae ne ce] ∧ Blk W q9 40 #[.int .i64 (nm : Int), .int .i64 fpr, .slice Afl nlo clo, .slice Afs nsi csi, .slice Ab nb cb] ∧ W.cell? ⟨bS, oS + nm, none⟩ = some (.string (bs sn))) w5 from ⟨HKK.out _ _ _ hS4.1 (.inl (by omega)), HKK.out _ _ _ hS4.2.1 (.inr (.inl (Nat.le_refl _))), cell_old HB5.out (by have := HBS.out; omega) hS4.2.2⟩)
                  refine hKQ.out _ _ hS5 (fun _ => ?_)
                  clear hKQ KQ
                  try simp only [Act.put, List.setIfInBounds_toArray, List.set_cons_zero, List.set_cons_succ]
                  refine wpAnyH_take (i := 29) (oi := ⟨_, _, _, _, _, _⟩) (v := ?_) rfl (by kernel_rfl) (by kernel_rfl) (by kernel_rfl) (fun _ _ _ h => h) (Or.inl ⟨by rfl, ?_⟩) (by assumption) ?_
                  rotate_left
                  · (intro W hSW; (try dsimp only at hSW); go_simp; first | done | with_reducible rfl)
                  try simp only [Act.put, List.setIfInBounds_toArray, List.set_cons_zero, List.set_cons_succ]
                  refine wpAnyH_ready (rs := [30]) (by kernel_rfl) (by simp) ?_
                  refine AllReadyH.cons (o := ⟨_, _, _, _, _, _⟩) rfl (fun KQ hKQ => ?_) AllReadyH.nil
                  go_simp
                  refine hKQ.out _ _ (⟨hS5.1.far (by show _ ≠ q7; omega) _, hS5.2.1.far (by show _ ≠ q7; omega) _, (World.cell?_setCell_other w5 ⟨q7, 2, none⟩ ⟨bS, oS + nm, none⟩ _ (fun e => by injection e with e; have := HBS.out; omega)).trans hS5.2.2⟩) (fun _ => ?_)
                  clear hKQ KQ
                  try simp only [Act.put, List.setIfInBounds_toArray, List.set_cons_zero, List.set_cons_succ]
                  refine wpAnyH_done (by kernel_rfl) ?_ _
                  clear hHeld hS1 hS3 hS4 hS5 hS6 hr5 c7 c73 c74 c75 f75
                  go_wp2
                  go_roundw
                  case rel =>
                    refine ⟨j + 1, _, _, by omega, by go_num, ?_, H7e.out.set_ 2 _, own_blocks HGe.out (fun k hk => Below.heap_setCell w5 ⟨q7, 2, none⟩ _ k (fun e => own_ne HGe.out H7e.out (by decide) (by have e' : k = q7 := e; rw [← e']; exact hk))), ?_⟩
                    · exact Below.set1 ((HBo.out.trans (HB4W.out.mono HBo.out.size)).trans HB5.out) hq7 _
                    · rw [HTk.out, HNv.out]
                      exact HF5.out.kept (fun k hk => Below.heap_setCell w5 ⟨q7, 2, none⟩ _ k (fun e => by obtain ⟨cur, hcur⟩ := (HF5.out.blk k hk).2.2; have e' : k = q7 := e; subst e'; exact absurd (hcur.uniq H7e.out) (by decide))) (fun k hk _ => Below.heap_setCell w5 ⟨q7, 2, none⟩ _ k (by rcases hk with h | h <;> exact h.1)) (fun _ h _ => h) (fun _ h _ => h)
                  case measure => simp [intOf]; omega
                · go_simp
                  refine (HN3.out _ hb3w).mono ?_
                  rintro e w4 ⟨A5, c5, rfl, hO5, hb4⟩
                  rw [HNsi2.out] at hO5 ⊢
                  have hb4w : Below wb.heap.size wb w4 := hb3w.trans (hb4.mono hb3w.size)
                  have c74 : w4.cell? ⟨q7, 2, none⟩ = some (.slice Ax j cx) := (K7.out.old hb4w).cell 2
                  have z74 : q7 < w4.heap.size := (K7.out.old hb4w).lt
                  have hw4 : Below w.heap.size w w4 := HBb.out.trans (hb4w.mono HBb.out.size)
                  obtain ⟨q5, cx5, w5, hr5, hk5, hq5, hb5, hF5⟩ := can_pushP (w := w) (wo := wo) (wb := wb) (X1 := fun k => k ≠ q7 ∧ k ≠ w.heap.size + 1 ∧ some k ≠ (Value.slice Al nl cl).ownBlock ∧ (some k ≠ (Value.slice A2 ng c2).ownBlock ∧ w.heap.size ≤ k)) (X2 := fun k => k ≠ q7 ∧ k ≠ w.heap.size + 1 ∧ some k ≠ (Value.slice Al nl cl).ownBlock ∧ (Sb k ∧ k < w.heap.size)) nv fpr (numsF l M.strs flo) (numsF l M.strs fsi) fbo A4 A5 Ab c4 c5 cb nlo nsi nb j HNlo2.out.symm HNsi2.out.symm HNb5.out HTl.out (by omega) HBo.out.size hw4 hb4w HFr.out (by rw [HNb5.out]; exact HP4.out) (by omega) (own_old hO4 hb4) (own_mono hO5 hb3w.size) RBO.out HX1.out HX2.out
                  have hkk : ∀ k t cs, Blk w4 k t cs → (k < wo.heap.size ∨ q9 ≤ k ∨ t ≠ 40) → Blk w5 k t cs := fun k t cs h hor => (hk5 k (fun e => by obtain ⟨h1, h2⟩ := HRb.out k e; obtain ⟨cur, hcur⟩ := (HFr.out.blk k e).2.2; have hu := h.uniq (hcur.old hb4w); rcases hor with h3 | h3 | h3; omega; omega; exact h3 hu) h.lt).trans h
                  have c75 := (hkk _ _ _ (K7.out.old hb4w) (.inr (.inr (by decide)))).cell 2
                  have f75 := (hkk _ _ _ (K7.out.old hb4w) (.inr (.inr (by decide)))).frozen 2
                  change w5.cell? ⟨q7, 2, none⟩ = some (.slice Ax j cx) at c75
                  have HO4 := Lib.hid (own_old hO4 hb4)
                  have HKK := Lib.hid hkk
                  have HB5 := Lib.hid hb5
                  have HF5 := Lib.hid hF5
                  have HB4W := Lib.hid hb4w
                  have H7e : Hid (Blk w5 q7 30 #[.slice Al nl cl, .slice A2 ng c2, .slice Ax j cx, .slice Ae ne ce]) := hkk _ _ _ (K7.out.old hb4w) (.inr (.inr (by decide)))
                  have HGe : Hid (w5.ownsRow wo.heap.size 3 1 (.slice A2 ng c2) ng (intV (numsF l M.strs M.globs))) := own_blocks (own_old HGl.out hb4w) (fun k hk => hk5 k (fun e => by obtain ⟨cur, hcur⟩ := (HFr.out.blk k e).2.2; exact own_ne (own_old HGl.out hb4w) (hcur.old hb4w) (by decide) hk) ((own_old HGl.out hb4w).lt k hk.symm).2)
                  clear hkk hk5 hb5 hF5 hO4 hO5
                  have hS4 := (show (fun W => Blk W w.heap.size 30 #[.slice (some ⟨bS, oS, none⟩) i cs, .slice Ag ng cg, .slice (some ⟨bF, oF, none⟩) nf cf, .slice Ae ne ce] ∧ Blk W q9 40 #[.int .i64 (nm : Int), .int .i64 fpr, .slice Afl nlo clo, .slice Afs nsi csi, .slice Ab nb cb] ∧ W.cell? ⟨bS, oS + nm, none⟩ = some (.string (bs sn))) w4 from ⟨KMb.out.old hb4w, K9.out.old hb4w, cell_old hb4w (World.block_lt_of_cell? wb ⟨bS, oS + nm, none⟩ CSb.out) CSb.out⟩)
                  refine hKQ.out _ _ hS4 (fun _ => ?_)
                  clear hKQ KQ
                  try simp only [Act.put, List.setIfInBounds_toArray, List.set_cons_zero, List.set_cons_succ]
                  refine wpAnyH_take (i := 26) (oi := ⟨_, _, _, _, _, _⟩) (v := ?_) rfl (by kernel_rfl) (by kernel_rfl) (by kernel_rfl) (fun _ _ _ h => h) (Or.inl ⟨by rfl, ?_⟩) (by assumption) ?_
                  rotate_left
                  · (intro W hSW; (try dsimp only at hSW); obtain ⟨s1, s2, s3⟩ := hSW; obtain ⟨p0, p1, p2, p3⟩ := s1.c4; obtain ⟨p4, p5, p6, p7, p8⟩ := s2.c5; go_simp; first | done | with_reducible rfl)
                  try simp only [Act.put, List.setIfInBounds_toArray, List.set_cons_zero, List.set_cons_succ]
                  refine wpAnyH_ready (rs := [1, 27]) (by kernel_rfl) (by simp) ?_
                  refine AllReadyH.cons (o := ⟨_, _, _, _, _, _⟩) rfl (fun KQ hKQ => ?_) (AllReadyH.cons (o := ⟨_, _, _, _, _, _⟩) rfl (fun KQ hKQ => ?_) AllReadyH.nil)
                  · go_simp
                    refine hKQ.out _ _ hS4 (fun _ => ?_)
                    clear hKQ KQ
                    try simp only [Act.put, List.setIfInBounds_toArray, List.set_cons_zero, List.set_cons_succ]
                    refine wpAnyH_ready (rs := [27]) (by kernel_rfl) (by simp) ?_
                    refine AllReadyH.cons (o := ⟨_, _, _, _, _, _⟩) rfl (fun KQ hKQ => ?_) AllReadyH.nil
                    go_simp
                    have hS6 := (show (fun W => Blk W w.heap.size 30 #[.slice (some ⟨bS, oS, none⟩) i cs, .slice Ag ng cg, .slice (some ⟨bF, oF, none⟩) nf cf, .slice Ae ne ce] ∧ Blk W q9 40 #[.int .i64 (nm : Int), .int .i64 fpr, .slice Afl nlo clo, .slice Afs nsi csi, .slice Ab nb cb] ∧ W.cell? ⟨bS, oS + nm, none⟩ = some (.string (bs sn))) (w4.alloc (.cells #[.int .i64 nv, .int .i64 fpr, .slice A4 nlo c4, .slice A5 nsi c5, .slice Ab nb cb] 40)) from ⟨hS4.1.alloc _, hS4.2.1.alloc _, cell_old ((Below.refl _ w4).alloc (Nat.le_refl _) _) (World.block_lt_of_cell? w4 ⟨bS, oS + nm, none⟩ hS4.2.2) hS4.2.2⟩)
                    refine hKQ.out _ _ hS6 (fun _ => ?_)
                    clear hKQ KQ
                    try simp only [Act.put, List.setIfInBounds_toArray, List.set_cons_zero, List.set_cons_succ]
                    refine wpAnyH_ready (rs := [28]) (by kernel_rfl) (by simp) ?_
                    refine AllReadyH.cons (o := ⟨_, _, _, _, _, _⟩) rfl (fun KQ hKQ => ?_) AllReadyH.nil
                    refine step_append_run _ (by rfl) _ _ _ (by rfl) _ _ (by rfl) (by rfl) _ _ hr5 ?_
                    have hS5 := (show (fun W => Blk W w.heap.size 30 #[.slice (some ⟨bS, oS, none⟩) i cs, .slice Ag ng cg, .slice (some ⟨bF, oF, none⟩) nf cf, .slice Ae ne ce] ∧ Blk W q9 40 #[.int .i64 (nm : Int), .int .i64 fpr, .slice Afl nlo clo, .slice Afs nsi csi, .slice Ab nb cb] ∧ W.cell? ⟨bS, oS + nm, none⟩ = some (.string (bs sn))) w5 from ⟨HKK.out _ _ _ hS4.1 (.inl (by omega)), HKK.out _ _ _ hS4.2.1 (.inr (.inl (Nat.le_refl _))), cell_old HB5.out (by have := HBS.out; omega) hS4.2.2⟩)
                    refine hKQ.out _ _ hS5 (fun _ => ?_)
                    clear hKQ KQ
                    try simp only [Act.put, List.setIfInBounds_toArray, List.set_cons_zero, List.set_cons_succ]
                    refine wpAnyH_take (i := 29) (oi := ⟨_, _, _, _, _, _⟩) (v := ?_) rfl (by kernel_rfl) (by kernel_rfl) (by kernel_rfl) (fun _ _ _ h => h) (Or.inl ⟨by rfl, ?_⟩) (by assumption) ?_
                    rotate_left
                    · (intro W hSW; (try dsimp only at hSW); go_simp; first | done | with_reducible rfl)
                    try simp only [Act.put, List.setIfInBounds_toArray, List.set_cons_zero, List.set_cons_succ]
                    refine wpAnyH_ready (rs := [30]) (by kernel_rfl) (by simp) ?_
                    refine AllReadyH.cons (o := ⟨_, _, _, _, _, _⟩) rfl (fun KQ hKQ => ?_) AllReadyH.nil
                    go_simp
                    refine hKQ.out _ _ (⟨hS5.1.far (by show _ ≠ q7; omega) _, hS5.2.1.far (by show _ ≠ q7; omega) _, (World.cell?_setCell_other w5 ⟨q7, 2, none⟩ ⟨bS, oS + nm, none⟩ _ (fun e => by injection e with e; have := HBS.out; omega)).trans hS5.2.2⟩) (fun _ => ?_)
                    clear hKQ KQ
                    try simp only [Act.put, List.setIfInBounds_toArray, List.set_cons_zero, List.set_cons_succ]
                    refine wpAnyH_done (by kernel_rfl) ?_ _
                    clear hHeld hS1 hS3 hS4 hS5 hS6 hr5 c7 c73 c74 c75 f75
                    go_wp2
                    go_roundw
                    case rel =>
                      refine ⟨j + 1, _, _, by omega, by go_num, ?_, H7e.out.set_ 2 _, own_blocks HGe.out (fun k hk => Below.heap_setCell w5 ⟨q7, 2, none⟩ _ k (fun e => own_ne HGe.out H7e.out (by decide) (by have e' : k = q7 := e; rw [← e']; exact hk))), ?_⟩
                      · exact Below.set1 ((HBo.out.trans (HB4W.out.mono HBo.out.size)).trans HB5.out) hq7 _
                      · rw [HTk.out, HNv.out]
                        exact HF5.out.kept (fun k hk => Below.heap_setCell w5 ⟨q7, 2, none⟩ _ k (fun e => by obtain ⟨cur, hcur⟩ := (HF5.out.blk k hk).2.2; have e' : k = q7 := e; subst e'; exact absurd (hcur.uniq H7e.out) (by decide))) (fun k hk _ => Below.heap_setCell w5 ⟨q7, 2, none⟩ _ k (by rcases hk with h | h <;> exact h.1)) (fun _ h _ => h) (fun _ h _ => h)
                    case measure => simp [intOf]; omega
                  · go_simp
                    have hS6 := (show (fun W => Blk W w.heap.size 30 #[.slice (some ⟨bS, oS, none⟩) i cs, .slice Ag ng cg, .slice (some ⟨bF, oF, none⟩) nf cf, .slice Ae ne ce] ∧ Blk W q9 40 #[.int .i64 (nm : Int), .int .i64 fpr, .slice Afl nlo clo, .slice Afs nsi csi, .slice Ab nb cb] ∧ W.cell? ⟨bS, oS + nm, none⟩ = some (.string (bs sn))) (w4.alloc (.cells #[.int .i64 nv, .int .i64 fpr, .slice A4 nlo c4, .slice A5 nsi c5, .slice Ab nb cb] 40)) from ⟨hS4.1.alloc _, hS4.2.1.alloc _, cell_old ((Below.refl _ w4).alloc (Nat.le_refl _) _) (World.block_lt_of_cell? w4 ⟨bS, oS + nm, none⟩ hS4.2.2) hS4.2.2⟩)
                    refine hKQ.out _ _ hS6 (fun _ => ?_)
                    clear hKQ KQ
                    try simp only [Act.put, List.setIfInBounds_toArray, List.set_cons_zero, List.set_cons_succ]
                    refine wpAnyH_ready (rs := [1]) (by kernel_rfl) (by simp) ?_
                    refine AllReadyH.cons (o := ⟨_, _, _, _, _, _⟩) rfl (fun KQ hKQ => ?_) AllReadyH.nil
                    go_simp
                    refine hKQ.out _ _ hS6 (fun _ => ?_)
                    clear hKQ KQ
                    try simp only [Act.put, List.setIfInBounds_toArray, List.set_cons_zero, List.set_cons_succ]
                    refine wpAnyH_ready (rs := [28]) (by kernel_rfl) (by simp) ?_
                    refine AllReadyH.cons (o := ⟨_, _, _, _, _, _⟩) rfl (fun KQ hKQ => ?_) AllReadyH.nil
                    refine step_append_run _ (by rfl) _ _ _ (by rfl) _ _ (by rfl) (by rfl) _ _ hr5 ?_
                    have hS5 := (show (fun W => Blk W w.heap.size 30 #[.slice (some ⟨bS, oS, none⟩) i cs, .slice Ag ng cg, .slice (some ⟨bF, oF, none⟩) nf cf, .slice Ae ne ce] ∧ Blk W q9 40 #[.int .i64 (nm : Int), .int .i64 fpr, .slice Afl nlo clo, .slice Afs nsi csi, .slice Ab nb cb] ∧ W.cell? ⟨bS, oS + nm, none⟩ = some (.string (bs sn))) w5 from ⟨HKK.out _ _ _ hS4.1 (.inl (by omega)), HKK.out _ _ _ hS4.2.1 (.inr (.inl (Nat.le_refl _))), cell_old HB5.out (by have := HBS.out; omega) hS4.2.2⟩)
                    refine hKQ.out _ _ hS5 (fun _ => ?_)
                    clear hKQ KQ
                    try simp only [Act.put, List.setIfInBounds_toArray, List.set_cons_zero, List.set_cons_succ]
                    refine wpAnyH_take (i := 29) (oi := ⟨_, _, _, _, _, _⟩) (v := ?_) rfl (by kernel_rfl) (by kernel_rfl) (by kernel_rfl) (fun _ _ _ h => h) (Or.inl ⟨by rfl, ?_⟩) (by assumption) ?_
                    rotate_left
                    · (intro W hSW; (try dsimp only at hSW); go_simp; first | done | with_reducible rfl)
                    try simp only [Act.put, List.setIfInBounds_toArray, List.set_cons_zero, List.set_cons_succ]
                    refine wpAnyH_ready (rs := [30]) (by kernel_rfl) (by simp) ?_
                    refine AllReadyH.cons (o := ⟨_, _, _, _, _, _⟩) rfl (fun KQ hKQ => ?_) AllReadyH.nil
                    go_simp
                    refine hKQ.out _ _ (⟨hS5.1.far (by show _ ≠ q7; omega) _, hS5.2.1.far (by show _ ≠ q7; omega) _, (World.cell?_setCell_other w5 ⟨q7, 2, none⟩ ⟨bS, oS + nm, none⟩ _ (fun e => by injection e with e; have := HBS.out; omega)).trans hS5.2.2⟩) (fun _ => ?_)
                    clear hKQ KQ
                    try simp only [Act.put, List.setIfInBounds_toArray, List.set_cons_zero, List.set_cons_succ]
                    refine wpAnyH_done (by kernel_rfl) ?_ _
                    clear hHeld hS1 hS3 hS4 hS5 hS6 hr5 c7 c73 c74 c75 f75
                    go_wp2
                    go_roundw
                    case rel =>
                      refine ⟨j + 1, _, _, by omega, by go_num, ?_, H7e.out.set_ 2 _, own_blocks HGe.out (fun k hk => Below.heap_setCell w5 ⟨q7, 2, none⟩ _ k (fun e => own_ne HGe.out H7e.out (by decide) (by have e' : k = q7 := e; rw [← e']; exact hk))), ?_⟩
                      · exact Below.set1 ((HBo.out.trans (HB4W.out.mono HBo.out.size)).trans HB5.out) hq7 _
                      · rw [HTk.out, HNv.out]
                        exact HF5.out.kept (fun k hk => Below.heap_setCell w5 ⟨q7, 2, none⟩ _ k (fun e => by obtain ⟨cur, hcur⟩ := (HF5.out.blk k hk).2.2; have e' : k = q7 := e; subst e'; exact absurd (hcur.uniq H7e.out) (by decide))) (fun k hk _ => Below.heap_setCell w5 ⟨q7, 2, none⟩ _ k (by rcases hk with h | h <;> exact h.1)) (fun _ h _ => h) (fun _ h _ => h)
                    case measure => simp [intOf]; omega
          · obtain rfl : j = nf := by omega
            have KRx := KRr.out.old hI.out.1
            obtain ⟨k0, k1, k2, k3⟩ := hI.out.2.1.c4
            obtain ⟨r0, r1, r2, r3⟩ := KRx.c4
            have f0 := KRx.frozen 0
            have f1 := KRx.frozen 1
            have f2 := KRx.frozen 2
            have f3 := KRx.frozen 3
            have HKR := Lib.hid KRx
            clear KRx
            go_wp2
            refine bodyPost_ret (v := .agg #[.slice Al nl cl, .slice A2 ng c2, .slice Ax j cx, .slice Ae ne ce]) (by simp [results, Try.results29, go_sem, r0, r1, r2, r3]) rfl ?_
            have e1 : (canM M).strs.length = nl := by show (canl M).length = nl; rw [HLL.out]; exact hNL.out.symm
            have e2 : (canM M).globs.length = ng := by show (numsF (canl M) M.strs M.globs).length = ng; rw [HLL.out]; exact HNGl.out
            have e3 : (canM M).funcs.length = j := by show (M.funcs.map _).length = j; rw [List.length_map]; exact HNF.out.symm
            have e4 : (M.funcs.take j).map (canFn l M.strs) = (canM M).funcs := by rw [List.take_of_length_le (by have := HNF.out; omega)]; show _ = M.funcs.map (canFn (canl M) M.strs); rw [HLL.out]
            have hOx := own_old hO.out hI.out.1
            have h0w := HB0.out.size
            refine ⟨Al, cl, A2, c2, Ax, cx, ?_, ?_, ?_, ?_, ?_⟩
            · rw [e1, e2, e3, HNE.out]
            · rw [e1, show (canM M).strs = l from HLL.out]
              exact own_blocks (own_mono hOx h0w) (fun k hk => set4_far _ _ _ _ (fun e => own_ne hOx HKR.out (by decide) (by rw [← e]; exact hk)))
            · rw [e2, show (canM M).globs = numsF l M.strs M.globs from by show numsF (canl M) M.strs M.globs = _; rw [HLL.out]]
              exact own_blocks (own_mono hI.out.2.2.1 (by omega)) (fun k hk => set4_far _ _ _ _ (fun e => own_ne hI.out.2.2.1 HKR.out (by decide) (by rw [← e]; exact hk)))
            · rw [e1, e2, e3, ← e4]
              have hF := hI.out.2.2.2.kept (w' := ((((wr.setCell ⟨w.heap.size + 1, 0, none⟩ (.slice Al nl cl)).setCell ⟨w.heap.size + 1, 1, none⟩ (.slice A2 ng c2)).setCell ⟨w.heap.size + 1, 2, none⟩ (.slice Ax j cx)).setCell ⟨w.heap.size + 1, 3, none⟩ (.slice Ae ne ce))) (X1' := fun k => some k ≠ (Value.slice Al nl cl).ownBlock ∧ (some k ≠ (Value.slice A2 ng c2).ownBlock ∧ w.heap.size ≤ k)) (X2' := fun k => some k ≠ (Value.slice Al nl cl).ownBlock ∧ (Sb k ∧ k < w.heap.size)) (fun k hk => set4_far _ _ _ _ (fun e => by obtain ⟨cur, hcur⟩ := (hI.out.2.2.2.blk k hk).2.2; subst e; exact absurd (hcur.uniq HKR.out) (by decide))) (fun k hk _ => set4_far _ _ _ _ (by rcases hk with h | h <;> exact h.2.1)) (fun k hk _ => hk.2.2) (fun k hk _ => hk.2.2)
              exact hF.base (by omega)
            · exact set4 HBx.out (by omega) _ _ _ _
end Go.Proofs.Ytpdebnecfknohaa
