
/-
  What the reference's SameBody leaves, of any two bodies.
-/
import Derived.Test.YtpdebnecfknohaaRs
namespace Go.Proofs.Ytpdebnecfknohaa
open Go.RowKit
set_option linter.unusedVariables false
set_option maxRecDepth 20000

theorem Bd.same_lenne (t u : Bd) (h : t.len ≠ u.len) : t.same u = false := Bd.same_shal t u (Bd.shal_lenne t u h)
theorem Bd.sub_size (t : Bd) (i : Nat) {k a1 a2 b1 b2 : Int} {xs : List (Int × Int)} {s r : Bd} (h : t.drop i = .cons k a1 a2 b1 b2 xs s r) : s.size + 1 ≤ t.size ∧ s.wide + xs.length ≤ t.wide := by
  have h1 := Bd.wide_drop t i
  have h2 := Bd.size_drop t i
  rw [h] at h1 h2
  simp only [Bd.wide, Bd.size] at h1 h2
  omega

theorem quiet_in {P : Program} {f : FuncId} {args : Array Value} {w : World} {n : Nat} {v : Value}
    (h : Calls P f args (w.drewN n) fun e w' => e = .returned v ∧ ∃ k, w' = (w.drewN n).drewN k) : Calls P f args (w.drewN n) fun e w' => e = .returned v ∧ ∃ k, w' = w.drewN k :=
  h.mono fun e w' ⟨he, k, hw⟩ => ⟨he, n + k, by rw [hw, World.drewN_drewN]⟩
theorem below_dN (w : World) (n B : Nat) : Below B w (w.drewN n) := ⟨rfl, rfl, rfl, Nat.le_refl _, fun _ _ => rfl⟩
theorem quiet_w {w a : World} {m : Nat} (h : a = w.drewN m) (n : Nat) : a.drewN n = w.drewN (m + n) := by rw [h, World.drewN_drewN]

set_option maxRecDepth 20000 in
set_option maxHeartbeats 1500000 in
theorem rsame_any (N : Nat) : ∀ (t u : Bd) (A B : Option Addr) (c d : Nat) (v : Bool) (w : World), t.size ≤ N → t.size ≤ 1000000000 → u.size ≤ 1000000000 → t.wide ≤ 1000000000 → u.wide ≤ 1000000000 → BodyV w A t → BodyV w B u → t.same u = v →
    Calls Try.prog 54 #[.slice A t.len c, .slice B u.len d] w fun e w' => e = .returned (.bool v) ∧ ∃ k, w' = w.drewN k := by
  induction N with
  | zero =>
    intro t u A B c d v w hN hs1 hs2 hw1 hw2 h1 h2 hv
    have ht : t = .nil := by cases t <;> simp [Bd.size] at hN ⊢
    subst ht
    by_cases hl : u.len = 0
    · rw [hl]
      obtain rfl : v = true := by rw [← hv]; exact Bd.same_empty _ _ rfl hl
      exact (rsame_nil A B c d _).mono fun e w' ⟨he, hw⟩ => ⟨he, 0, hw.symm⟩
    · obtain rfl : v = false := by rw [← hv]; exact Bd.same_lenne _ _ (by simp only [Bd.len]; omega)
      exact (rsame_len A B 0 u.len c d _ (by omega) (by omega) (by have := Bd.len_le u; omega)).mono fun e w' ⟨he, hw⟩ => ⟨he, 0, hw.symm⟩
  | succ N ih =>
    intro t u A B c d v w hN hs1 hs2 hw1 hw2 h1 h2 hv
    have hl1 := Bd.len_le t
    have hl2 := Bd.len_le u
    by_cases hlen : t.len = u.len
    · have IH := Lib.hid ih
      have H1 := Lib.hid h1
      have H2 := Lib.hid h2
      have HV := Lib.hid hv
      obtain ⟨L, hL⟩ : ∃ L, L = t.len := ⟨_, rfl⟩
      have HL1 : Hid (t.len = L) := hL.symm
      have HL2 : Hid (u.len = L) := hlen.symm.trans hL.symm
      rw [← hlen, ← hL]
      rw [← hL] at hl1
      clear hL hlen hl2 h1 h2 hv ih
      go_enter Try.func54, Try.ntmps54
      go_wp2_with fail
      go_loopw [5] (fun s wr => ∃ (i m : Nat), i ≤ L ∧ s = .int .i64 (i : Int) ∧ Hid (wr = w.drewN m) ∧ Hid ((t.drop i).same (u.drop i) = v)) (fun s _ => L - (intOf s).toNat)
      case atStart => exact ⟨0, 0, Nat.zero_le _, rfl, rfl, HV⟩
      case round =>
        obtain ⟨i, m, hi, rfl, hW, hE⟩ := hrel
        by_cases hlt : i < L
        · obtain ⟨k1, a1, a2, b1, b2, xs, s1, r1, hd1⟩ := Bd.drop_cons t i (by have := HL1.out; omega)
          obtain ⟨k2, a1', a2', b1', b2', xs', s2, r2, hd2⟩ := Bd.drop_cons u i (by have := HL2.out; omega)
          obtain ⟨b, o, rfl, hat⟩ := H1.out (by have := HL1.out; omega)
          obtain ⟨b', o', rfl, hat'⟩ := H2.out (by have := HL2.out; omega)
          have hBW : Below w.heap.size w wr := by rw [hW.out]; exact below_dN w m _
          have q1 := (hat.old hBW).drop t b o i
          have q2 := (hat'.old hBW).drop u b' o' i
          have hE2 := hE.out
          have hz1 := Bd.sub_size t i hd1
          have hz2 := Bd.sub_size u i hd2
          rw [hd1] at q1 hE2
          rw [hd2] at q2 hE2
          obtain ⟨⟨d0, d1, d2, d3, d4⟩, ⟨va, d5, HA1⟩, ⟨As, cs, d6, hS1⟩, _⟩ := q1
          obtain ⟨⟨f0, f1, f2, f3, f4⟩, ⟨va', f5, HA2⟩, ⟨As', cs', f6, hS2⟩, _⟩ := q2
          obtain ⟨Aa, ca, rfl, ha1⟩ := HA1
          obtain ⟨Aa', ca', rfl, ha2⟩ := HA2
          have HA1 := Lib.hid ha1
          have HA2 := Lib.hid ha2
          have HS1 : Hid (BodyV wr As s1) := hS1
          have HS2 : Hid (BodyV wr As' s2) := hS2
          have Hn1 := Lib.hid (Bd.drop_succ t i hd1)
          have Hn2 := Lib.hid (Bd.drop_succ u i hd2)
          have HE2 := Lib.hid hE2
          clear hat hat' ha1 ha2 hS1 hS2 hE2 hE hd1 hd2 HV hBW
          have HX1 : Hid (xs.length ≤ 1000000000) := (by omega : xs.length ≤ 1000000000)
          have HX2 : Hid (xs'.length ≤ 1000000000) := (by omega : xs'.length ≤ 1000000000)
          have hli : (i : Int) < (L : Int) := by omega
          by_cases hk : k1 = k2
          · subst hk
            by_cases ha : a1 = a1' ∧ a2 = a2'
            · obtain ⟨rfl, rfl⟩ := ha
              by_cases hb : b1 = b1' ∧ b2 = b2'
              · obtain ⟨rfl, rfl⟩ := hb
                by_cases hxl : xs.length = xs'.length
                · cases hsub : s1.same s2
                  · obtain rfl : v = false := by rw [← HE2.out]; simp [Bd.same, hsub]
                    have HI := Lib.hid (fun w' hb' => IH.out s1 s2 As As' cs cs' false w' (by omega) (by omega) (by omega) (by omega) (by omega) (HS1.out.old hb') (HS2.out.old hb') hsub)
                    generalize xs'.length = lx' at *
                    generalize xs.length = lx at *
                    subst hxl
                    clear hsub
                    clear HA1 HA2 HS1 HS2 Hn1 Hn2 HE2 IH hz1 hz2
                    go_upto_region 6 with (fail)
                    simp only [List.append]
                    go_quiet ((go_at_call 54; exact quiet_in (HI.out _ (below_dN _ _ _))))
                    go_wp2
                    go_ret
                    exact ⟨rfl, _, quiet_w hW.out _⟩
                  · have HI := Lib.hid (fun w' hb' => IH.out s1 s2 As As' cs cs' true w' (by omega) (by omega) (by omega) (by omega) (by omega) (HS1.out.old hb') (HS2.out.old hb') hsub)
                    have HE3 : Hid ((decide (xs = xs') && r1.same r2) = v) := by
                      show _ = _
                      rw [← HE2.out]; simp [Bd.same, hsub]
                    have HXL := Lib.hid hxl
                    have HXX : Hid (∀ (lx : Nat), lx = xs.length → (∀ q, q < lx → xs.getD q (0, 0) = xs'.getD q (0, 0)) → xs = xs') := fun lx hlx h => list_ext_args hxl (fun q hq => h q (by omega))
                    obtain ⟨lx, hlx⟩ : ∃ lx, lx = xs.length := ⟨_, rfl⟩
                    have HLX := Lib.hid hlx
                    rw [← hxl, ← hlx] at f5
                    rw [← hlx] at d5
                    rw [← hlx] at hz1
                    clear hsub hxl hlx
                    clear HS1 HS2 HE2 IH
                    go_upto_region 6 with (fail)
                    simp only [List.append]
                    go_quiet ((go_at_call 54; exact quiet_in (HI.out _ (below_dN _ _ _))))
                    go_wp2_with fail
                    obtain ⟨w9, hw9⟩ : ∃ w9, w9 = wr := ⟨wr, rfl⟩
                    subst hw9
                    go_loopw [6] (fun s wi => ∃ (j m2 : Nat), j ≤ lx ∧ s = .int .i64 (j : Int) ∧ Hid (wi = w9.drewN m2) ∧ Hid (∀ q, q < j → xs.getD q (0, 0) = xs'.getD q (0, 0))) (fun s _ => lx - (intOf s).toNat)
                    case atStart => exact ⟨0, nq, Nat.zero_le _, rfl, rfl, fun q hq => absurd hq (by omega)⟩
                    case round =>
                      obtain ⟨j, m2, hj, rfl, hW2, hEq⟩ := hrel
                      have g5 : wr.cell? ⟨b, o + i * 7 + 5, none⟩ = some (.slice Aa lx ca) := by rw [hW2.out, World.cell?_drewN]; exact d5
                      have g5' : wr.cell? ⟨b', o' + i * 7 + 5, none⟩ = some (.slice Aa' lx ca') := by rw [hW2.out, World.cell?_drewN]; exact f5
                      by_cases hjl : j < lx
                      · obtain ⟨ba, oa, rfl, dd⟩ := HA1.out (by have := HLX.out; omega)
                        obtain ⟨ba', oa', rfl, dd'⟩ := HA2.out (by have := HLX.out; have := HXL.out; omega)
                        obtain ⟨x1, x2⟩ := dd j (by have := HLX.out; omega)
                        obtain ⟨y1, y2⟩ := dd' j (by have := HLX.out; have := HXL.out; omega)
                        rw [← World.cell?_drewN w9 m2, ← hW2.out] at x1 x2 y1 y2
                        have HNe : Hid (xs.getD j (0, 0) ≠ xs'.getD j (0, 0) → v = false) := fun e => by
                          rw [← HE3.out, decide_eq_false (fun e2 => e (by rw [e2]))]; rfl
                        generalize hp : xs.getD j (0, 0) = p at *
                        generalize hq : xs'.getD j (0, 0) = q at *
                        have HP := Lib.hid hp
                        have HQ := Lib.hid hq
                        clear hp hq dd dd'
                        obtain ⟨p1, p2⟩ := p
                        obtain ⟨q1, q2⟩ := q
                        simp only at x1 x2 y1 y2
                        by_cases e : p1 = q1 ∧ p2 = q2
                        · obtain ⟨rfl, rfl⟩ := e
                          clear d0 d1 d2 d3 d4 d5 d6 f0 f1 f2 f3 f4 f5 f6
                          go_upto_region 11 with (fail)
                          go_quiet (fail)
                          go_wp2
                          go_roundw
                          case rel =>
                            refine ⟨j + 1, _, by omega, by go_num, quiet_w hW2.out _, ?_⟩
                            intro z hz
                            by_cases hzj : z = j
                            · subst hzj; exact HP.out.trans HQ.out.symm
                            · exact hEq.out z (by omega)
                          case measure => simp [intOf]; omega
                        · obtain rfl : v = false := HNe.out (fun e2 => e (by injection e2 with e3 e4; exact ⟨e3, e4⟩))
                          clear HNe
                          by_cases hp1 : p1 = q1
                          · subst hp1
                            have hx : (p2 == q2) = false := by simp at e ⊢; exact e
                            have hx2 : (p2 != q2) = true := by simp at e ⊢; exact e
                            have hx3 : ¬ (p2 = q2) := by simpa using hx
                            clear e d0 d1 d2 d3 d4 d5 d6 f0 f1 f2 f3 f4 f5 f6
                            go_upto_region 11 with (fail)
                            go_quiet (fail)
                            go_wp2
                            go_ret
                            exact ⟨rfl, _, (quiet_w hW2.out _).trans (quiet_w hW.out _)⟩
                          · have hx : (p1 == q1) = false := by simpa using hp1
                            have hx2 : (p1 != q1) = true := by simpa using hp1
                            clear e d0 d1 d2 d3 d4 d5 d6 f0 f1 f2 f3 f4 f5 f6
                            go_upto_region 11 with (fail)
                            go_quiet (fail)
                            go_wp2
                            go_ret
                            exact ⟨rfl, _, (quiet_w hW2.out _).trans (quiet_w hW.out _)⟩
                      · obtain rfl : j = lx := by omega
                        have hxx := HXX.out j HLX.out hEq.out
                        have HE4 : Hid (r1.same r2 = v) := by
                          show _ = _
                          rw [← HE3.out, decide_eq_true hxx, Bool.true_and]
                        clear hxx d0 d1 d2 d3 d4 d5 d6 f0 f1 f2 f3 f4 f5 f6
                        go_wp2
                        go_roundw
                        case rel => exact ⟨i + 1, _, by omega, by go_num, hW2.out.trans (quiet_w hW.out _), by rw [Hn1.out, Hn2.out]; exact HE4⟩
                        case measure => simp [intOf]; omega
                · obtain rfl : v = false := by rw [← HE2.out]; simp only [Bd.same]; rw [decide_eq_false (fun e => hxl (congrArg List.length e))]; simp
                  have hx : ((xs.length : Int) == (xs'.length : Int)) = false := by simp; omega
                  have hx2 : ((xs.length : Int) != (xs'.length : Int)) = true := by simp; omega
                  clear HX1 HX2 HA1 HA2 HS1 HS2 Hn1 Hn2 HE2 IH hz1 hz2
                  go_upto_region 6 with (fail)
                  simp only [List.append]
                  go_quiet (fail)
                  go_wp2
                  go_ret
                  exact ⟨rfl, _, quiet_w hW.out _⟩
              · obtain rfl : v = false := by rw [← HE2.out]; simp [Bd.same, hb]
                by_cases hb1 : b1 = b1'
                · subst hb1
                  have hx : (b2 == b2') = false := by simp at hb ⊢; exact hb
                  have hx2 : (b2 != b2') = true := by simp at hb ⊢; exact hb
                  have hx3 : ¬ (b2 = b2') := by simpa using hx
                  clear hb
                  clear HX1 HX2 HA1 HA2 HS1 HS2 Hn1 Hn2 HE2 IH hz1 hz2
                  go_upto_region 6 with (fail)
                  simp only [List.append]
                  go_quiet (fail)
                  go_wp2
                  go_ret
                  exact ⟨rfl, _, quiet_w hW.out _⟩
                · have hx : (b1 == b1') = false := by simpa using hb1
                  have hx2 : (b1 != b1') = true := by simpa using hb1
                  clear hb
                  clear HX1 HX2 HA1 HA2 HS1 HS2 Hn1 Hn2 HE2 IH hz1 hz2
                  go_upto_region 6 with (fail)
                  simp only [List.append]
                  go_quiet (fail)
                  go_wp2
                  go_ret
                  exact ⟨rfl, _, quiet_w hW.out _⟩
            · obtain rfl : v = false := by rw [← HE2.out]; simp [Bd.same, ha]
              by_cases ha1 : a1 = a1'
              · subst ha1
                have hx : (a2 == a2') = false := by simp at ha ⊢; exact ha
                have hx2 : (a2 != a2') = true := by simp at ha ⊢; exact ha
                have hx3 : ¬ (a2 = a2') := by simpa using hx
                clear ha
                clear HX1 HX2 HA1 HA2 HS1 HS2 Hn1 Hn2 HE2 IH hz1 hz2
                go_upto_region 6 with (fail)
                simp only [List.append]
                go_quiet (fail)
                go_wp2
                go_ret
                exact ⟨rfl, _, quiet_w hW.out _⟩
              · have hx : (a1 == a1') = false := by simpa using ha1
                have hx2 : (a1 != a1') = true := by simpa using ha1
                clear ha
                clear HX1 HX2 HA1 HA2 HS1 HS2 Hn1 Hn2 HE2 IH hz1 hz2
                go_upto_region 6 with (fail)
                simp only [List.append]
                go_quiet (fail)
                go_wp2
                go_ret
                exact ⟨rfl, _, quiet_w hW.out _⟩
          · obtain rfl : v = false := by rw [← HE2.out]; simp [Bd.same, hk]
            have hx : (k1 == k2) = false := by simpa using hk
            have hx2 : (k1 != k2) = true := by simpa using hk
            clear HX1 HX2 HA1 HA2 HS1 HS2 Hn1 Hn2 HE2 IH hz1 hz2
            go_upto_region 6 with (fail)
            simp only [List.append]
            go_quiet (fail)
            go_wp2
            go_ret
            exact ⟨rfl, _, quiet_w hW.out _⟩
        · obtain rfl : i = L := by omega
          have hE2 := hE.out
          rw [Bd.drop_end t i (by have := HL1.out; omega), Bd.drop_end u i (by have := HL2.out; omega)] at hE2
          obtain rfl : v = true := by rw [← hE2]; rfl
          clear hE2
          go_wp2
          go_ret
          exact ⟨rfl, m, hW.out⟩
    · obtain rfl : v = false := by rw [← hv]; exact Bd.same_lenne _ _ hlen
      exact (rsame_len A B t.len u.len c d _ hlen (by omega) (by omega)).mono fun e w' ⟨he, hw⟩ => ⟨he, 0, hw.symm⟩
end Go.Proofs.Ytpdebnecfknohaa
