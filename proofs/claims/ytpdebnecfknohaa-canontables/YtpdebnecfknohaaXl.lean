/-
  Canon: the walk of the tables' law.
-/
import Derived.Test.YtpdebnecfknohaaXi
import Derived.Test.YtpdebnecfknohaaXj
import Derived.Deep.QuietTactic
import Derived.BigQuiet
import Derived.Deep.LoopGhost
namespace Go.Proofs.Ytpdebnecfknohaa
open Go.RowKit Go.Maps
set_option linter.unusedVariables false
set_option linter.unusedSimpArgs false
set_option maxRecDepth 20000
theorem numF_none : ∀ (l : List (List UInt8)) (s : List UInt8) (i : Nat), s ∉ l → numF l s i = -1
  | [], s, i, _ => rfl
  | x :: l, s, i, h => by
    simp only [List.mem_cons, not_or] at h
    rw [numF, if_neg (fun e => h.1 e.symm), numF_none l s (i + 1) h.2]
/-- One more entry that is the string: its place. -/
theorem numF_hit (X : List (List UInt8)) (x : List UInt8) (j : Nat) (hj : j < X.length) (hn : X.Nodup) (h : X[j] = x) : numF (X.take (j + 1)) x 0 = (j : Int) := by
  have h1 := numF_at (X.take (j + 1)) j 0 (by simp; omega) (hn.sublist (List.take_sublist _ _))
  rw [List.getElem_take, h] at h1
  simpa using h1
theorem numF_miss (X : List (List UInt8)) (x : List UInt8) (j : Nat) (hj : j < X.length) (h : X[j] ≠ x) : numF (X.take (j + 1)) x 0 = numF (X.take j) x 0 := by
  rw [List.take_succ_eq_append_getElem hj]
  by_cases hx : x ∈ X.take j
  · exact numF_app _ _ _ _ hx
  · rw [numF_none _ _ _ hx, numF_none]
    simp only [List.mem_append, List.mem_singleton, not_or]
    exact ⟨hx, fun e => h e.symm⟩
/-- The table stays where the other list grows, and the two stay apart. -/
theorem tab_want {B q q5 n : Nat} {wr w5 : World} {L : List (List UInt8)} {v : Value} {xs : List Value} {o : Obj} (h : Tab B wr q L) (hO : wr.ownsRow B 9 1 v n xs) (hA : ∀ k, some k = v.ownBlock → Away wr q k) (hg : (wr.alloc o).grownBy w5 v.ownBlock) (hat : some q5 = v.ownBlock ∨ q5 = wr.heap.size + 1) : Tab B w5 q L ∧ Away w5 q q5 := by
  obtain ⟨A, c, mv, h1, h2, h3⟩ := h.st
  have h1A := h1.alloc o
  have h2A := h2.alloc o
  have hOA := hO.alloc o
  have h15 : Blk w5 q 68 #[.slice A L.length c, mv] := h1A.grown hg (fun e => own_ne hOA h1A (by decide) e)
  have hap : ∀ k, some k = (Value.slice A L.length c).ownBlock → some k ≠ v.ownBlock := fun k hk e => hA k e A _ c (h1.cell 0) hk
  have h25 : w5.ownsRow B 9 1 (.slice A L.length c) L.length (strV L) := own_blocks h2A (fun k hk => hg.block k (h2A.lt k hk.symm).2 (hap k hk))
  refine ⟨⟨A, c, mv, h15, h25, ?_⟩, fun A' n' c' hc e => ?_⟩
  · rcases h3 with h3 | ⟨b, D, h4, h5, h6, h7⟩
    · exact .inl h3
    · exact .inr ⟨b, D, h4, h5, (h6.alloc o).kept hg (map_ne_row (h6.alloc o) hOA), h7⟩
  · have h8 := h15.cell 0
    rw [hc] at h8
    have h9 : Value.slice A' n' c' = .slice A L.length c := by simpa using h8
    rw [h9] at e
    rcases hat with h10 | h10
    · exact hap q5 e h10
    · have := (h2.lt q5 e.symm).2
      omega
/-- What the law's loop keeps. -/
structure CtS (B : Nat) (w wr : World) (q : Nat) (L : List (List UInt8)) (v : Value) : Prop where
  tab : Tab B wr q L
  row : wr.ownsRow B 9 1 v L.length (strV L)
  away : ∀ k, some k = v.ownBlock → Away wr q k
  bel : Below B w wr
theorem CtS.old {B q : Nat} {w wr w' : World} {L : List (List UInt8)} {v : Value} (h : CtS B w wr q L v) (hq : B ≤ wr.heap.size) (hb : Below wr.heap.size wr w') : CtS B w w' q L v :=
  ⟨h.tab.old hb, own_old h.row hb, fun k hk A n c hc => by
    obtain ⟨A1, c1, mv, h1, _, _⟩ := h.tab.st
    have h2 := cell_old hb h1.lt (h1.cell 0)
    rw [h2] at hc
    exact h.away k hk A n c (by rw [h1.cell 0]; exact hc), h.bel.trans (hb.mono hq)⟩
/-- Behind the growth of the list that is wanted. -/
theorem CtS.want {B q q5 c5 : Nat} {w wr w5 : World} {L M : List (List UInt8)} {v : Value} {o : Obj} (h : CtS B w wr q L v) (hq : B ≤ wr.heap.size) (hO5 : w5.ownsRow B 9 1 (.slice (some ⟨q5, 0, none⟩) M.length c5) M.length (strV M)) (hg : (wr.alloc o).grownBy w5 v.ownBlock) (hat : some q5 = v.ownBlock ∨ q5 = wr.heap.size + 1) :
    Tab B w5 q L ∧ w5.ownsRow B 9 1 (.slice (some ⟨q5, 0, none⟩) M.length c5) M.length (strV M) ∧ (∀ k, some k = (Value.slice (some ⟨q5, 0, none⟩) M.length c5).ownBlock → Away w5 q k) ∧ Below B w w5 := by
  obtain ⟨h1, h2⟩ := tab_want h.tab h.row h.away hg hat
  refine ⟨h1, hO5, fun k hk => ?_, (h.bel.alloc hq o).grown hg (by simp; omega) (fun k hk => ((h.row.alloc o).lt k hk).1)⟩
  have : k = q5 := by simpa [Value.ownBlock] using hk
  subst this
  exact h2
/-- Behind Add. -/
theorem CtS.add {B q : Nat} {w w5 w6 : World} {L : List (List UInt8)} {x : List UInt8} {v : Value} {e : Ending} (hO : w5.ownsRow B 9 1 v (addF L x).length (strV (addF L x))) (hA : ∀ k, some k = v.ownBlock → Away w5 q k) (hb : Below B w w5) (h : AddK B q w5 L x e w6) : CtS B w w6 q (addF L x) v := by
  obtain ⟨_, h1, h2, h3⟩ := h
  refine ⟨h1, own_blocks hO (fun k hk => ?_), fun k hk => ?_, hb.trans h2⟩
  · obtain ⟨_, cur, hB⟩ := own_blk hO k hk
    exact (h3 k 9 cur hB (by decide) (hA k hk)).1.trans hB.symm
  · obtain ⟨_, cur, hB⟩ := own_blk hO k hk
    exact (h3 k 9 cur hB (by decide) (hA k hk)).2
end Go.Proofs.Ytpdebnecfknohaa
namespace Go.Proofs.Ytpdebnecfknohaa
open Go.RowKit Go.Maps
set_option linter.unusedVariables false
set_option linter.unusedSimpArgs false
set_option maxRecDepth 20000
theorem CtS.lt {B q : Nat} {w wr : World} {L : List (List UInt8)} {v : Value} (h : CtS B w wr q L v) : q < wr.heap.size := by
  obtain ⟨A, c, mv, h1, _⟩ := h.tab.st
  exact h1.lt
set_option maxHeartbeats 8000000 in
theorem tables_walk (A : Option Addr) (n c : Nat) (l : List (List UInt8)) (w : World) (hs : RdS (fun _ => True) w A n 1 (strV l)) (hn : n = l.length) (hnc : n ≤ c) (hx : ∀ x ∈ l, x.length ≤ maxLen) : Calls Try.prog 13 #[.slice A n c] w (BlB w true) := by
  have HS := Lib.hid hs
  have HN := Lib.hid hn
  have HX := Lib.hid hx
  clear hs hn hx
  go_enter Try.func13, Try.ntmps13
  go_wp2_with fail
  refine (awakeC_any _).mono ?_
  rintro e w1 ⟨rfl, hb1⟩
  have HB1 := Lib.hid hb1
  clear hb1
  dsimp only
  by_cases hbig : 30 < n
  · have hbi : (30 : Int) < (n : Int) := by omega
    go_wp2_with fail
    refine (awakeC_any _).mono ?_
    rintro e w2 ⟨rfl, hb2⟩
    have HB2 := Lib.hid (HB1.out.trans (hb2.mono HB1.out.size))
    clear hb2
    go_wp2
    go_ret
    exact ⟨rfl, HB2.out⟩
  · have hbi : ¬ (30 : Int) < (n : Int) := by omega
    obtain ⟨B, hB⟩ : ∃ B, B = w.heap.size := ⟨_, rfl⟩
    obtain ⟨X, hXe⟩ : ∃ X : Nat → List (List UInt8), X = fun k => addsF [] (l.take k) := ⟨_, rfl⟩
    have HX0 : Hid (X 0 = []) := by show _ = _; rw [hXe]; simp [addsF]
    have HXs : Hid (∀ k (h : k < l.length), X (k + 1) = addF (X k) l[k]) := by rw [hXe]; exact fun k h => by simp only; rw [List.take_succ_eq_append_getElem h, addsF_snoc]
    have HXn : Hid (∀ k, (X k).Nodup) := by rw [hXe]; exact fun k => addsF_nodup _ _ (by simp)
    have HXl : Hid (∀ k, (X k).length ≤ 1000) := by
      rw [hXe]
      intro k
      have h1 := addsF_len (l.take k) []
      have h2 := HN.out
      simp only [List.length_nil, Nat.zero_add] at h1
      have h3 : (l.take k).length ≤ l.length := by rw [List.length_take]; omega
      show (addsF [] (l.take k)).length ≤ 1000
      omega
    clear hXe
    obtain ⟨w2, hw2⟩ : ∃ w2, w2 = w1.alloc (.cells #[.slice none 0 0, .map none] 68) := ⟨_, rfl⟩
    have HB2 : Hid (Below B w w2) := by rw [hw2, hB]; exact HB1.out.alloc HB1.out.size _
    have HC2 : Hid (CtS B w w2 w1.heap.size (X 0) (.slice none 0 0)) := by
      show CtS _ _ _ _ _ _
      rw [HX0.out]
      exact ⟨by rw [hw2]; exact Tab.new w1 B, by exact World.ownsRow_nil _ _ _ _, fun k hk => by simp [Value.ownBlock] at hk, HB2.out⟩
    have HQ : Hid (B ≤ w1.heap.size ∧ w1.heap.size < w2.heap.size) := by rw [hw2, hB]; exact ⟨HB1.out.size, by simp⟩
    go_upto_region 4 with (fail)
    rw [← hw2]
    clear hw2
    obtain ⟨q, hq⟩ : ∃ q, q = w1.heap.size := ⟨_, rfl⟩
    rw [← hq] at HC2 HQ
    try simp only [← hq]
    clear hq HB1
    have HBe := Lib.hid hB
    clear hB
    go_wp2_with fail
    go_loopg [4, 5] (n + 1) (fun f s4 s5 wr => ∃ (k m cw : Nat) (Aw : Option Addr), s4 = .slice Aw m cw ∧ s5 = .int .i64 (k : Int) ∧ k ≤ n ∧ n - k < f ∧ Hid (m = (X k).length) ∧ Hid (CtS B w wr q (X k) (.slice Aw m cw)) ∧ Hid (q < wr.heap.size))
    case atStart => exact ⟨0, 0, 0, none, rfl, rfl, Nat.zero_le _, by omega, by show _ = _; rw [HX0.out]; rfl, HC2, HQ.out.2⟩
    case round =>
      clear HC2 HB2
      obtain ⟨k, m, cw, Aw, rfl, rfl, hk, hkf, hm, hC, hqr⟩ := hrel
      obtain ⟨f, rfl⟩ : ∃ g, gk = g + 1 := ⟨gk - 1, by omega⟩
      by_cases hlt : k < n
      · have hki : (k : Int) < (n : Int) := by omega
        have hkl : k < l.length := by rw [← HN.out]; exact hlt
        obtain ⟨x, hxe⟩ : ∃ x, x = l[k] := ⟨_, rfl⟩
        obtain ⟨b, o, rfl, -, hc⟩ := HS.out.2 (by omega)
        have hcw := hc k (.string (bs x)) (by rw [hxe]; exact strV_get l k hkl)
        have hbw : Below w.heap.size w wr := by rw [← HBe.out]; exact hC.out.bel
        have e0 := cell_old hbw (World.block_lt_of_cell? w _ hcw) hcw
        have HXk := Lib.hid (HX.out x (by rw [hxe]; exact List.getElem_mem hkl))
        obtain ⟨L, hL⟩ : ∃ L, L = X k := ⟨_, rfl⟩
        have HLs : Hid (X (k + 1) = addF L x) := by rw [hL, hxe]; exact HXs.out k hkl
        have HLn : Hid (L.Nodup) := by rw [hL]; exact HXn.out k
        have hLl : L.length ≤ 1000 := by rw [hL]; exact HXl.out k
        rw [← hL] at hm hC
        have hml : m ≤ 1000 := by rw [hm.out]; exact hLl
        have hbl := World.block_lt_of_cell? wr _ e0
        have HCw : Hid (w.cell? ⟨b, o + k, none⟩ = some (.string (bs x)) ∧ b < w.heap.size) := ⟨hcw, World.block_lt_of_cell? w _ hcw⟩
        clear hxe hc hcw hbw hL hLl
        go_wp2_with fail
        go_loopg [6, 7] (m + 1) (fun f2 s6 s7 wi => ∃ (j : Nat) (a : Int), s6 = .int .i64 a ∧ s7 = .int .i64 (j : Int) ∧ j ≤ m ∧ m - j < f2 ∧ Hid (a = numF (L.take j) x 0) ∧ Hid (Below wr.heap.size wr wi))
        case atStart => exact ⟨0, -1, rfl, rfl, Nat.zero_le _, by omega, by show _ = _; simp [numF], Below.refl _ _⟩
        case round =>
          obtain ⟨j, a, rfl, rfl, hj, hjf, ha, hBi⟩ := hrel
          obtain ⟨f2, rfl⟩ : ∃ g, gk = g + 1 := ⟨gk - 1, by omega⟩
          have d0 := cell_old hBi.out hbl e0
          clear e0
          by_cases hjm : j < m
          · have hji : (j : Int) < (m : Int) := by omega
            have hrow := own_old hC.out.row hBi.out
            obtain ⟨g, rfl⟩ : ∃ g, Aw = some ⟨g, 0, none⟩ := by
              rcases hrow.2 with ⟨_, h0⟩ | ⟨g, cap, cur, hv, _⟩
              · have := hm.out; omega
              · injection hv with e1; exact ⟨g, e1⟩
            have hmL := hm.out
            rw [← hmL] at hrow
            obtain ⟨hnc2, hgb, hgl, hcf, _⟩ := own_at hrow (by omega)
            obtain ⟨y, hy⟩ : ∃ y, y = L[j]'(by rw [← hmL]; exact hjm) := ⟨_, rfl⟩
            obtain ⟨e1, _⟩ := hcf j (.string (bs y)) (by rw [hy]; exact strV_get L j (by rw [← hmL]; exact hjm))
            have hjc : j < cw := by omega
            by_cases hyx : y = x
            · have HA : Hid ((j : Int) = numF (L.take (j + 1)) x 0) := (numF_hit L x j (by rw [← hmL]; exact hjm) HLn.out (by rw [← hy]; exact hyx)).symm
              subst hyx
              clear hcf hrow hmL hy ha
              go_upto_region 12 with (fail)
              go_quiet (fail)
              have HBz := Lib.hid (hBi.out.trans (below_dN wr nq _))
              clear hBi d0 e1 hgl hnc2 hgb
              generalize wr.drewN nq = wz at *
              go_wp2
              go_roundg f2
              case measure => omega
              case rel => exact ⟨j + 1, (j : Int), rfl, by go_num, by omega, by omega, HA, HBz⟩
            · have HA : Hid (a = numF (L.take (j + 1)) x 0) := by show _ = _; rw [numF_miss L x j (by rw [← hmL]; exact hjm) (by rw [← hy]; exact hyx)]; exact ha.out
              have hne : ((bs y).toList == (bs x).toList) = false := by rw [bs_toList, bs_toList]; simpa using hyx
              clear hcf hrow hmL hy ha
              go_upto_region 12 with (fail)
              go_quiet (fail)
              have HBz := Lib.hid (hBi.out.trans (below_dN wr nq _))
              clear hBi d0 e1 hgl hnc2 hgb
              generalize wr.drewN nq = wz at *
              go_wp2
              go_roundg f2
              case measure => omega
              case rel => exact ⟨j + 1, a, rfl, by go_num, by omega, by omega, HA, HBz⟩
          · obtain rfl : j = m := by omega
            have hjL : j = L.length := hm.out
            have hal := ha.out
            rw [List.take_of_length_le (by omega)] at hal
            have hC2 := hC.out.old (by have := HQ.out.1; have := hqr.out; omega) hBi.out
            have HC2 := Lib.hid hC2
            have hqz : B ≤ q := HQ.out.1
            have HQ2 : Hid (q < wr.heap.size) := Nat.lt_of_lt_of_le hqr.out hBi.out.size
            by_cases hin : x ∈ L
            · have ha0 : ¬ a < 0 := fun h => by rw [hal, numF_neg] at h; exact h hin
              have hadd : addF L x = L := by unfold addF; rw [if_pos (by simpa using hin)]
              have HAdd := Lib.hid (addK_any B q L x wr hC2.tab hqz (by omega) HXk.out)
              have HNum : Hid (numF (addF L x) x 0 = a) := by show _ = _; rw [hadd, hal]
              have HAd := Lib.hid hadd
              clear hal hin hadd hC2 hjL ha hBi
              go_wp2_with fail
              refine HAdd.out.mono ?_
              rintro e w6 hK6
              have he := hK6.1
              rw [HNum.out] at he
              subst he
              have HC6 := Lib.hid (CtS.add (by rw [HAd.out]; exact HC2.out.row) HC2.out.away HC2.out.bel hK6)
              clear hK6 d0
              go_wp2
              go_roundg f
              case measure => omega
              case rel => exact ⟨k + 1, j, cw, Aw, rfl, by go_num, by omega, by omega, by show _ = _; rw [HLs.out, HAd.out]; exact hm.out, by rw [HLs.out]; exact HC6.out, HC6.out.lt⟩
            · obtain rfl : a = -1 := by rw [hal, numF_none _ _ _ hin]
              have hadd : addF L x = L ++ [x] := by unfold addF; rw [if_neg (by simpa using hin)]
              have hBs : B ≤ wr.heap.size := by have := HQ2.out; omega
              obtain ⟨q5, c5, w5, hr5, hO5, hg5, hat5⟩ := pushS B (.slice Aw j cw) L x wr hC2.row (by omega) hBs
              have hML : (L ++ [x]).length = L.length + 1 := by simp
              rw [← hML] at hO5
              obtain ⟨y1, y2, y3, y4⟩ := hC2.want hBs hO5 hg5 hat5
              rw [← hjL] at hr5
              have HAdd := Lib.hid (addK_any B q L x w5 y1 hqz (by omega) HXk.out)
              have HNum : Hid (numF (addF L x) x 0 = (j : Int)) := by show _ = _; rw [hadd, numF_end _ _ _ hin, hjL]; simp
              have HY : Hid (∀ e w6, AddK B q w5 L x e w6 → CtS B w w6 q (addF L x) (.slice (some ⟨q5, 0, none⟩) (j + 1) c5)) := fun e w6 h6 => by
                have h7 := CtS.add (by rw [hadd]; exact y2) y3 y4 h6
                rw [hML, ← hjL] at h7
                exact h7
              have d5 : w5.cell? ⟨b, o + k, none⟩ = some (.string (bs x)) := cell_old (by rw [← HBe.out]; exact y4) HCw.out.2 HCw.out.1
              have hb5 := World.block_lt_of_cell? w5 _ d5
              have HLn2 : Hid (j + 1 = (X (k + 1)).length) := by show _ = _; rw [HLs.out, hadd, hML, hjL]
              clear hal hin hadd hBs hO5 hg5 hat5 hML y1 y2 y3 y4 hC2 hjL ha hBi
              go_upto_region 17 with (at_builtin; refine Lib.wpList_append_run _ rfl _ _ 26 26 rfl _ _ rfl rfl _ _ hr5 ?_)
              clear d0 hr5
              go_wp2_with fail
              refine HAdd.out.mono ?_
              rintro e w6 hK6
              have he := hK6.1
              rw [HNum.out] at he
              subst he
              have HC6 := Lib.hid (HY.out _ _ hK6)
              clear hK6 d5 hb5 HAdd HY
              go_wp2
              go_roundg f
              case measure => omega
              case rel => exact ⟨k + 1, j + 1, c5, some ⟨q5, 0, none⟩, rfl, by go_num, by omega, by omega, HLn2, by rw [HLs.out]; exact HC6.out, HC6.out.lt⟩
      · obtain rfl : k = n := by omega
        obtain ⟨L, hL⟩ : ∃ L, L = X k := ⟨_, rfl⟩
        rw [← hL] at hm hC
        have hml : m ≤ 1000 := by rw [hm.out, hL]; exact HXl.out k
        have hAll := all_any B q L wr hC.out.tab (by rw [← hm.out]; omega)
        have hmL := hm.out
        simp only [← hmL] at hAll
        have HAll := Lib.hid hAll
        clear hAll hL hmL
        go_wp2_with fail
        refine HAll.out.mono ?_
        rintro e w5 ⟨A2, c2, rfl, hO2, hb5⟩
        have hrow := own_old hC.out.row hb5
        have hmL := hm.out
        rw [← hmL] at hrow
        have HR1 := Lib.hid hrow
        have HR2 := Lib.hid hO2
        have HB5 := Lib.hid (hC.out.bel.trans (hb5.mono (by have := HQ.out.1; have := hqr.out; omega)))
        clear hrow hO2 hb5 hmL HAll
        go_wp2_with fail
        go_loopg [9] (m + 1) (fun f2 s9 wi => ∃ (j : Nat), s9 = .int .i64 (j : Int) ∧ j ≤ m ∧ m - j < f2 ∧ Hid (Below w5.heap.size w5 wi))
        case atStart => exact ⟨0, rfl, Nat.zero_le _, by omega, Below.refl _ _⟩
        case round =>
          obtain ⟨j, rfl, hj, hjf, hBi⟩ := hrel
          obtain ⟨f2, rfl⟩ : ∃ g, gk = g + 1 := ⟨gk - 1, by omega⟩
          by_cases hjm : j < m
          · have hji : (j : Int) < (m : Int) := by omega
            have r1 := own_old HR1.out hBi.out
            have r2 := own_old HR2.out hBi.out
            obtain ⟨g, rfl⟩ : ∃ g, Aw = some ⟨g, 0, none⟩ := by
              rcases r1.2 with ⟨_, h0⟩ | ⟨g, cap, cur, hv, _⟩
              · omega
              · injection hv with e1; exact ⟨g, e1⟩
            obtain ⟨g2, rfl⟩ : ∃ g, A2 = some ⟨g, 0, none⟩ := by
              rcases r2.2 with ⟨_, h0⟩ | ⟨g, cap, cur, hv, _⟩
              · omega
              · injection hv with e1; exact ⟨g, e1⟩
            obtain ⟨hnc1, _, hgl, hcf, _⟩ := own_at r1 (by omega)
            obtain ⟨hnc2, _, hgl2, hcf2, _⟩ := own_at r2 (by omega)
            have hjL : j < L.length := by rw [← hm.out]; exact hjm
            obtain ⟨y, hy⟩ : ∃ y, y = L[j] := ⟨_, rfl⟩
            obtain ⟨e1, _⟩ := hcf j (.string (bs y)) (by rw [hy]; exact strV_get L j hjL)
            obtain ⟨e2, _⟩ := hcf2 j (.string (bs y)) (by rw [hy]; exact strV_get L j hjL)
            have hjc : j < cw := by omega
            have hjc2 : j < c2 := by omega
            clear hcf hcf2 r1 r2 hy hjL
            go_upto_region 25 with (fail)
            go_quiet (fail)
            have HBz := Lib.hid (hBi.out.trans (below_dN wr nq _))
            clear hBi e1 e2 hgl hgl2 hnc1 hnc2
            generalize wr.drewN nq = wz at *
            go_wp2
            go_roundg f2
            case measure => omega
            case rel => exact ⟨j + 1, by go_num, by omega, by omega, HBz⟩
          · obtain rfl : j = m := by omega
            have HBf := Lib.hid (HB5.out.trans (hBi.out.mono (by rw [HBe.out]; exact HB5.out.size)))
            go_wp2_with fail
            refine (all_nil wr).mono ?_
            rintro e w6 ⟨rfl, rfl⟩
            go_wp2
            go_ret
            refine ⟨rfl, ?_⟩
            rw [← HBe.out]
            exact HBf.out
end Go.Proofs.Ytpdebnecfknohaa
