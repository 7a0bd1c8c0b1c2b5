/-
  What the reference's 'named' leaves.
-/
import Derived.Test.YtpdebnecfknohaaTr
namespace Go.Proofs.Ytpdebnecfknohaa
open Go.RowKit
set_option linter.unusedVariables false
set_option linter.unusedSimpArgs false
set_option maxRecDepth 20000

set_option maxHeartbeats 8000000 in
theorem named_any (S : List (List UInt8)) (As Ag Af Ae Al : Option Addr) (cs ng cg nf cf ne ce cl : Nat) (l : List Int) (w : World) (hs : RdS (fun _ => True) w As S.length 1 (strV S)) (hsl : S.length ≤ 1000000) (h1 : RdS (fun _ => True) w Al l.length 1 (intV l)) (hl : l.length ≤ 1000000) :
    Calls Try.prog 41 #[.agg #[.slice As S.length cs, .slice Ag ng cg, .slice Af nf cf, .slice Ae ne ce], .slice Al l.length cl] w (InB w (nmF S [] l)) := by
  obtain ⟨v, hv⟩ : ∃ v, v = nmF S [] l := ⟨_, rfl⟩
  rw [← hv]
  have HV0 : Hid (v = nmF S ((l.take 0).map (strF S)) (l.drop 0)) := by show _ = _; rw [hv]; rfl
  have HS := Lib.hid hs
  have HL := Lib.hid h1
  obtain ⟨ls, hls⟩ : ∃ n, n = S.length := ⟨_, rfl⟩
  obtain ⟨n, hn⟩ : ∃ n, n = l.length := ⟨_, rfl⟩
  rw [← hls] at hsl ⊢
  rw [← hn] at hl ⊢
  have HLS := Lib.hid hls
  have HN := Lib.hid hn
  clear hs h1 hv hls hn
  obtain ⟨w1, hw1⟩ : ∃ w1, w1 = w.alloc (.cells #[.slice As ls cs, .slice Ag ng cg, .slice Af nf cf, .slice Ae ne ce] 30) := ⟨_, rfl⟩
  have HB1 : Hid (Below w.heap.size w w1) := by rw [hw1]; exact (Below.refl _ _).alloc (Nat.le_refl _) _
  have K1 : Hid (Blk w1 w.heap.size 30 #[.slice As ls cs, .slice Ag ng cg, .slice Af nf cf, .slice Ae ne ce]) := by rw [hw1]; exact Blk.new w 30 _
  have HI0 : Hid (∀ x ∈ l.take 0, 0 ≤ x ∧ x < (S.length : Int)) := fun x hx => by simp at hx
  go_enter Try.func41, Try.ntmps41
  go_upto_region 1 with (fail)
  rw [← hw1]
  clear hw1
  go_wp2_with fail
  go_loopw [5] (fun s wr => ∃ (i : Nat), i ≤ n ∧ s = .int .i64 (i : Int) ∧ Hid (v = nmF S ((l.take i).map (strF S)) (l.drop i)) ∧ Hid (∀ x ∈ l.take i, 0 ≤ x ∧ x < (S.length : Int)) ∧ Hid (Below w.heap.size w wr) ∧ Hid (Blk wr w.heap.size 30 #[.slice As ls cs, .slice Ag ng cg, .slice Af nf cf, .slice Ae ne ce])) (fun s _ => n - (intOf s).toNat)
  case atStart => exact ⟨0, Nat.zero_le _, rfl, HV0, HI0, HB1, K1⟩
  case round =>
    clear HV0 HI0 HB1 K1
    obtain ⟨i, hi, rfl, hE, hI, hB, hK⟩ := hrel
    obtain ⟨m0, m1, m2, m3⟩ := hK.out.c4
    have z1 : w.heap.size < wr.heap.size := hK.out.lt
    by_cases hlt : i < n
    · have hil : i < l.length := by rw [← HN.out]; exact hlt
      have hli : (i : Int) < (n : Int) := by omega
      obtain ⟨b, o, rfl, _, hc⟩ := HL.out.2 (by omega)
      have d0 := hc i _ (intV_get l i hil)
      have hbl : b < w.heap.size := World.block_lt_of_cell? w _ d0
      have e0 := cell_old hB.out hbl d0
      have hz : b < wr.heap.size := by have := hB.out.size; omega
      have hE2 := hE.out
      rw [List.drop_eq_getElem_cons hil, nmF] at hE2
      have ht : l.take (i + 1) = l.take i ++ [l[i]] := List.take_succ_eq_append_getElem hil
      have HcL : Hid (∀ k x, l[k]? = some x → w.cell? ⟨b, o + k, none⟩ = some (.int .i64 x)) := fun k x hk => hc k _ (by simp [intV, hk])
      have HLi : Hid (l[i]? = some l[i]) := List.getElem?_eq_getElem hil
      have HT := Lib.hid ht
      generalize l[i] = x at *
      clear hc d0 hE ht
      by_cases hx0 : x < 0
      · have hstr : strF S x = [] := by unfold strF; rw [if_neg (by omega)]
        rw [hstr, if_pos (by simp)] at hE2
        subst hE2
        clear hstr HT
        go_upto_region 4 with (fail)
        go_quiet ((fail))
        go_wp2
        go_ret
        exact ⟨rfl, hB.out.trans ((below_dN _ _ _).mono hB.out.size)⟩
      by_cases hx1 : (ls : Int) ≤ x
      · have hstr : strF S x = [] := by unfold strF; rw [if_neg (by have := HLS.out; omega)]
        rw [hstr, if_pos (by simp)] at hE2
        subst hE2
        clear hstr HT
        go_upto_region 4 with (fail)
        go_quiet ((fail))
        go_wp2
        go_ret
        exact ⟨rfl, hB.out.trans ((below_dN _ _ _).mono hB.out.size)⟩
      obtain ⟨xj, rfl⟩ : ∃ xj : Nat, x = xj := ⟨x.toNat, by omega⟩
      have hxj : xj < S.length := by rw [← HLS.out]; omega
      have hxj' : (xj : Int) < (ls : Int) := by omega
      obtain ⟨bs', os', rfl, _, hc⟩ := HS.out.2 (by omega)
      have g0 := hc xj _ (strV_get S xj hxj)
      have hgl : bs' < w.heap.size := World.block_lt_of_cell? w _ g0
      have q0 := cell_old hB.out hgl g0
      have hz2 : bs' < wr.heap.size := by have := hB.out.size; omega
      have hstr : strF S (xj : Int) = S[xj] := by unfold strF; rw [if_pos (by omega)]; simp [List.getD, hxj]
      rw [hstr] at hE2
      have HStr := Lib.hid hstr
      have HcS : Hid (∀ k x, S[k]? = some x → w.cell? ⟨bs', os' + k, none⟩ = some (.string (bs x))) := fun k x hk => hc k _ (by simp [strV, hk])
      generalize S[xj] = s at *
      have p1 : decide ((xj : Int) < 0) = false := by simp
      have p2 : decide (ls ≤ xj) = false := by simp; omega
      have p3 : xj < ls := by omega
      clear hc g0 hstr hx0 hx1
      obtain ⟨sv, hsv⟩ : ∃ sv, sv = bs s := ⟨_, rfl⟩
      rw [← hsv] at q0
      have hsz : sv.size = s.length := by rw [hsv, bs_size]
      have HSv := Lib.hid hsv
      by_cases hl0 : s.length < 1
      · rw [if_pos (Or.inl hl0)] at hE2
        subst hE2
        have hq : (sv.toList == []) = true := by rw [hsv, bs_toList]; have : s = [] := List.eq_nil_of_length_eq_zero (by omega); simp [this]
        have hsz0 : sv.size = 0 := by omega
        clear hsv hsz HStr
        go_upto_region 4 with (fail)
        go_quiet ((fail))
        go_wp2
        go_ret
        exact ⟨rfl, hB.out.trans ((below_dN _ _ _).mono hB.out.size)⟩
      have hq : (sv.toList == []) = false := by rw [hsv, bs_toList]; cases s with | nil => simp at hl0 | cons a r => rfl
      by_cases hl40 : 40 < s.length
      · rw [if_pos (Or.inr hl40)] at hE2
        subst hE2
        have hszi : (40 : Int) < (sv.size : Int) := by omega
        have hszn : 40 < sv.size := by omega
        clear hsv hsz HStr
        go_upto_region 4 with (fail)
        go_quiet ((fail))
        go_wp2
        go_ret
        exact ⟨rfl, hB.out.trans ((below_dN _ _ _).mono hB.out.size)⟩
      have hszi : ¬ (40 : Int) < (sv.size : Int) := by omega
      have hszn : decide (40 < sv.size) = false := by simp; omega
      rw [if_neg (by omega)] at hE2
      have HE2 := Lib.hid hE2
      have HIK : Hid (∀ k, k < i → ∃ xk : Nat, l[k]? = some (xk : Int) ∧ xk < S.length) := fun k hk => by
        have hkl : k < l.length := by omega
        obtain ⟨g1, g2⟩ := hI.out l[k] (List.mem_take_iff_getElem.2 ⟨k, by omega, rfl⟩)
        exact ⟨l[k].toNat, by rw [List.getElem?_eq_getElem hkl]; congr 1; omega, by omega⟩
      have HI' : Hid (∀ x ∈ l.take (i + 1), 0 ≤ x ∧ x < (S.length : Int)) := fun x hx => by
        rw [HT.out] at hx
        rcases List.mem_append.1 hx with hx | hx
        · exact hI.out x hx
        · obtain rfl : x = (xj : Int) := by simpa using hx
          omega
      clear hsv hsz hE2 hI
      go_upto_region 4 with (fail)
      go_quiet ((fail))
      have HB2 := Lib.hid (hB.out.trans ((below_dN wr nq _).mono hB.out.size))
      have K2 := Lib.hid (hK.out.old (below_dN wr nq _))
      obtain ⟨wi, hwi⟩ : ∃ wi, wi = wr.drewN nq := ⟨_, rfl⟩
      rw [← hwi] at HB2 K2 ⊢
      clear hwi e0 q0 m0 m1 m2 m3 z1 hz hz2 hB hK hq hszi hszn p1 p2 p3
      obtain ⟨w9, rfl⟩ : ∃ w9 : World, w9 = wr := ⟨_, rfl⟩
      go_wp2_with fail
      go_loopw [6] (fun sl ws => ∃ (k : Nat), k ≤ i ∧ sl = .int .i64 (k : Int) ∧ Hid (∀ k', k' < k → strF S (l.getD k' 0) ≠ s) ∧ Hid (Below w.heap.size w ws) ∧ Hid (Blk ws w.heap.size 30 #[.slice (some ⟨bs', os', none⟩) ls cs, .slice Ag ng cg, .slice Af nf cf, .slice Ae ne ce])) (fun sl _ => i - (intOf sl).toNat)
      case atStart => exact ⟨0, Nat.zero_le _, rfl, fun k' hk' => absurd hk' (Nat.not_lt_zero _), HB2, K2⟩
      case round =>
        clear HB2 K2
        obtain ⟨k, hk, rfl, hD, hBs, hKs⟩ := hrel
        obtain ⟨m0, m1, m2, m3⟩ := hKs.out.c4
        have z1 : w.heap.size < wr.heap.size := hKs.out.lt
        by_cases hlk : k < i
        · have hlki : (k : Int) < (i : Int) := by omega
          have hlkn : (k : Int) < (n : Int) := by omega
          obtain ⟨xk, hxk, hxkS⟩ := HIK.out k hlk
          have a1 := cell_old hBs.out hbl (HcL.out k _ hxk)
          have a2 := cell_old hBs.out hbl (HcL.out i _ HLi.out)
          have hzb : b < wr.heap.size := by have := hBs.out.size; omega
          have hzs : bs' < wr.heap.size := by have := hBs.out.size; omega
          have HSk : S[xk]? = some S[xk] := List.getElem?_eq_getElem hxkS
          have HSj : S[xj]? = some s := by have := HStr.out; unfold strF at this; rw [if_pos (by omega)] at this; simp only [Int.toNat_natCast] at this; rw [List.getElem?_eq_getElem hxj]; simpa [List.getD, hxj] using this
          have b1 := cell_old hBs.out hgl (HcS.out xk _ HSk)
          have b2 := cell_old hBs.out hgl (HcS.out xj _ HSj)
          have hsk : strF S (l.getD k 0) = S[xk] := by
            rw [List.getD, hxk]
            show strF S (xk : Int) = _
            unfold strF; rw [if_pos (by omega)]; simp [List.getD, hxkS]
          have HSK := Lib.hid hsk
          have hxks' : (xk : Int) < (ls : Int) := by have := HLS.out; omega
          have hxks2 : xk < ls := by have := HLS.out; omega
          have hxjs2 : xj < ls := by have := HLS.out; omega
          generalize S[xk] = sk at *
          clear hxk HSk HSj hsk
          by_cases hx : sk = s
          · have hq : ((bs sk).toList == (bs s).toList) = true := by rw [bs_toList, bs_toList]; simp [hx]
            have hv3 : v = 3 := by
              rw [HE2.out, if_pos]
              rw [List.contains_iff_mem]
              refine List.mem_map.2 ⟨l.getD k 0, ?_, by rw [HSK.out, hx]⟩
              have hkl : k < l.length := by omega
              rw [show l.getD k 0 = l[k] from by simp [List.getD, hkl]]
              exact List.mem_take_iff_getElem.2 ⟨k, by omega, rfl⟩
            subst hv3
            generalize bs sk = sbk at *
            generalize bs s = sbs at *
            clear hx
            go_upto_region 9 with (fail)
            go_quiet ((fail))
            go_wp2
            go_ret
            exact ⟨rfl, hBs.out.trans ((below_dN _ _ _).mono hBs.out.size)⟩
          · have hq : ((bs sk).toList == (bs s).toList) = false := by rw [bs_toList, bs_toList]; simpa using hx
            have HD2 : Hid (∀ k', k' < k + 1 → strF S (l.getD k' 0) ≠ s) := fun k' hk' => by
              rcases Nat.lt_or_ge k' k with h | h
              · exact hD.out k' h
              · obtain rfl : k' = k := by omega
                rw [HSK.out]; exact hx
            generalize bs sk = sbk at *
            generalize bs s = sbs at *
            clear hx
            go_upto_region 9 with (fail)
            go_quiet ((fail))
            have HB3 := Lib.hid (hBs.out.trans ((below_dN wr nq _).mono hBs.out.size))
            have K3 := Lib.hid (hKs.out.old (below_dN wr nq _))
            go_wp2
            go_roundw
            case rel => exact ⟨k + 1, by omega, by go_num, HD2, HB3, K3⟩
            case measure => simp [intOf]; omega
        · obtain rfl : k = i := by omega
          have HE3 : Hid (v = nmF S ((l.take (k + 1)).map (strF S)) (l.drop (k + 1))) := by
            show _ = _
            rw [HE2.out, if_neg, HT.out, List.map_append, List.map_singleton, HStr.out]
            rw [List.contains_iff_mem]
            intro hmem
            obtain ⟨y, hy, hys⟩ := List.mem_map.1 hmem
            obtain ⟨k', hk', rfl⟩ := List.mem_take_iff_getElem.1 hy
            refine hD.out k' (by omega) ?_
            have hkl' : k' < l.length := by omega
            rw [show l.getD k' 0 = l[k'] from by simp [List.getD, hkl']]; exact hys
          clear HE2
          go_wp2_with fail
          go_roundw
          case rel => exact ⟨k + 1, by omega, by go_num, HE3, HI', hBs, hKs⟩
          case measure => simp [intOf]; omega
    · obtain rfl : i = n := by omega
      have hE2 := hE.out
      rw [List.drop_of_length_le (by have := HN.out; omega), nmF] at hE2
      subst hE2
      go_wp2
      go_ret
      exact ⟨rfl, hB.out⟩
end Go.Proofs.Ytpdebnecfknohaa
