/-
  Parts: Ks Kna Fr Kta Tad.
-/
import Derived.Test.YtpdebnecfknohaaRn00
import Derived.Test.YtpdebnecfknohaaRn01
import Derived.Test.YtpdebnecfknohaaRn02
import Derived.Test.YtpdebnecfknohaaRn03
import Derived.Test.YtpdebnecfknohaaRn04
import Derived.Test.YtpdebnecfknohaaRn07
import Derived.Test.YtpdebnecfknohaaRn08
import Derived.Test.YtpdebnecfknohaaRn09
import Derived.Test.YtpdebnecfknohaaRn10
import Derived.Test.YtpdebnecfknohaaRn11
namespace Go.Proofs.Ytpdebnecfknohaa
open Go.RowKit
set_option linter.unusedVariables false
set_option linter.unusedSimpArgs false
set_option maxRecDepth 20000
/-- Have a body's statements few arguments, and references of few kinds? -/
def shR : Bd → Int → Bool
  | .nil, _ => true
  | .cons k a1 a2 b1 b2 xs sub rest, d => (decide (xs.length ≤ 20) && ((decide (d + 1 ≤ 12) && (decide (sub.len ≤ 30) && shR sub (d + 1))) && (decide (a1 ≤ 4) && (decide (b1 ≤ 4) && xs.all fun p => decide (p.1 ≤ 4))))) && shR rest d
def shF (t : Bd) (d : Int) : Bool := decide (d ≤ 12) && (decide (t.len ≤ 30) && shR t d)
theorem shR_low : ∀ (t : Bd) (d : Int) (e : Nat), t.fit → shR t d = true → ∀ x ∈ t.flat e, x.Low
  | .nil, _, _, _, _ => by simp [Bd.flat]
  | .cons k a1 a2 b1 b2 xs sub rest, d, e, hf, h => by
    obtain ⟨⟨_, f1, _, f2, _⟩, ⟨f3, _⟩, f4, f5⟩ := hf
    simp only [shR, Bool.and_eq_true, decide_eq_true_eq, List.all_eq_true] at h
    obtain ⟨⟨_, ⟨_, _, h1⟩, h2, h3, h4⟩, h5⟩ := h
    intro x hx
    simp only [Bd.flat, List.mem_cons, List.mem_append] at hx
    rcases hx with rfl | hx | hx
    · exact ⟨f1.1, h2, f2.1, h3, fun p hp => ⟨(f3 p hp).1.1, h4 p hp⟩⟩
    · split at hx
      · exact shR_low sub _ _ f4 h1 x hx
      · simp at hx
    · exact shR_low rest _ _ f5 h5 x hx
theorem shF_low (t : Bd) (hf : t.fit) (h : shF t 0 = true) : ∀ x ∈ t.flat 0, x.Low := by
  simp only [shF, Bool.and_eq_true] at h
  exact shR_low t 0 0 hf h.2.2
def SaB (w : World) (v : Bool) (e : Ending) (w' : World) : Prop := e = .returned (.bool v) ∧ w = w'
end Go.Proofs.Ytpdebnecfknohaa
namespace Go.Proofs.Ytpdebnecfknohaa
open Go.RowKit
set_option linter.unusedVariables false
set_option linter.unusedSimpArgs false
set_option maxRecDepth 20000
set_option maxHeartbeats 8000000 in
theorem named_any (S : List (List UInt8)) (As Ag Af Ae Al : Option Addr) (cs ng cg nf cf ne ce cl : Nat) (l : List Int) (w : World) (hs : RdS (fun _ => True) w As S.length 1 (strV S)) (hsl : S.length ≤ 1000000) (h1 : RdS (fun _ => True) w Al l.length 1 (intV l)) (hl : l.length ≤ 1000000) :
    Calls Try.prog 41 #[.agg #[.slice As S.length cs, .slice Ag ng cg, .slice Af nf cf, .slice Ae ne ce], .slice Al l.length cl] w (InB w (nmF S [] l)) := by
  obtain ⟨v, hv⟩ : ∃ v, v = nmF S [] l := ⟨_, rfl⟩
  rw [← hv]
  have HV0 : Hid (v = nmF S ((l.take 0).map (strF S)) (l.drop 0)) := by show _ = _; rw [hv]; rfl
  have HS := Lib.hid hs
  have HL := Lib.hid h1
  obtain ⟨ls, hls⟩ : ∃ n, n = S.length := ⟨_, rfl⟩
  obtain ⟨n, hn⟩ : ∃ n, n = l.length := ⟨_, rfl⟩
  rw [← hls] at hsl ⊢
  rw [← hn] at hl ⊢
  have HLS := Lib.hid hls
  have HN := Lib.hid hn
  clear hs h1 hv hls hn
  obtain ⟨w1, hw1⟩ : ∃ w1, w1 = w.alloc (.cells #[.slice As ls cs, .slice Ag ng cg, .slice Af nf cf, .slice Ae ne ce] 30) := ⟨_, rfl⟩
  have HB1 : Hid (Below w.heap.size w w1) := by rw [hw1]; exact (Below.refl _ _).alloc (Nat.le_refl _) _
  have K1 : Hid (Blk w1 w.heap.size 30 #[.slice As ls cs, .slice Ag ng cg, .slice Af nf cf, .slice Ae ne ce]) := by rw [hw1]; exact Blk.new w 30 _
  have HI0 : Hid (∀ x ∈ l.take 0, 0 ≤ x ∧ x < (S.length : Int)) := fun x hx => by simp at hx
  go_enter Try.func41, Try.ntmps41
  go_upto_region 1 with (fail)
  rw [← hw1]
  clear hw1
  go_wp2_with fail
  go_loopw [5] (fun s wr => ∃ (i : Nat), i ≤ n ∧ s = .int .i64 (i : Int) ∧ Hid (v = nmF S ((l.take i).map (strF S)) (l.drop i)) ∧ Hid (∀ x ∈ l.take i, 0 ≤ x ∧ x < (S.length : Int)) ∧ Hid (Below w.heap.size w wr) ∧ Hid (Blk wr w.heap.size 30 #[.slice As ls cs, .slice Ag ng cg, .slice Af nf cf, .slice Ae ne ce])) (fun s _ => n - (intOf s).toNat)
  case atStart => exact ⟨0, Nat.zero_le _, rfl, HV0, HI0, HB1, K1⟩
  case round =>
    clear HV0 HI0 HB1 K1
    obtain ⟨i, hi, rfl, hE, hI, hB, hK⟩ := hrel
    obtain ⟨m0, m1, m2, m3⟩ := hK.out.c4
    have z1 : w.heap.size < wr.heap.size := hK.out.lt
    by_cases hlt : i < n
    · have hil : i < l.length := by rw [← HN.out]; exact hlt
      have hli : (i : Int) < (n : Int) := by omega
      obtain ⟨b, o, rfl, _, hc⟩ := HL.out.2 (by omega)
      have d0 := hc i _ (intV_get l i hil)
      have hbl : b < w.heap.size := World.block_lt_of_cell? w _ d0
      have e0 := cell_old hB.out hbl d0
      have hz : b < wr.heap.size := by have := hB.out.size; omega
      have hE2 := hE.out
      rw [List.drop_eq_getElem_cons hil, nmF] at hE2
      have ht : l.take (i + 1) = l.take i ++ [l[i]] := List.take_succ_eq_append_getElem hil
      have HcL : Hid (∀ k x, l[k]? = some x → w.cell? ⟨b, o + k, none⟩ = some (.int .i64 x)) := fun k x hk => hc k _ (by simp [intV, hk])
      have HLi : Hid (l[i]? = some l[i]) := List.getElem?_eq_getElem hil
      have HT := Lib.hid ht
      generalize l[i] = x at *
      clear hc d0 hE ht
      by_cases hx0 : x < 0
      · have hstr : strF S x = [] := by unfold strF; rw [if_neg (by omega)]
        rw [hstr, if_pos (by simp)] at hE2
        subst hE2
        clear hstr HT
        go_upto_region 4 with (fail)
        go_quiet ((fail))
        go_wp2
        go_ret
        exact ⟨rfl, hB.out.trans ((below_dN _ _ _).mono hB.out.size)⟩
      by_cases hx1 : (ls : Int) ≤ x
      · have hstr : strF S x = [] := by unfold strF; rw [if_neg (by have := HLS.out; omega)]
        rw [hstr, if_pos (by simp)] at hE2
        subst hE2
        clear hstr HT
        go_upto_region 4 with (fail)
        go_quiet ((fail))
        go_wp2
        go_ret
        exact ⟨rfl, hB.out.trans ((below_dN _ _ _).mono hB.out.size)⟩
      obtain ⟨xj, rfl⟩ : ∃ xj : Nat, x = xj := ⟨x.toNat, by omega⟩
      have hxj : xj < S.length := by rw [← HLS.out]; omega
      have hxj' : (xj : Int) < (ls : Int) := by omega
      obtain ⟨bs', os', rfl, _, hc⟩ := HS.out.2 (by omega)
      have g0 := hc xj _ (strV_get S xj hxj)
      have hgl : bs' < w.heap.size := World.block_lt_of_cell? w _ g0
      have q0 := cell_old hB.out hgl g0
      have hz2 : bs' < wr.heap.size := by have := hB.out.size; omega
      have hstr : strF S (xj : Int) = S[xj] := by unfold strF; rw [if_pos (by omega)]; simp [List.getD, hxj]
      rw [hstr] at hE2
      have HStr := Lib.hid hstr
      have HcS : Hid (∀ k x, S[k]? = some x → w.cell? ⟨bs', os' + k, none⟩ = some (.string (bs x))) := fun k x hk => hc k _ (by simp [strV, hk])
      generalize S[xj] = s at *
      have p1 : decide ((xj : Int) < 0) = false := by simp
      have p2 : decide (ls ≤ xj) = false := by simp; omega
      have p3 : xj < ls := by omega
      clear hc g0 hstr hx0 hx1
      obtain ⟨sv, hsv⟩ : ∃ sv, sv = bs s := ⟨_, rfl⟩
      rw [← hsv] at q0
      have hsz : sv.size = s.length := by rw [hsv, bs_size]
      have HSv := Lib.hid hsv
      by_cases hl0 : s.length < 1
      · rw [if_pos (Or.inl hl0)] at hE2
        subst hE2
        have hq : (sv.toList == []) = true := by rw [hsv, bs_toList]; have : s = [] := List.eq_nil_of_length_eq_zero (by omega); simp [this]
        have hsz0 : sv.size = 0 := by omega
        clear hsv hsz HStr
        go_upto_region 4 with (fail)
        go_quiet ((fail))
        go_wp2
        go_ret
        exact ⟨rfl, hB.out.trans ((below_dN _ _ _).mono hB.out.size)⟩
      have hq : (sv.toList == []) = false := by rw [hsv, bs_toList]; cases s with | nil => simp at hl0 | cons a r => rfl
      by_cases hl40 : 40 < s.length
      · rw [if_pos (Or.inr hl40)] at hE2
        subst hE2
        have hszi : (40 : Int) < (sv.size : Int) := by omega
        have hszn : 40 < sv.size := by omega
        clear hsv hsz HStr
        go_upto_region 4 with (fail)
        go_quiet ((fail))
        go_wp2
        go_ret
        exact ⟨rfl, hB.out.trans ((below_dN _ _ _).mono hB.out.size)⟩
      have hszi : ¬ (40 : Int) < (sv.size : Int) := by omega
      have hszn : decide (40 < sv.size) = false := by simp; omega
      rw [if_neg (by omega)] at hE2
      have HE2 := Lib.hid hE2
      have HIK : Hid (∀ k, k < i → ∃ xk : Nat, l[k]? = some (xk : Int) ∧ xk < S.length) := fun k hk => by
        have hkl : k < l.length := by omega
        obtain ⟨g1, g2⟩ := hI.out l[k] (List.mem_take_iff_getElem.2 ⟨k, by omega, rfl⟩)
        exact ⟨l[k].toNat, by rw [List.getElem?_eq_getElem hkl]; congr 1; omega, by omega⟩
      have HI' : Hid (∀ x ∈ l.take (i + 1), 0 ≤ x ∧ x < (S.length : Int)) := fun x hx => by
        rw [HT.out] at hx
        rcases List.mem_append.1 hx with hx | hx
        · exact hI.out x hx
        · obtain rfl : x = (xj : Int) := by simpa using hx
          omega
      clear hsv hsz hE2 hI
      go_upto_region 4 with (fail)
      go_quiet ((fail))
      have HB2 := Lib.hid (hB.out.trans ((below_dN wr nq _).mono hB.out.size))
      have K2 := Lib.hid (hK.out.old (below_dN wr nq _))
      obtain ⟨wi, hwi⟩ : ∃ wi, wi = wr.drewN nq := ⟨_, rfl⟩
      rw [← hwi] at HB2 K2 ⊢
      clear hwi e0 q0 m0 m1 m2 m3 z1 hz hz2 hB hK hq hszi hszn p1 p2 p3
      obtain ⟨w9, rfl⟩ : ∃ w9 : World, w9 = wr := ⟨_, rfl⟩
      go_wp2_with fail
      go_loopw [6] (fun sl ws => ∃ (k : Nat), k ≤ i ∧ sl = .int .i64 (k : Int) ∧ Hid (∀ k', k' < k → strF S (l.getD k' 0) ≠ s) ∧ Hid (Below w.heap.size w ws) ∧ Hid (Blk ws w.heap.size 30 #[.slice (some ⟨bs', os', none⟩) ls cs, .slice Ag ng cg, .slice Af nf cf, .slice Ae ne ce])) (fun sl _ => i - (intOf sl).toNat)
      case atStart => exact ⟨0, Nat.zero_le _, rfl, fun k' hk' => absurd hk' (Nat.not_lt_zero _), HB2, K2⟩
      case round =>
        clear HB2 K2
        obtain ⟨k, hk, rfl, hD, hBs, hKs⟩ := hrel
        obtain ⟨m0, m1, m2, m3⟩ := hKs.out.c4
        have z1 : w.heap.size < wr.heap.size := hKs.out.lt
        by_cases hlk : k < i
        · have hlki : (k : Int) < (i : Int) := by omega
          have hlkn : (k : Int) < (n : Int) := by omega
          obtain ⟨xk, hxk, hxkS⟩ := HIK.out k hlk
          have a1 := cell_old hBs.out hbl (HcL.out k _ hxk)
          have a2 := cell_old hBs.out hbl (HcL.out i _ HLi.out)
          have hzb : b < wr.heap.size := by have := hBs.out.size; omega
          have hzs : bs' < wr.heap.size := by have := hBs.out.size; omega
          have HSk : S[xk]? = some S[xk] := List.getElem?_eq_getElem hxkS
          have HSj : S[xj]? = some s := by have := HStr.out; unfold strF at this; rw [if_pos (by omega)] at this; simp only [Int.toNat_natCast] at this; rw [List.getElem?_eq_getElem hxj]; simpa [List.getD, hxj] using this
          have b1 := cell_old hBs.out hgl (HcS.out xk _ HSk)
          have b2 := cell_old hBs.out hgl (HcS.out xj _ HSj)
          have hsk : strF S (l.getD k 0) = S[xk] := by
            rw [List.getD, hxk]
            show strF S (xk : Int) = _
            unfold strF; rw [if_pos (by omega)]; simp [List.getD, hxkS]
          have HSK := Lib.hid hsk
          have hxks' : (xk : Int) < (ls : Int) := by have := HLS.out; omega
          have hxks2 : xk < ls := by have := HLS.out; omega
          have hxjs2 : xj < ls := by have := HLS.out; omega
          generalize S[xk] = sk at *
          clear hxk HSk HSj hsk
          by_cases hx : sk = s
          · have hq : ((bs sk).toList == (bs s).toList) = true := by rw [bs_toList, bs_toList]; simp [hx]
            have hv3 : v = 3 := by
              rw [HE2.out, if_pos]
              rw [List.contains_iff_mem]
              refine List.mem_map.2 ⟨l.getD k 0, ?_, by rw [HSK.out, hx]⟩
              have hkl : k < l.length := by omega
              rw [show l.getD k 0 = l[k] from by simp [List.getD, hkl]]
              exact List.mem_take_iff_getElem.2 ⟨k, by omega, rfl⟩
            subst hv3
            generalize bs sk = sbk at *
            generalize bs s = sbs at *
            clear hx
            go_upto_region 9 with (fail)
            go_quiet ((fail))
            go_wp2
            go_ret
            exact ⟨rfl, hBs.out.trans ((below_dN _ _ _).mono hBs.out.size)⟩
          · have hq : ((bs sk).toList == (bs s).toList) = false := by rw [bs_toList, bs_toList]; simpa using hx
            have HD2 : Hid (∀ k', k' < k + 1 → strF S (l.getD k' 0) ≠ s) := fun k' hk' => by
              rcases Nat.lt_or_ge k' k with h | h
              · exact hD.out k' h
              · obtain rfl : k' = k := by omega
                rw [HSK.out]; exact hx
            generalize bs sk = sbk at *
            generalize bs s = sbs at *
            clear hx
            go_upto_region 9 with (fail)
            go_quiet ((fail))
            have HB3 := Lib.hid (hBs.out.trans ((below_dN wr nq _).mono hBs.out.size))
            have K3 := Lib.hid (hKs.out.old (below_dN wr nq _))
            go_wp2
            go_roundw
            case rel => exact ⟨k + 1, by omega, by go_num, HD2, HB3, K3⟩
            case measure => simp [intOf]; omega
        · obtain rfl : k = i := by omega
          have HE3 : Hid (v = nmF S ((l.take (k + 1)).map (strF S)) (l.drop (k + 1))) := by
            show _ = _
            rw [HE2.out, if_neg, HT.out, List.map_append, List.map_singleton, HStr.out]
            rw [List.contains_iff_mem]
            intro hmem
            obtain ⟨y, hy, hys⟩ := List.mem_map.1 hmem
            obtain ⟨k', hk', rfl⟩ := List.mem_take_iff_getElem.1 hy
            refine hD.out k' (by omega) ?_
            have hkl' : k' < l.length := by omega
            rw [show l.getD k' 0 = l[k'] from by simp [List.getD, hkl']]; exact hys
          clear HE2
          go_wp2_with fail
          go_roundw
          case rel => exact ⟨k + 1, by omega, by go_num, HE3, HI', hBs, hKs⟩
          case measure => simp [intOf]; omega
    · obtain rfl : i = n := by omega
      have hE2 := hE.out
      rw [List.drop_of_length_le (by have := HN.out; omega), nmF] at hE2
      subst hE2
      go_wp2
      go_ret
      exact ⟨rfl, hB.out⟩
end Go.Proofs.Ytpdebnecfknohaa
namespace Go.Proofs.Ytpdebnecfknohaa
open Go.RowKit
set_option linter.unusedVariables false
set_option maxRecDepth 20000
/-- A list of items of the call's own, of statements that were there. -/
structure RfI (w0 w : World) (v : Value) (L : List It) : Prop where
  row : ItRow 90 w w0.heap.size (fun k => k < w0.heap.size) v L
  bel : Below w0.heap.size w0 w
set_option maxRecDepth 20000 in
set_option maxHeartbeats 4000000 in
theorem rflat_any (w0 : World) (N : Nat) : ∀ (t : Bd) (deep : Nat) (A : Option Addr) (c : Nat) (Av : Option Addr) (cv : Nat) (L : List It) (w : World), t.size ≤ N → deep ≤ 1000 → BodyV w0 A t → RfI w0 w (.slice Av L.length cv) L → L.length + t.size ≤ 100000000 → t.wide ≤ 100000000 →
    Calls Try.prog 70 #[.slice Av L.length cv, .slice A t.len c, .int .i64 deep] w fun e w' => ∃ A' c', e = .returned (.slice A' (L ++ t.flat deep).length c') ∧ RfI w0 w' (.slice A' (L ++ t.flat deep).length c') (L ++ t.flat deep) := by
  induction N with
  | zero =>
    intro t deep A c Av cv L w hN hd hV hI hm hwd
    have ht : t = .nil := by cases t <;> simp [Bd.size] at hN ⊢
    subst ht
    have HI := Lib.hid hI
    clear hI hV
    simp only [Bd.len]
    go_enter Try.func70, Try.ntmps70
    go_wp2_with fail
    go_loopw [0, 7] (fun s0 s7 wr => s0 = .slice Av L.length cv ∧ s7 = .int .i64 0 ∧ wr = w) (fun _ _ _ => 0)
    case atStart => exact ⟨rfl, rfl, rfl⟩
    case round =>
      obtain ⟨rfl, rfl, rfl⟩ := hrel
      go_wp2
      go_ret
      exact ⟨Av, cv, by simp [Bd.flat], by simpa [Bd.flat] using HI.out⟩
  | succ N ih =>
    intro t deep A c Av cv L w hN hd hV hI hm hwd
    have IH := Lib.hid ih
    have HV := Lib.hid hV
    have HI0 := Lib.hid hI
    have hlen : t.len ≤ 100000000 := by have := Bd.len_le t; omega
    clear hI hV ih
    go_enter Try.func70, Try.ntmps70
    go_wp2_with fail
    go_loopw [0, 7] (fun s0 s7 wr => ∃ (i n' : Nat) (A' : Option Addr) (c' : Nat) (L' : List It), s7 = .int .i64 i ∧ s0 = .slice A' n' c' ∧ i ≤ t.len ∧ n' ≤ 100000000 ∧ Hid (n' = L'.length) ∧ Hid (L' ++ (t.drop i).flat deep = L ++ t.flat deep) ∧ Hid (L'.length + (t.drop i).size ≤ 100000000) ∧ Hid (RfI w0 wr (.slice A' n' c') L')) (fun _ s7 _ => t.len - (intOf s7).toNat)
    case atStart => exact ⟨0, L.length, Av, cv, L, rfl, rfl, Nat.zero_le _, by omega, rfl, rfl, (by show _ ≤ _; simpa [Bd.drop] using hm), HI0⟩
    case round =>
      obtain ⟨i, n', A', c', L', rfl, rfl, hi, hn', HNL, hE, hM, hI⟩ := hrel
      by_cases hlt : i < t.len
      · obtain ⟨k, a1, a2, b1, b2, args, sub, rest, hdr⟩ := Bd.drop_cons t i hlt
        obtain ⟨b, o, rfl, hat⟩ := HV.out (by omega)
        have hat0 := hat.drop t b o i
        rw [hdr] at hat0
        obtain ⟨⟨d0, d1, d2, d3, d4⟩, ⟨va, d5, ⟨Aa, ca, rfl, hargs⟩⟩, ⟨As, cs, d6, hsub⟩, _⟩ := hat0
        have hbl : b < w0.heap.size := World.block_lt_of_cell? w0 ⟨b, o + i * 7, none⟩ d0
        have hB := hI.out.bel
        have e0 := cell_old hB hbl d0
        have e1 := cell_old hB hbl d1
        have e2 := cell_old hB hbl d2
        have e3 := cell_old hB hbl d3
        have e4 := cell_old hB hbl d4
        have e5 := cell_old hB hbl d5
        have e6 := cell_old hB hbl d6
        have HSub : Hid (BodyV w0 As sub) := hsub
        have hArg : ArgsAt w0 (.slice Aa args.length ca) args := ⟨Aa, ca, rfl, hargs⟩
        have hsz1 := Bd.size_drop t i
        have hss := Bd.sub_size t i hdr
        have hE2 := hE.out
        have hM2 := hM.out
        rw [hdr] at hE2 hM2 hsz1
        simp only [Bd.flat, Bd.size] at hE2 hM2 hsz1
        have Hnx := Lib.hid (Bd.drop_succ t i hdr)
        have HE2 := Lib.hid hE2
        have hcs := Bd.cnt_le sub (deep + 1)
        have hfl := Bd.flat_len sub (deep + 1)
        have hsl := Bd.len_le sub
        have hne : ∀ k, some k = (Value.slice A' n' c').ownBlock → w0.heap.size ≤ k := fun k hk => (hI.out.row.blk k hk).1
        have hKb : Kept (fun k => k < w0.heap.size) w0 wr := fun k hk _ => hB.block k hk
        have hcl : ∀ k, k < w0.heap.size → k < w0.heap.size → (some k ≠ (Value.slice A' n' c').ownBlock ∧ k < w0.heap.size) := fun k hk _ => ⟨fun e => by have := hne k e; omega, hk⟩
        obtain ⟨q6, c6, w6, hr6, hR6, hs6, hk6, hq6, hb6⟩ := push9 90 87 _ Try.underlying87 info90 rfl w0.heap.size (fun k => k < w0.heap.size) (.slice A' n' c') L' ⟨deep, k, a1, a2, b1, b2, args, sub⟩ Aa As ca cs n' HNL.out wr hI.out.row (by rw [← HNL.out]; omega) hB.size (hArg.toS.kept hKb hcl) (HSub.out.toS.kept hKb hcl)
        dsimp only at hr6 hR6
        have HI6 : Hid (RfI w0 w6 (.slice (some ⟨q6, 0, none⟩) (n' + 1) c6) (L' ++ [⟨deep, k, a1, a2, b1, b2, args, sub⟩])) := ⟨hR6, hb6 _ _ hB (Nat.le_refl _) hB.size⟩
        have hB6 : Below w0.heap.size w0 w6 := hb6 _ _ hB (Nat.le_refl _) hB.size
        have g0 := cell_old hB6 hbl d0
        have g6 := cell_old hB6 hbl d6
        have hb6 : b < w6.heap.size := Nat.lt_of_lt_of_le hbl hB6.size
        have hbw : b < wr.heap.size := Nat.lt_of_lt_of_le hbl hB.size
        have hNLo := HNL.out
        clear d0 d1 d2 d3 d4 d5 d6 hsub hat hdr hE hM hE2 hargs hB hB6 hR6 hk6 hq6 hs6 hb6 hne hKb hcl hArg hI
        have hnl : n' + 1 + sub.size + rest.size ≤ 100000000 := by omega
        clear hNLo
        go_upto_region 5 with (at_builtin; refine Lib.wpList_append_run _ rfl _ _ 87 87 rfl _ _ rfl rfl _ _ hr6 ?_)
        clear e0 e1 e2 e3 e4 e5 e6 hr6
        by_cases hk : k = 7 ∧ deep < 1000
        · obtain ⟨rfl, hdeep⟩ := hk
          have hdi : (deep : Int) + 1 ≤ 1000 := by omega
          have hI := IH.out sub (deep + 1) As cs (some ⟨q6, 0, none⟩) c6 (L' ++ [⟨deep, 7, a1, a2, b1, b2, args, sub⟩]) w6 (by omega) (by omega) HSub.out (by simpa [← HNL.out] using HI6.out) (by simp [← HNL.out]; omega) (by omega)
          rw [show ((deep + 1 : Nat) : Int) = (deep : Int) + 1 from by omega, show (L' ++ [(⟨deep, 7, a1, a2, b1, b2, args, sub⟩ : It)]).length = n' + 1 from by simp [← HNL.out]] at hI
          have HI := Lib.hid hI
          clear hI
          go_wp2_with fail
          refine HI.out.mono ?_
          rintro e w3 ⟨A3, c3, rfl, hI4⟩
          obtain ⟨n3, hn3⟩ : ∃ n3, n3 = (L' ++ [(⟨deep, 7, a1, a2, b1, b2, args, sub⟩ : It)] ++ sub.flat (deep + 1)).length := ⟨_, rfl⟩
          have hn3l : n3 ≤ 100000000 := by rw [hn3]; simp [← HNL.out, hfl]; omega
          rw [← hn3] at hI4 ⊢
          have HN3 := Lib.hid hn3
          have HI4 := Lib.hid hI4
          clear hI4 hn3
          go_wp2
          go_roundw
          case rel =>
            refine ⟨i + 1, n3, A3, c3, _, by go_num, rfl, by omega, hn3l, HN3, ?_, ?_, HI4⟩
            · show _ = _
              have h := HE2.out
              rw [if_pos (by simp; exact hdeep)] at h
              rw [Hnx.out, ← h]; simp
            · show _ ≤ _
              rw [Hnx.out]; simp [← HNL.out]; omega
          case measure => simp [intOf]; omega
        · have HK := Lib.hid hk
          by_cases hk7 : k = 7
          · subst hk7
            have hdeep : ¬ (deep < 1000) := fun h => hk ⟨rfl, h⟩
            have hdi : ¬ ((deep : Int) + 1 ≤ 1000) := by omega
            clear hk
            go_wp2
            go_roundw
            case rel =>
              refine ⟨i + 1, n' + 1, _, c6, _, by go_num, rfl, by omega, by omega, (by show _ = _; simp [← HNL.out]), ?_, ?_, HI6⟩
              · show _ = _
                have h := HE2.out
                rw [if_neg HK.out] at h
                rw [Hnx.out, ← h]; simp
              · show _ ≤ _
                rw [Hnx.out]; simp [← HNL.out]; omega
            case measure => simp [intOf]; omega
          · have hkb : (k == 7) = false := by simpa using hk7
            clear hk hk7
            go_wp2
            go_roundw
            case rel =>
              refine ⟨i + 1, n' + 1, _, c6, _, by go_num, rfl, by omega, by omega, (by show _ = _; simp [← HNL.out]), ?_, ?_, HI6⟩
              · show _ = _
                have h := HE2.out
                rw [if_neg HK.out] at h
                rw [Hnx.out, ← h]; simp
              · show _ ≤ _
                rw [Hnx.out]; simp [← HNL.out]; omega
            case measure => simp [intOf]; omega
      · obtain rfl : i = t.len := by omega
        have hE2 := hE.out
        rw [Bd.drop_end t t.len (Nat.le_refl _)] at hE2
        simp only [Bd.flat, List.append_nil] at hE2
        have HE2 := Lib.hid hE2
        clear hE2
        go_wp2
        go_ret
        exact ⟨A', c', by rw [← HE2.out, ← HNL.out]; rfl, by rw [← HE2.out, ← HNL.out]; exact hI.out⟩
set_option maxHeartbeats 400000 in
theorem flatR_any (A : Option Addr) (c : Nat) (t : Bd) (w : World) (h : BodyV w A t) (ht : t.size ≤ 100000000) (hwd : t.wide ≤ 100000000) :
    Calls Try.prog 42 #[.slice A t.len c] w (ItPost 90 (fun k => k < w.heap.size) w (t.flat 0)) := by
  have hW := rflat_any w t.size t 0 A c none 0 [] w (Nat.le_refl _) (by omega) h ⟨ItRow.nil _ _ _ _, Below.refl _ _⟩ (by simpa using ht) hwd
  have HW := Lib.hid hW
  clear hW h
  go_enter Try.func42, Try.ntmps42
  go_wp2_with fail
  refine HW.out.mono ?_
  rintro e w2 ⟨A2, c2, rfl, hI2⟩
  rw [List.nil_append] at hI2 ⊢
  have HI2 := Lib.hid hI2
  clear hI2
  go_wp2
  go_ret
  exact ⟨A2, c2, rfl, HI2.out.row, HI2.out.bel⟩
end Go.Proofs.Ytpdebnecfknohaa
namespace Go.Proofs.Ytpdebnecfknohaa
open Go.RowKit
set_option linter.unusedVariables false
set_option linter.unusedSimpArgs false
set_option maxRecDepth 20000
/-- How much room there is, by how many are listed. -/
theorem room_cnt : ∀ (t : Bd) (d : Nat) (m : Int), 0 ≤ m → (d : Int) + m ≤ 1000 → (roomF t m < 0 ∧ m < (t.cnt d : Int)) ∨ (roomF t m = m - (t.cnt d : Int) ∧ (t.cnt d : Int) ≤ m)
  | .nil, d, m, h0, h1 => by simp [roomF, Bd.cnt]; omega
  | .cons k a1 a2 b1 b2 xs sub rest, d, m, h0, h1 => by
    have hc : ((Bd.cons k a1 a2 b1 b2 xs sub rest).cnt d : Int) = 1 + (if k = 7 ∧ d < 1000 then (sub.cnt (d + 1) : Int) else 0) + (rest.cnt d : Int) := by
      simp only [Bd.cnt]; split <;> simp <;> omega
    rw [hc]
    simp only [roomF]
    by_cases hm : 0 ≤ m - 1
    · by_cases hk : k = 7
      · rw [if_pos (show 0 ≤ m - 1 ∧ k = 7 from ⟨hm, hk⟩), if_pos (show k = 7 ∧ d < 1000 from ⟨hk, by omega⟩)]
        rcases room_cnt sub (d + 1) (m - 1) hm (by omega) with ⟨h2, h3⟩ | ⟨h2, h3⟩
        · rw [if_pos h2]; left; exact ⟨h2, by omega⟩
        · rw [if_neg (by omega)]
          rcases room_cnt rest d (roomF sub (m - 1)) (by omega) (by omega) with ⟨h4, h5⟩ | ⟨h4, h5⟩
          · left; exact ⟨h4, by omega⟩
          · right; exact ⟨by omega, by omega⟩
      · rw [if_neg (show ¬ (0 ≤ m - 1 ∧ k = 7) from fun h => hk h.2), if_neg (show ¬ (k = 7 ∧ d < 1000) from fun h => hk h.1)]
        rw [if_neg (by omega)]
        rcases room_cnt rest d (m - 1) (by omega) (by omega) with ⟨h4, h5⟩ | ⟨h4, h5⟩
        · left; exact ⟨h4, by omega⟩
        · right; exact ⟨by omega, by omega⟩
    · rw [if_neg (show ¬ (0 ≤ m - 1 ∧ k = 7) from fun h => hm h.1), if_pos (by omega)]
      left
      refine ⟨by omega, ?_⟩
      split <;> omega
theorem room_flat (t : Bd) : roomF t 400 < 0 ↔ 400 < (t.flat 0).length := by
  rw [Bd.flat_len]
  rcases room_cnt t 0 400 (by omega) (by omega) with ⟨h1, h2⟩ | ⟨h1, h2⟩ <;> omega
theorem nmF_nn (S : List (List UInt8)) : ∀ (l : List Int) (seen : List (List UInt8)), 0 ≤ nmF S seen l
  | [], _ => by simp [nmF]
  | x :: l, seen => by
    unfold nmF
    split
    · omega
    · split
      · omega
      · exact nmF_nn S l _
theorem entF_nn (nf : Nat) : ∀ (l seen : List Int), 0 ≤ entF nf seen l
  | [], _ => by simp [entF]
  | x :: l, seen => by
    unfold entF
    split
    · omega
    · split
      · omega
      · exact entF_nn nf l _
theorem stmtF_nn (L : List Fn) (nl ng ns : Nat) (x : It) : 0 ≤ stmtF L nl ng ns x := by
  unfold stmtF
  repeat' split
  all_goals omega
/-- What a call that answers a rule, and where, leaves. -/
def TriB (w : World) (v : Int × Int × Int) (e : Ending) (w' : World) : Prop := e = .returned (.tuple #[.int .i64 v.1, .int .i64 v.2.1, .int .i64 v.2.2]) ∧ Below w.heap.size w w'
set_option maxHeartbeats 20000000 in
theorem rtree_any (M : Md) (As Ag Af Ae : Option Addr) (cs cg cf ce : Nat) (w : World) (hM : M.Wf) (h : MdR w As Ag Af Ae M) (hlow : ∀ f ∈ M.funcs, ∀ x ∈ f.body.flat 0, x.Low) :
    Calls Try.prog 21 #[.agg #[.slice As M.strs.length cs, .slice Ag M.globs.length cg, .slice Af M.funcs.length cf, .slice Ae M.ents.length ce]] w (TriB w (treeF M)) := by
  obtain ⟨v, hv⟩ : ∃ v, v = treeF M := ⟨_, rfl⟩
  rw [← hv]
  unfold treeF modF at hv
  have hNg := fun wx (hx : Below w.heap.size w wx) => named_any M.strs As Ag Af Ae Ag cs M.globs.length cg M.funcs.length cf M.ents.length ce cg M.globs wx (h.strs.old hx (by omega)) hM.strs (h.globs.old hx (by omega)) hM.globs.1
  have hNl := fun wx (hx : Below w.heap.size w wx) (A : Option Addr) (c : Nat) (l : List Int) (hl : l.length ≤ 1000000) (hr : RdS (fun _ => True) wx A l.length 1 (intV l)) => named_any M.strs As Ag Af Ae A cs M.globs.length cg M.funcs.length cf M.ents.length ce c l wx (h.strs.old hx (by omega)) hM.strs hr hl
  have hSt := fun wx (hx : Below w.heap.size w wx) (Al At Ab Aa Asub : Option Addr) (nl cl ns ct lb cb ca csub : Nat) (fn fp N : Int) (x : It) (ha : ArgsAt wx (.slice Aa x.xs.length ca) x.xs) (hl : x.xs.length ≤ 1000000000) (hd : x.deep ≤ 1000000000) (hlo : x.Low) => broken_any As Ag Af Ae Al At Ab Aa Asub M.strs.length cs M.globs.length cg cf M.ents.length ce nl cl ns ct lb cb ca csub fn fp N M.funcs x wx ha hl hd (h.funcs.old hx) hlo
  have HFd := Lib.hid (fun f (hf : f ∈ M.funcs) => hM.fns f hf)
  have HLow := Lib.hid hlow
  have HFs := Lib.hid h.funcs
  have HEs := Lib.hid h.ents
  obtain ⟨ls, hls⟩ : ∃ n, n = M.strs.length := ⟨_, rfl⟩
  obtain ⟨ng, hng⟩ : ∃ n, n = M.globs.length := ⟨_, rfl⟩
  obtain ⟨nf, hnf⟩ : ∃ n, n = M.funcs.length := ⟨_, rfl⟩
  obtain ⟨ne, hne⟩ : ∃ n, n = M.ents.length := ⟨_, rfl⟩
  have hnfl : nf ≤ 1000000 := by rw [hnf]; exact hM.funcs
  have hnel : ne ≤ 1000000 := by rw [hne]; exact hM.ents.1
  have HNg := Lib.hid hng
  have HNf := Lib.hid hnf
  have HNe := Lib.hid hne
  have HNm : Hid ((namesL M.funcs).length = nf) := by show _ = _; rw [hnf]; simp [namesL]
  rw [← hng, ← hnf, ← hne] at hv
  rw [← hls, ← hng, ← hnf, ← hne] at hNg hNl hSt
  rw [← hls, ← hng, ← hnf, ← hne]
  obtain ⟨r1, hr1⟩ : ∃ r, r = nmF M.strs [] M.globs := ⟨_, rfl⟩
  obtain ⟨r2, hr2⟩ : ∃ r, r = nmF M.strs [] (namesL M.funcs) := ⟨_, rfl⟩
  have hp1 : 0 ≤ r1 := by rw [hr1]; exact nmF_nn _ _ _
  have hp2 : 0 ≤ r2 := by rw [hr2]; exact nmF_nn _ _ _
  rw [← hr1, ← hr2] at hv
  rw [← hr1] at hNg
  have hNn := fun wx hx A c hr => hNl wx hx A c (namesL M.funcs) (by rw [HNm.out]; exact hnfl) hr
  rw [HNm.out, ← hr2] at hNn
  have HNG := Lib.hid hNg
  have HNL := Lib.hid hNl
  have HNN := Lib.hid hNn
  have HSt := Lib.hid hSt
  have HV := Lib.hid hv
  clear hNg hNl hNn hSt hv h hM hls hng hnf hne hr1 hr2 hlow
  obtain ⟨w1, hw1⟩ : ∃ w1, w1 = w.alloc (.cells #[.slice As ls cs, .slice Ag ng cg, .slice Af nf cf, .slice Ae ne ce] 30) := ⟨_, rfl⟩
  have HB1 : Hid (Below w.heap.size w w1) := by rw [hw1]; exact (Below.refl _ _).alloc (Nat.le_refl _) _
  have K1 : Hid (Blk w1 w.heap.size 30 #[.slice As ls cs, .slice Ag ng cg, .slice Af nf cf, .slice Ae ne ce]) := by rw [hw1]; exact Blk.new w 30 _
  go_enter Try.func21, Try.ntmps21
  go_upto_region 1 with (fail)
  rw [← hw1]
  clear hw1
  obtain ⟨m0, m1, m2, m3⟩ := K1.out.c4
  have z1 : w.heap.size < w1.heap.size := K1.out.lt
  by_cases hbig : 40 < ng ∨ 40 < nf ∨ 40 < ne
  · obtain rfl : v = (2, -1, -1) := by rw [HV.out, if_pos hbig]; rfl
    clear HV
    by_cases g1 : 40 < ng
    · have g1i : (40 : Int) < (ng : Int) := by omega
      clear hbig
      go_wp2
      go_ret3
      exact ⟨rfl, HB1.out⟩
    · have g1i : ¬ (40 : Int) < (ng : Int) := by omega
      by_cases g2 : 40 < nf
      · have g2i : (40 : Int) < (nf : Int) := by omega
        clear hbig
        go_wp2
        go_ret3
        exact ⟨rfl, HB1.out⟩
      · have g2i : ¬ (40 : Int) < (nf : Int) := by omega
        have g3i : (40 : Int) < (ne : Int) := by omega
        clear hbig
        go_wp2
        go_ret3
        exact ⟨rfl, HB1.out⟩
  have g1i : ¬ (40 : Int) < (ng : Int) := by omega
  have g2i : ¬ (40 : Int) < (nf : Int) := by omega
  have g3i : ¬ (40 : Int) < (ne : Int) := by omega
  have hv2 := HV.out
  rw [if_neg hbig] at hv2
  have HV2 := Lib.hid hv2
  clear hv2 HV hbig
  go_upto_region 4 with (fail)
  clear g1i g2i g3i m0 m1 m2 m3 z1
  go_wp2_with fail
  go_loopw [5, 6] (fun s3 s9 wr => ∃ (i : Nat) (A : Option Addr) (c : Nat), i ≤ nf ∧ s9 = .int .i64 (i : Int) ∧ s3 = .slice A i c ∧ Hid (wr.ownsRow w.heap.size 3 1 (.slice A i c) i (intV ((namesL M.funcs).take i))) ∧ Hid (Below w.heap.size w wr) ∧ Hid (Blk wr w.heap.size 30 #[.slice As ls cs, .slice Ag ng cg, .slice Af nf cf, .slice Ae ne ce])) (fun _ s9 _ => nf - (intOf s9).toNat)
  case atStart => exact ⟨0, none, 0, Nat.zero_le _, rfl, rfl, World.ownsRow_nil _ _ _ _, HB1, K1⟩
  case round =>
    clear K1 HB1
    obtain ⟨i, A, c, hi, rfl, rfl, hO, hB, hK⟩ := hrel
    obtain ⟨m0, m1, m2, m3⟩ := hK.out.c4
    have z1 : w.heap.size < wr.heap.size := hK.out.lt
    by_cases hlt : i < nf
    · have hiL : i < M.funcs.length := by rw [← HNf.out]; exact hlt
      have hli : (i : Int) < (nf : Int) := by omega
      obtain ⟨b, o, rfl, _, hc⟩ := HFs.out (by omega)
      obtain ⟨fs, ⟨Al, cl, At, ct, Ab, cb, rfl, _⟩, hcc⟩ := hc i hiL
      have d0 := hcc 0 _ rfl
      have hbl : b < w.heap.size := World.block_lt_of_cell? w _ d0
      have e0 := cell_old hB.out hbl d0
      have hz : b < wr.heap.size := by have := hB.out.size; omega
      simp only [Nat.add_zero] at e0
      have htk : (namesL M.funcs).take (i + 1) = (namesL M.funcs).take i ++ [M.funcs[i].name] := by
        have : i < (namesL M.funcs).length := by simp [namesL, hiL]
        rw [List.take_succ_eq_append_getElem this]
        simp [namesL]
      have hlt2 : ((namesL M.funcs).take i).length = i := by simp [namesL]; omega
      generalize M.funcs[i].name = fn at *
      have hp := push1 w.heap.size (.slice A i c) ((namesL M.funcs).take i) fn wr (by rw [hlt2]; exact hO.out) (by rw [hlt2]; omega) hB.out.size
      rw [hlt2] at hp
      obtain ⟨q5, c5, w5, hr5, hO5, hg5, _⟩ := hp
      have HO5 : Hid (w5.ownsRow w.heap.size 3 1 (.slice (some ⟨q5, 0, none⟩) (i + 1) c5) (i + 1) (intV ((namesL M.funcs).take (i + 1)))) := by
        show World.ownsRow _ _ _ _ _ _ _
        rw [htk]
        rw [show ((namesL M.funcs).take i ++ [fn]).length = i + 1 from by rw [List.length_append, hlt2]; rfl] at hO5
        exact hO5
      have HB5 : Hid (Below w.heap.size w w5) := (hB.out.alloc hB.out.size _).grown hg5 (by have := hB.out.size; simp at this ⊢; omega) (fun k hk => (hO.out.lt k hk).1)
      have HK5 : Hid (Blk w5 w.heap.size 30 #[.slice As ls cs, .slice Ag ng cg, .slice (some ⟨b, o, none⟩) nf cf, .slice Ae ne ce]) := (hK.out.alloc _).grown hg5 (own_ne hO.out hK.out (by decide))
      clear hc hcc d0 htk hlt2 hO5 hg5 hO hB hK
      go_upto_region 7 with (fail)
      go_wp2_with (at_builtin; refine Lib.wpList_append_run _ rfl _ _ 27 27 rfl _ _ rfl rfl _ _ hr5 ?_)
      go_roundw
      case rel => exact ⟨i + 1, _, _, by omega, by go_num, rfl, HO5, HB5, HK5⟩
      case measure => simp [intOf]; omega
    · obtain rfl : i = nf := by omega
      have hRn : RdS (fun _ => True) wr A i 1 (intV (namesL M.funcs)) := by
        have hO2 := hO.out
        rw [List.take_of_length_le (by rw [HNm.out]; omega)] at hO2
        exact (RdS.own hO2).below fun _ _ => trivial
      have HRn := Lib.hid hRn
      clear hO hRn hlt
      obtain ⟨w9, rfl⟩ : ∃ w9 : World, w9 = wr := ⟨_, rfl⟩
      go_wp2_with fail
      refine (HNG.out _ hB.out).mono ?_
      rintro e w2 ⟨rfl, hb2⟩
      have HB2 := Lib.hid (hB.out.trans (hb2.mono hB.out.size))
      have K2 := Lib.hid (hK.out.old hb2)
      have HRn2 := Lib.hid (HRn.out.old hb2 (by omega))
      clear hb2 HRn HNG m0 m1 m2 m3 z1 hB hK
      by_cases hr1 : r1 = 0
      · subst hr1
        have hv3 := HV2.out
        rw [if_neg (show ¬ ((0 : Int) ≠ 0) by simp)] at hv3
        have HV3 := Lib.hid hv3
        clear hv3 HV2 hp1
        obtain ⟨m0, m1, m2, m3⟩ := K2.out.c4
        have z1 : w.heap.size < w2.heap.size := K2.out.lt
        go_wp2_with fail
        refine (HNN.out _ HB2.out A c HRn2.out).mono ?_
        rintro e w3 ⟨rfl, hb3⟩
        have HB3 := Lib.hid (HB2.out.trans (hb3.mono HB2.out.size))
        have K3 := Lib.hid (K2.out.old hb3)
        clear hb3 HRn2 HNN m0 m1 m2 m3 z1 HB2 K2
        by_cases hr2 : r2 = 0
        · subst hr2
          have hv4 := HV3.out
          rw [if_neg (show ¬ ((0 : Int) ≠ 0) by simp)] at hv4
          have HV4 : Hid (v = if entF i (M.ents.take 0) (M.ents.drop 0) ≠ 0 then (entF i (M.ents.take 0) (M.ents.drop 0), -1, -1) else funcsF M 0 M.funcs) := hv4
          clear hv4 HV3 hp2
          have HF := HFs
          obtain ⟨G, hG⟩ : ∃ G : Int → Int × Int × Int, G = fun r => if r ≠ 0 then (r, -1, -1) else funcsF M 0 M.funcs := ⟨_, rfl⟩
          have HV5 : Hid (v = G (entF i (M.ents.take 0) (M.ents.drop 0))) := by show _ = _; rw [hG]; exact HV4.out
          have HG : Hid (∀ r, r ≠ 0 → G r = (r, -1, -1)) := fun r hr => by rw [hG]; exact if_pos hr
          have HG0 : Hid (G 0 = funcsF M 0 M.funcs) := by show _ = _; rw [hG]; rfl
          clear HV4 hG HF
          obtain ⟨m0, m1, m2, m3⟩ := K3.out.c4
          have z1 : w.heap.size < w3.heap.size := K3.out.lt
          go_upto_region 14 with (fail)
          clear m0 m1 m2 m3 z1
          go_wp2_with fail
          go_loopw [9] (fun s wr => ∃ (j : Nat), j ≤ ne ∧ s = .int .i64 (j : Int) ∧ Hid (v = G (entF i (M.ents.take j) (M.ents.drop j))) ∧ Hid (Below w.heap.size w wr) ∧ Hid (Blk wr w.heap.size 30 #[.slice As ls cs, .slice Ag ng cg, .slice Af i cf, .slice Ae ne ce])) (fun s _ => ne - (intOf s).toNat)
          case atStart => exact ⟨0, Nat.zero_le _, rfl, HV5, HB3, K3⟩
          case round =>
            clear HV5 HB3 K3
            obtain ⟨j, hj, rfl, hE, hB, hK⟩ := hrel
            obtain ⟨m0, m1, m2, m3⟩ := hK.out.c4
            have z1 : w.heap.size < wr.heap.size := hK.out.lt
            by_cases hlt : j < ne
            · have hjl : j < M.ents.length := by rw [← HNe.out]; exact hlt
              have hlj : (j : Int) < (ne : Int) := by omega
              obtain ⟨b, o, rfl, _, hc⟩ := HEs.out.2 (by omega)
              have HcL : Hid (∀ k x, M.ents[k]? = some x → w.cell? ⟨b, o + k, none⟩ = some (.int .i64 x)) := fun k x hk => hc k _ (by simp [intV, hk])
              have hbl : b < w.heap.size := World.block_lt_of_cell? w _ (hc j _ (intV_get _ j hjl))
              have e0 := cell_old hB.out hbl (HcL.out j _ (List.getElem?_eq_getElem hjl))
              have hz : b < wr.heap.size := by have := hB.out.size; omega
              have hE2 := hE.out
              rw [List.drop_eq_getElem_cons hjl, entF] at hE2
              have ht : M.ents.take (j + 1) = M.ents.take j ++ [M.ents[j]] := List.take_succ_eq_append_getElem hjl
              have HT := Lib.hid ht
              have HXj : Hid (M.ents[j]? = some M.ents[j]) := List.getElem?_eq_getElem hjl
              generalize M.ents[j] = x at *
              clear hc ht hE
              by_cases hx0 : x < 0
              · have hw : withF x i = false := by simp [withF]; omega
                rw [if_pos hw, HG.out 5 (by simp)] at hE2
                subst hE2
                clear hw HT HXj
                go_upto_region 17 with (fail)
                go_quiet ((fail))
                go_wp2
                go_ret3
                exact ⟨rfl, hB.out.trans ((below_dN _ _ _).mono hB.out.size)⟩
              by_cases hx1 : (i : Int) ≤ x
              · have hw : withF x i = false := by simp [withF]; omega
                rw [if_pos hw, HG.out 5 (by simp)] at hE2
                subst hE2
                clear hw HT HXj
                go_upto_region 17 with (fail)
                go_quiet ((fail))
                go_wp2
                go_ret3
                exact ⟨rfl, hB.out.trans ((below_dN _ _ _).mono hB.out.size)⟩
              have hw : ¬ withF x i = false := by simp [withF]; omega
              rw [if_neg hw] at hE2
              have HE2 := Lib.hid hE2
              obtain ⟨xj, rfl⟩ : ∃ xj : Nat, x = xj := ⟨x.toNat, by omega⟩
              have p1 : decide ((xj : Int) < 0) = false := by simp
              have p2 : decide (i ≤ xj) = false := by simp; omega
              clear hE2 hw hx0 hx1
              go_upto_region 17 with (fail)
              go_quiet ((fail))
              have HB2 := Lib.hid (hB.out.trans ((below_dN wr nq _).mono hB.out.size))
              have K2 := Lib.hid (hK.out.old (below_dN wr nq _))
              obtain ⟨wi, hwi⟩ : ∃ wi, wi = wr.drewN nq := ⟨_, rfl⟩
              rw [← hwi] at HB2 K2 ⊢
              clear hwi e0 m0 m1 m2 m3 z1 hz hB hK p1 p2
              obtain ⟨w10, rfl⟩ : ∃ w10 : World, w10 = wr := ⟨_, rfl⟩
              go_wp2_with fail
              go_loopw [10] (fun sl ws => ∃ (k : Nat), k ≤ j ∧ sl = .int .i64 (k : Int) ∧ Hid (∀ k' y, k' < k → M.ents[k']? = some y → y ≠ (xj : Int)) ∧ Hid (Below w.heap.size w ws) ∧ Hid (Blk ws w.heap.size 30 #[.slice As ls cs, .slice Ag ng cg, .slice Af i cf, .slice (some ⟨b, o, none⟩) ne ce])) (fun sl _ => j - (intOf sl).toNat)
              case atStart => exact ⟨0, Nat.zero_le _, rfl, fun k' _ hk' => absurd hk' (Nat.not_lt_zero _), HB2, K2⟩
              case round =>
                clear HB2 K2
                obtain ⟨k, hk, rfl, hD, hBs, hKs⟩ := hrel
                obtain ⟨m0, m1, m2, m3⟩ := hKs.out.c4
                have z1 : w.heap.size < wr.heap.size := hKs.out.lt
                by_cases hlk : k < j
                · have hlki : (k : Int) < (j : Int) := by omega
                  have hlkn : (k : Int) < (ne : Int) := by omega
                  have hkl : k < M.ents.length := by omega
                  have HK' : Hid (M.ents[k]? = some M.ents[k]) := List.getElem?_eq_getElem hkl
                  have a1 := cell_old hBs.out hbl (HcL.out k _ HK'.out)
                  have a2 := cell_old hBs.out hbl (HcL.out j _ HXj.out)
                  have hzb : b < wr.heap.size := by have := hBs.out.size; omega
                  generalize M.ents[k] = y at *
                  by_cases hx : y = (xj : Int)
                  · have hv3 : v = (3, -1, -1) := by
                      rw [HE2.out, if_pos, HG.out 3 (by simp)]
                      rw [List.contains_iff_mem]
                      have := HK'.out
                      rw [hx, List.getElem?_eq_getElem hkl] at this
                      injection this with this
                      rw [← this]
                      exact List.mem_take_iff_getElem.2 ⟨k, by omega, rfl⟩
                    subst hv3
                    subst hx
                    go_upto_region 22 with (fail)
                    go_quiet ((fail))
                    go_wp2
                    go_ret3
                    exact ⟨rfl, hBs.out.trans ((below_dN _ _ _).mono hBs.out.size)⟩
                  · have hq : (y == (xj : Int)) = false := by simpa using hx
                    have HD2 : Hid (∀ k' y, k' < k + 1 → M.ents[k']? = some y → y ≠ (xj : Int)) := fun k' y' hk' hy' => by
                      rcases Nat.lt_or_ge k' k with h | h
                      · exact hD.out k' y' h hy'
                      · obtain rfl : k' = k := by omega
                        rw [HK'.out] at hy'
                        injection hy' with hy'
                        rw [← hy']; exact hx
                    clear hx
                    go_upto_region 22 with (fail)
                    go_quiet ((fail))
                    have HB3 := Lib.hid (hBs.out.trans ((below_dN wr nq _).mono hBs.out.size))
                    have K3 := Lib.hid (hKs.out.old (below_dN wr nq _))
                    go_wp2
                    go_roundw
                    case rel => exact ⟨k + 1, by omega, by go_num, HD2, HB3, K3⟩
                    case measure => simp [intOf]; omega
                · obtain rfl : k = j := by omega
                  have HE3 : Hid (v = G (entF i (M.ents.take (k + 1)) (M.ents.drop (k + 1)))) := by
                    show _ = _
                    rw [HE2.out, if_neg, HT.out]
                    rw [List.contains_iff_mem]
                    intro hmem
                    obtain ⟨k', hk', hys⟩ := List.mem_take_iff_getElem.1 hmem
                    exact hD.out k' _ (by omega) (List.getElem?_eq_getElem (by omega)) hys
                  clear HE2
                  go_wp2_with fail
                  go_roundw
                  case rel => exact ⟨k + 1, by omega, by go_num, HE3, hBs, hKs⟩
                  case measure => simp [intOf]; omega
            · obtain rfl : j = ne := by omega
              have hE2 := hE.out
              rw [List.drop_of_length_le (by rw [← HNe.out]; omega), entF, HG0.out] at hE2
              have HV6 : Hid (v = funcsF M 0 (M.funcs.drop 0)) := hE2
              clear hE hE2 HG HG0 HEs hlt
              go_upto_region 24 with (fail)
              clear m0 m1 m2 m3 z1
              obtain ⟨w11, rfl⟩ : ∃ w11 : World, w11 = wr := ⟨_, rfl⟩
              go_wp2_with fail
              go_loopw [11] (fun s wr => ∃ (p : Nat), p ≤ i ∧ s = .int .i64 (p : Int) ∧ Hid (v = funcsF M p (M.funcs.drop p)) ∧ Hid (Below w.heap.size w wr) ∧ Hid (Blk wr w.heap.size 30 #[.slice As ls cs, .slice Ag ng cg, .slice Af i cf, .slice Ae j ce])) (fun s _ => i - (intOf s).toNat)
              case atStart => exact ⟨0, Nat.zero_le _, rfl, HV6, hB, hK⟩
              case round =>
                clear HV6 hB hK
                obtain ⟨p, hp, rfl, hE, hB, hK⟩ := hrel
                obtain ⟨m0, m1, m2, m3⟩ := hK.out.c4
                have z1 : w.heap.size < wr.heap.size := hK.out.lt
                by_cases hlt : p < i
                · have hiL : p < M.funcs.length := by rw [← HNf.out]; exact hlt
                  have hli : (p : Int) < (i : Int) := by omega
                  obtain ⟨b, o, rfl, _, hc⟩ := HFs.out (by omega)
                  obtain ⟨fs, ⟨Al, cl, At, ct, Ab, cb, rfl, r1, r2, r3⟩, hcc⟩ := hc p hiL
                  have hbl : b < w.heap.size := World.block_lt_of_cell? w _ (hcc 0 _ rfl)
                  have e0 := cell_old hB.out hbl (hcc 0 _ rfl)
                  have e1 := cell_old hB.out hbl (hcc 1 _ rfl)
                  have e2 := cell_old hB.out hbl (hcc 2 _ rfl)
                  have e3 := cell_old hB.out hbl (hcc 3 _ rfl)
                  have e4 := cell_old hB.out hbl (hcc 4 _ rfl)
                  have hz : b < wr.heap.size := by have := hB.out.size; omega
                  simp only [Nat.add_zero] at e0
                  obtain ⟨_, _, w3', w4', w5', w6'⟩ := HFd.out _ (List.getElem_mem hiL)
                  have hlw := HLow.out _ (List.getElem_mem hiL)
                  have hE2 := hE.out
                  rw [List.drop_eq_getElem_cons hiL] at hE2
                  simp only [funcsF] at hE2
                  have hn1 := fun wx (hx : Below w.heap.size w wx) => HNL.out wx hx Al cl M.funcs[p].locals w3' (r1.old hx (by omega))
                  have hn2 := fun wx (hx : Below w.heap.size w wx) => HNL.out wx hx At ct M.funcs[p].sites w4' (r2.old hx (by omega))
                  have hfl := fun wx (hx : Below w.heap.size w wx) => flatR_any Ab cb M.funcs[p].body wx (r3.at_.old hx) (by omega) (by omega)
                  have hfs : ∀ x ∈ M.funcs[p].body.flat 0, x.xs.length ≤ 1000000000 := fun x hx => by
                    have := (Bd.flat_size M.funcs[p].body 0 x hx).2
                    omega
                  have hfd : ∀ x ∈ M.funcs[p].body.flat 0, x.deep ≤ 1000000000 := fun x hx => by
                    have := Bd.flat_deep M.funcs[p].body 0 (by omega) x hx
                    omega
                  have hfn : (M.funcs[p].body.flat 0).length ≤ 1000000 := by
                    rw [Bd.flat_len]
                    have := Bd.cnt_le M.funcs[p].body 0
                    omega
                  generalize M.funcs[p] = f at *
                  obtain ⟨fn, fp, fl, ft, fb⟩ := f
                  simp only [funcF, room_flat] at hE2
                  dsimp only at *
                  obtain ⟨nl, hnl⟩ : ∃ n, n = fl.length := ⟨_, rfl⟩
                  obtain ⟨nt, hnt⟩ : ∃ n, n = ft.length := ⟨_, rfl⟩
                  obtain ⟨nb, hnb⟩ : ∃ n, n = fb.len := ⟨_, rfl⟩
                  obtain ⟨q1, hq1⟩ : ∃ r, r = nmF M.strs [] fl := ⟨_, rfl⟩
                  obtain ⟨q2, hq2⟩ : ∃ r, r = nmF M.strs [] ft := ⟨_, rfl⟩
                  have hq10 : 0 ≤ q1 := by rw [hq1]; exact nmF_nn _ _ _
                  have hq20 : 0 ≤ q2 := by rw [hq2]; exact nmF_nn _ _ _
                  rw [← hnl] at e2 hn1 hE2
                  rw [← hnt] at e3 hn2 hE2
                  rw [← hnb] at e4 hfl
                  rw [← hq1] at hn1 hE2
                  rw [← hq2] at hn2 hE2
                  rw [← HNg.out] at hE2
                  have HN1 := Lib.hid hn1
                  have HN2 := Lib.hid hn2
                  have HFl := Lib.hid hfl
                  have HFs2 := Lib.hid hfs
                  have HFd2 := Lib.hid hfd
                  have HLw2 := Lib.hid hlw
                  have HE2 := Lib.hid hE2
                  obtain ⟨w1x, hw1x⟩ : ∃ wx, wx = wr.alloc (.cells #[.int .i64 fn, .int .i64 fp, .slice Al nl cl, .slice At nt ct, .slice Ab nb cb] 40) := ⟨_, rfl⟩
                  have HBx : Hid (Below w.heap.size w w1x) := by rw [hw1x]; exact hB.out.alloc hB.out.size _
                  have K1x : Hid (Blk w1x w.heap.size 30 #[.slice As ls cs, .slice Ag ng cg, .slice (some ⟨b, o, none⟩) i cf, .slice Ae j ce]) := by rw [hw1x]; exact hK.out.alloc _
                  have KF : Hid (Blk w1x wr.heap.size 40 #[.int .i64 fn, .int .i64 fp, .slice Al nl cl, .slice At nt ct, .slice Ab nb cb]) := by rw [hw1x]; exact Blk.new wr 40 _
                  clear hc hcc r1 r2 r3 w3' w4' w5' w6' hE hE2 hn1 hn2 hfl hfs hfd hlw hnl hnt hnb hq1 hq2
                  go_upto_region 28 with (fail)
                  rw [← hw1x]
                  clear hw1x m0 m1 m2 m3 z1 e0 e1 e2 e3 e4 hz hB hK
                  obtain ⟨gx, hgx⟩ : ∃ g, g = wr.heap.size := ⟨_, rfl⟩
                  rw [← hgx] at KF ⊢
                  clear hgx
                  obtain ⟨c0, c1, c2, c3, c4⟩ := KF.out.c5
                  have z2 : gx < w1x.heap.size := KF.out.lt
                  go_wp2_with fail
                  refine (HFl.out _ HBx.out).mono ?_
                  rintro e w4 ⟨Ai, ci, rfl, hIt, hb4⟩
                  have HB4 := Lib.hid (HBx.out.trans (hb4.mono HBx.out.size))
                  have KF4 := Lib.hid (KF.out.old hb4)
                  have K14 := Lib.hid (K1x.out.old hb4)
                  have HIt := Lib.hid hIt
                  clear hb4 hIt c0 c1 c2 c3 c4 z2 KF K1x HFl HBx
                  generalize fb.flat 0 = IL at *
                  obtain ⟨ni, hni⟩ : ∃ n, n = IL.length := ⟨_, rfl⟩
                  have HNi := Lib.hid hni
                  have hE3 := HE2.out
                  rw [← hni] at hfn hE3 ⊢
                  have HE3 := Lib.hid hE3
                  clear hni HE2 hE3
                  obtain ⟨c0, c1, c2, c3, c4⟩ := KF4.out.c5
                  have z2 : gx < w4.heap.size := KF4.out.lt
                  by_cases hmany : 40 < nl ∨ 40 < nt ∨ 400 < ni
                  · obtain rfl : v = (2, (p : Int), -1) := by
                      have := HE3.out
                      rw [if_pos hmany] at this
                      rw [this]; rfl
                    clear HE3
                    by_cases g1 : 40 < nl
                    · have g1i : (40 : Int) < (nl : Int) := by omega
                      clear hmany
                      go_wp2
                      go_ret3
                      exact ⟨rfl, HB4.out⟩
                    · have g1i : ¬ (40 : Int) < (nl : Int) := by omega
                      by_cases g2 : 40 < nt
                      · have g2i : (40 : Int) < (nt : Int) := by omega
                        clear hmany
                        go_wp2
                        go_ret3
                        exact ⟨rfl, HB4.out⟩
                      · have g2i : ¬ (40 : Int) < (nt : Int) := by omega
                        have g3i : (400 : Int) < (ni : Int) := by omega
                        clear hmany
                        go_wp2
                        go_ret3
                        exact ⟨rfl, HB4.out⟩
                  have g1i : ¬ (40 : Int) < (nl : Int) := by omega
                  have g2i : ¬ (40 : Int) < (nt : Int) := by omega
                  have g3i : ¬ (400 : Int) < (ni : Int) := by omega
                  have hE4 := HE3.out
                  rw [if_neg hmany] at hE4
                  have HE4 := Lib.hid hE4
                  clear hmany HE3 hE4
                  go_upto_region 31 with (fail)
                  clear g1i g2i g3i
                  by_cases hpar : fp < 0 ∨ (nl : Int) < fp ∨ 6 < fp
                  · obtain rfl : v = (4, (p : Int), -1) := by
                      have := HE4.out
                      rw [if_pos hpar] at this
                      rw [this]; rfl
                    clear HE4
                    by_cases g1 : fp < 0
                    · clear hpar
                      go_wp2
                      go_ret3
                      exact ⟨rfl, HB4.out⟩
                    · by_cases g2 : (nl : Int) < fp
                      · clear hpar
                        go_wp2
                        go_ret3
                        exact ⟨rfl, HB4.out⟩
                      · have g3 : 6 < fp := by omega
                        clear hpar
                        go_wp2
                        go_ret3
                        exact ⟨rfl, HB4.out⟩
                  have g1 : ¬ fp < 0 := by omega
                  have g2 : ¬ (nl : Int) < fp := by omega
                  have g3 : ¬ 6 < fp := by omega
                  have hE5 := HE4.out
                  rw [if_neg hpar] at hE5
                  have HE5 := Lib.hid hE5
                  clear hpar HE4 hE5
                  go_upto_region 33 with (fail)
                  clear g1 g2 g3
                  obtain ⟨m0, m1, m2, m3⟩ := K14.out.c4
                  have z1 : w.heap.size < w4.heap.size := K14.out.lt
                  go_wp2_with fail
                  refine (HN1.out _ HB4.out).mono ?_
                  rintro e w5 ⟨rfl, hb5⟩
                  have HB5 := Lib.hid (HB4.out.trans (hb5.mono HB4.out.size))
                  have HB54 := Lib.hid hb5
                  have KF5 := Lib.hid (KF4.out.old hb5)
                  have K15 := Lib.hid (K14.out.old hb5)
                  clear hb5 c0 c1 c2 c3 c4 z2 m0 m1 m2 m3 z1 HN1
                  by_cases hq1 : q1 = 0
                  · subst hq1
                    have hE6 := HE5.out
                    rw [if_neg (show ¬ ((0 : Int) ≠ 0) by simp)] at hE6
                    have HE6 := Lib.hid hE6
                    clear HE5 hE6 hq10
                    obtain ⟨m0, m1, m2, m3⟩ := K15.out.c4
                    obtain ⟨c0, c1, c2, c3, c4⟩ := KF5.out.c5
                    have z1 : w.heap.size < w5.heap.size := K15.out.lt
                    have z2 : gx < w5.heap.size := KF5.out.lt
                    go_wp2_with fail
                    refine (HN2.out _ HB5.out).mono ?_
                    rintro e w6 ⟨rfl, hb6⟩
                    have HB6 := Lib.hid (HB5.out.trans (hb6.mono HB5.out.size))
                    have HB64 := Lib.hid (HB54.out.trans (hb6.mono HB54.out.size))
                    have KF6 := Lib.hid (KF5.out.old hb6)
                    have K16 := Lib.hid (K15.out.old hb6)
                    clear hb6 c0 c1 c2 c3 c4 z2 m0 m1 m2 m3 z1 HN2 KF5 K15 HB54 HB5
                    by_cases hq2 : q2 = 0
                    · subst hq2
                      have hE7 := HE6.out
                      rw [if_neg (show ¬ ((0 : Int) ≠ 0) by simp)] at hE7
                      have HE7 := Lib.hid hE7
                      clear HE6 hE7 hq20
                      obtain ⟨w12, rfl⟩ : ∃ w12 : World, w12 = wr := ⟨_, rfl⟩
                      go_wp2_with fail
                      go_loopw [16] (fun s ws => ∃ (y : Nat), y ≤ ni ∧ s = .int .i64 (y : Int) ∧ Hid (stmtsF M.funcs nl ng nt 0 IL = stmtsF M.funcs nl ng nt y (IL.drop y)) ∧ Hid (Below w4.heap.size w4 ws)) (fun s _ => ni - (intOf s).toNat)
                      case atStart => exact ⟨0, Nat.zero_le _, rfl, rfl, HB64⟩
                      case round =>
                        obtain ⟨y, hy, rfl, hS, hBs⟩ := hrel
                        have HBz := Lib.hid (HB4.out.trans (hBs.out.mono HB4.out.size))
                        by_cases hjlt : y < ni
                        · have hjL : y < IL.length := by rw [← HNi.out]; exact hjlt
                          have hlj : (y : Int) < (ni : Int) := by omega
                          obtain ⟨qi, rfl, hqi, hnc, Aa, ca, Asub, csub, ha, _, hcc⟩ := HIt.out.at_ y hjL
                          have d0 := cell_old hBs.out hqi (hcc 0 _ rfl)
                          have d1 := cell_old hBs.out hqi (hcc 1 _ rfl)
                          have d2 := cell_old hBs.out hqi (hcc 2 _ rfl)
                          have d3 := cell_old hBs.out hqi (hcc 3 _ rfl)
                          have d4 := cell_old hBs.out hqi (hcc 4 _ rfl)
                          have d5 := cell_old hBs.out hqi (hcc 5 _ rfl)
                          have d6 := cell_old hBs.out hqi (hcc 6 _ rfl)
                          have d7 := cell_old hBs.out hqi (hcc 7 _ rfl)
                          have d8 := cell_old hBs.out hqi (hcc 8 _ rfl)
                          simp only [Nat.add_zero] at d0
                          have hs1 := HFs2.out _ (List.getElem_mem hjL)
                          have hs2 := HFd2.out _ (List.getElem_mem hjL)
                          have hs4 := HLw2.out _ (List.getElem_mem hjL)
                          have hS2 := hS.out
                          rw [List.drop_eq_getElem_cons hjL] at hS2
                          have hHBd : Below w.heap.size w wr.drew := HBz.out.drew
                          have hstm := HSt.out wr.drew hHBd Al At Ab Aa Asub nl cl nt ct nb cb ca csub fn fp (y : Int) IL[y] (ha.old (hBs.out.drew)) hs1 hs2 hs4
                          simp only [stmtsF] at hS2
                          have hrn : 0 ≤ stmtF M.funcs nl ng nt IL[y] := stmtF_nn _ _ _ _ _
                          generalize IL[y] = x at *
                          obtain ⟨deep, xk, xa1, xa2, xb1, xb2, xs, sub⟩ := x
                          dsimp only at *
                          obtain ⟨rs, hrs⟩ : ∃ r, r = stmtF M.funcs nl ng nt ⟨deep, xk, xa1, xa2, xb1, xb2, xs, sub⟩ := ⟨_, rfl⟩
                          rw [← hrs] at hS2 hstm hrn
                          obtain ⟨nx, hnx⟩ : ∃ n, n = xs.length := ⟨_, rfl⟩
                          obtain ⟨nsb, hnsb⟩ : ∃ n, n = sub.len := ⟨_, rfl⟩
                          rw [← hnx] at d7 hstm
                          rw [← hnsb] at d8 hstm
                          have HStm := Lib.hid hstm
                          have HS2 := Lib.hid hS2
                          have zq : qi < wr.heap.size := Nat.lt_of_lt_of_le hqi hBs.out.size
                          have L1 := Lib.hid (K14.out.old hBs.out)
                          have LF := Lib.hid (KF4.out.old hBs.out)
                          have hci := hcc 0 _ rfl
                          simp only [Nat.add_zero] at hci
                          have HCI := Lib.hid hci
                          clear hcc ha hs1 hs2 hs4 hS2 hS hrs hstm hnx hnsb hHBd hci
                          obtain ⟨m0, m1, m2, m3⟩ := L1.out.c4
                          obtain ⟨c0, c1, c2, c3, c4⟩ := LF.out.c5
                          have z1 : w.heap.size < wr.heap.size := L1.out.lt
                          have z2 : gx < wr.heap.size := LF.out.lt
                          go_upto_region 42 with (fail)
                          go_cut [17] (fun s17 wx => s17 = .int .i64 rs ∧ Hid (Below wr.heap.size wr wx))
                          case first =>
                            go_region_law (first | (go_simp; go_at_call 43; refine HStm.out.mono ?_; rintro e w8 ⟨rfl, hb8⟩))
                            all_goals
                              have HB8 : Hid (Below wr.heap.size wr w8) := ((Below.refl wr.heap.size wr).drew).trans hb8
                              clear hb8
                              go_wp2_with fail
                              go_meet
                              case rel => exact ⟨rfl, HB8⟩
                          case rest =>
                            obtain ⟨rfl, hB8⟩ := hcut
                            have HB84 := Lib.hid (hBs.out.trans (hB8.out.mono hBs.out.size))
                            have HB8w := Lib.hid (HBz.out.trans (hB8.out.mono HBz.out.size))
                            clear m0 m1 m2 m3 c0 c1 c2 c3 c4 z1 z2 d0 d1 d2 d3 d4 d5 d6 d7 d8 zq L1 LF HStm hB8
                            by_cases hrs : rs = 0
                            · subst hrs
                              have hS4 := HS2.out
                              rw [if_neg (show ¬ ((0 : Int) ≠ 0) by simp)] at hS4
                              have HS4 := Lib.hid hS4
                              clear hS4 HS2 hrn
                              go_wp2
                              go_roundw
                              case rel => exact ⟨y + 1, by omega, by go_num, HS4, HB84⟩
                              case measure => simp [intOf]; omega
                            · obtain rfl : v = (rs, (p : Int), (y : Int)) := by
                                have h1 := HS2.out
                                rw [if_pos hrs] at h1
                                have h2 := HE7.out
                                rw [h1] at h2
                                rw [h2, if_pos (show (rs, (y : Int)).1 ≠ 0 from hrs)]
                              have g1 : (0 : Int) < rs := by omega
                              have d0 := cell_old HB84.out hqi HCI.out
                              have zq := Nat.lt_of_lt_of_le hqi HB84.out.size
                              clear HS2 HE7 hrs
                              go_upto_region 44 with (fail)
                              go_quiet ((fail))
                              go_wp2
                              go_ret3
                              exact ⟨rfl, HB8w.out.trans ((below_dN _ _ _).mono HB8w.out.size)⟩
                        · obtain rfl : y = ni := by omega
                          have hS2 := hS.out
                          rw [List.drop_of_length_le (by rw [← HNi.out]; omega)] at hS2
                          have HE8 : Hid (v = funcsF M (p + 1) (M.funcs.drop (p + 1))) := by
                            show _ = _
                            have := HE7.out
                            rw [hS2] at this
                            simpa [stmtsF] using this
                          have K19 := Lib.hid (K14.out.old hBs.out)
                          clear hS2 hS HE7
                          go_wp2
                          go_roundw
                          case rel => exact ⟨p + 1, by omega, by go_num, HE8, HBz, K19⟩
                          case measure => simp [intOf]; omega
                    · have g2 : (0 : Int) < q2 := by omega
                      obtain rfl : v = (q2, (p : Int), -1) := by
                        have := HE6.out
                        rw [if_pos hq2] at this
                        exact this
                      clear HE6 hq2
                      go_wp2
                      go_ret3
                      exact ⟨rfl, HB6.out⟩
                  · have g1 : (0 : Int) < q1 := by omega
                    obtain rfl : v = (q1, (p : Int), -1) := by
                      have := HE5.out
                      rw [if_pos hq1, if_pos hq1] at this
                      exact this
                    clear HE5 hq1
                    go_wp2
                    go_ret3
                    exact ⟨rfl, HB5.out⟩
                · obtain rfl : p = i := by omega
                  have hE2 := hE.out
                  rw [List.drop_of_length_le (by rw [← HNf.out]; omega)] at hE2
                  obtain rfl : v = (0, -1, -1) := hE2
                  clear hE
                  go_wp2
                  go_ret3
                  exact ⟨rfl, hB.out⟩
        · have hg2 : (0 : Int) < r2 := by omega
          have hg2' : r2 ≠ 0 := hr2
          obtain rfl : v = (r2, -1, -1) := by
            have := HV3.out
            rw [if_pos hr2] at this
            rw [this, if_pos hr2]
          clear HV3 hr2 hg2'
          go_wp2
          go_ret3
          exact ⟨rfl, HB3.out⟩
      · have hg1 : (0 : Int) < r1 := by omega
        obtain rfl : v = (r1, -1, -1) := by
          have := HV2.out
          rw [if_pos hr1] at this
          rw [this, if_pos hr1]
        clear HV2 hr1
        go_wp2
        go_ret3
        exact ⟨rfl, HB2.out⟩
end Go.Proofs.Ytpdebnecfknohaa
namespace Go.Proofs.Ytpdebnecfknohaa
open Go.RowKit
set_option linter.unusedVariables false
set_option linter.unusedSimpArgs false
set_option maxRecDepth 20000
/-- A fault's seven numbers, those of a rule, a function, a statement, against three numbers. -/
def toldF (t : Int × Int × Int) (n f s : Int) : Bool := if n = 0 then t.1 == 0 && t.2.1 == -1 && t.2.2 == -1 else t.1 == n && t.2.1 == f && t.2.2 == s
set_option maxHeartbeats 4000000 in
theorem told_any (r a b n f s : Int) (w : World) : Calls Try.prog 17 #[faultV r a b, .int .i64 n, .int .i64 f, .int .i64 s] w (BlB w (toldF (r, a, b) n f s)) := by
  obtain ⟨v, hv⟩ : ∃ v, v = toldF (r, a, b) n f s := ⟨_, rfl⟩
  rw [← hv]
  have HV := Lib.hid hv
  clear hv
  unfold faultV
  obtain ⟨fe, hfe⟩ : ∃ fe : Int, fe = if r = 0 then 0 else 8 := ⟨_, rfl⟩
  rw [← hfe]
  have HFE := Lib.hid hfe
  clear hfe
  obtain ⟨w1, hw1⟩ : ∃ w1, w1 = w.alloc (.cells #[.int .i64 fe, .int .i64 0, .int .i64 0, .int .i64 0, .int .i64 r, .int .i64 a, .int .i64 b] 35) := ⟨_, rfl⟩
  have HB1 : Hid (Below w.heap.size w w1) := by rw [hw1]; exact (Below.refl _ _).alloc (Nat.le_refl _) _
  have K1 : Hid (Blk w1 w.heap.size 35 #[.int .i64 fe, .int .i64 0, .int .i64 0, .int .i64 0, .int .i64 r, .int .i64 a, .int .i64 b]) := by rw [hw1]; exact Blk.new w 35 _
  go_enter Try.func17, Try.ntmps17
  go_upto_region 1 with (fail)
  rw [← hw1]
  clear hw1
  obtain ⟨k0, k1, k2, k3, k4, k5, k6⟩ := K1.out.c7
  have z1 : w.heap.size < w1.heap.size := K1.out.lt
  by_cases hn : n = 0
  · subst hn
    go_wp2
    all_goals go_ret
    all_goals refine ⟨?_, HB1.out⟩
    all_goals rw [HV.out]
    all_goals have hf := HFE.out
    all_goals clear HV HFE
    all_goals (by_cases hr0 : r = 0 <;> simp_all [toldF])
  · go_wp2
    all_goals go_ret
    all_goals refine ⟨?_, HB1.out⟩
    all_goals rw [HV.out]
    all_goals have hf := HFE.out
    all_goals clear HV HFE
    all_goals (by_cases hr0 : r = 0 <;> simp_all [toldF] <;> omega)
/-- The empty module; one with a global that has no name. -/
def Md0 : Md := ⟨[], [], [], []⟩
def Md1 : Md := ⟨[], [3], [], []⟩
theorem check0 : checkF Md0 = (0, -1, -1) := by decide
theorem check1 : checkF Md1 = (1, -1, -1) := by decide
set_option maxHeartbeats 4000000 in
theorem awake6_any (w : World) : Calls Try.prog 15 #[] w (BlB w true) := by
  have hr0 : ∀ wx, RdS (fun _ => True) wx none 0 1 [] := fun wx => ⟨rfl, fun h => absurd h (by omega)⟩
  have hf0 : ∀ wx, FnsS (fun _ => True) wx none [] := fun wx h => absurd h (by simp)
  have hW : ∀ g : List Int, g.length ≤ 1 → WfI g → (Md.mk [] g [] []).Wf := fun g hg h => ⟨by simp, ⟨by simp; omega, h⟩, ⟨by simp, by intro n hn; simp at hn⟩, by simp, by intro f hf; simp at hf, by intro n hn; simp [namesL] at hn⟩
  have h0 := fun wx => check_any Md0 none none none none 0 0 0 0 wx (hW [] (by simp) (by intro n hn; simp at hn)) ⟨hr0 wx, hr0 wx, hf0 wx, hr0 wx⟩
  have h1 := fun g wx (hx : wx.cell? ⟨g, 0, none⟩ = some (.int .i64 3)) => check_any Md1 none (some ⟨g, 0, none⟩) none none 0 1 0 0 wx (hW [3] (by simp) (by intro n hn; simp at hn; omega)) ⟨hr0 wx, ⟨rfl, fun _ => ⟨g, 0, rfl, trivial, fun j u hj => by
    match j with
    | 0 => simp [Md1, intV] at hj; subst hj; exact hx
    | j + 1 => simp [Md1, intV] at hj⟩⟩, hf0 wx, hr0 wx⟩
  rw [check0] at h0
  rw [check1] at h1
  have H0 := Lib.hid h0
  have H1 := Lib.hid h1
  clear h0 h1 hr0 hf0 hW
  go_enter Try.func15, Try.ntmps15
  go_wp2_with fail
  refine (H0.out _).mono ?_
  rintro e w1 ⟨rfl, hb1⟩
  have HB1 := Lib.hid hb1
  clear hb1
  dsimp only
  rw [fault0]
  have z0 := HB1.out.size
  obtain ⟨w2, hw2⟩ : ∃ w2, w2 = w1.alloc (.cells #[.int .i64 0, .int .i64 0, .int .i64 0, .int .i64 0, .int .i64 0, .int .i64 (-1), .int .i64 (-1)] 35) := ⟨_, rfl⟩
  have HB2 : Hid (Below w.heap.size w w2) := by rw [hw2]; exact HB1.out.alloc z0 _
  have K2 : Hid (Blk w2 w1.heap.size 35 #[.int .i64 0, .int .i64 0, .int .i64 0, .int .i64 0, .int .i64 0, .int .i64 (-1), .int .i64 (-1)]) := by rw [hw2]; exact Blk.new w1 35 _
  go_upto_region 2 with (fail)
  rw [← hw2]
  clear hw2
  go_wp2_with fail
  refine (H1.out w2.heap.size _ ?_).mono ?_
  · go_simp
  rintro e w3 ⟨rfl, hb3⟩
  have hb4 := HB2.out.trans ((Below.alloc (Below.refl w2.heap.size w2) (Nat.le_refl _) _ |>.trans (hb3.mono (by simp))).mono HB2.out.size)
  have hb5 := (Below.alloc (Below.refl w2.heap.size w2) (Nat.le_refl _) _ |>.trans (hb3.mono (by simp)))
  have HB4 := Lib.hid hb4
  have K4 := Lib.hid (K2.out.old hb5)
  clear hb3 hb4 hb5
  dsimp only
  rw [fault8 1 (-1) (-1) (by decide)]
  obtain ⟨w4, hw4⟩ : ∃ w4, w4 = w3.alloc (.cells #[.int .i64 8, .int .i64 0, .int .i64 0, .int .i64 0, .int .i64 1, .int .i64 (-1), .int .i64 (-1)] 35) := ⟨_, rfl⟩
  have HB5 : Hid (Below w.heap.size w w4) := by rw [hw4]; exact HB4.out.alloc HB4.out.size _
  have K5 : Hid (Blk w4 w1.heap.size 35 #[.int .i64 0, .int .i64 0, .int .i64 0, .int .i64 0, .int .i64 0, .int .i64 (-1), .int .i64 (-1)]) := by rw [hw4]; exact K4.out.alloc _
  have K6 : Hid (Blk w4 w3.heap.size 35 #[.int .i64 8, .int .i64 0, .int .i64 0, .int .i64 0, .int .i64 1, .int .i64 (-1), .int .i64 (-1)]) := by rw [hw4]; exact Blk.new w3 35 _
  go_upto_region 3 with (fail)
  rw [← hw4]
  clear hw4
  obtain ⟨g1, hg1⟩ : ∃ g, g = w1.heap.size := ⟨_, rfl⟩
  obtain ⟨g2, hg2⟩ : ∃ g, g = w3.heap.size := ⟨_, rfl⟩
  rw [← hg1] at K5 ⊢
  rw [← hg2] at K6 ⊢
  clear hg1 hg2 K4 K2 HB4 HB2 H1 H0 HB1 z0
  obtain ⟨k0, k1, k2, k3, k4, k5, k6⟩ := K5.out.c7
  obtain ⟨m0, m1, m2, m3, m4, m5, m6⟩ := K6.out.c7
  have z1 : g1 < w4.heap.size := K5.out.lt
  have z2 : g2 < w4.heap.size := K6.out.lt
  go_wp2
  go_ret
  exact ⟨rfl, HB5.out⟩
end Go.Proofs.Ytpdebnecfknohaa
