/-
  Names: what String and the rule on names leave.
-/
import Derived.Test.YtpdebnecfknohaaNu
import Derived.Maps.OwnSet
import Derived.StringKeys
namespace Go.Proofs.Ytpdebnecfknohaa
open Go.RowKit Go.Maps
set_option linter.unusedVariables false
set_option linter.unusedSimpArgs false
set_option maxRecDepth 20000

/-- A string by its number; empty: there is none. -/
def strF (L : List (List UInt8)) (n : Int) : List UInt8 := if 0 ≤ n ∧ n < L.length then L.getD n.toNat [] else []
/-- The first rule that names break: 1, 3; 0: none. -/
def nmF (L : List (List UInt8)) : List (List UInt8) → List Int → Int
  | _, [] => 0
  | seen, n :: l => if (strF L n).length < 1 ∨ 40 < (strF L n).length then 1 else if seen.contains (strF L n) then 3 else nmF L (seen ++ [strF L n]) l
theorem bs_size (x : List UInt8) : (bs x).size = x.length := by simp [bs, ByteArray.size]
theorem bs_data (x : List UInt8) : (bs x).data.toList = x := by simp [bs]
theorem law9 : Keyed Try.prog 9 := string_keyed Try.underlying9
theorem zero125 (w : World) : (zeroValue 125).run Try.prog w = .ok (.agg #[]) w := by kernel_rfl
/-- The set of these. -/
def setS (l : List (List UInt8)) : DataW Unit := setOf (.agg []) (l.map Lit.string)
theorem has_setS (l : List (List UInt8)) (x : List UInt8) : Maps.has (setS l) (.string x) = l.contains x := by
  unfold setS
  rw [has_setOf _ _ _ (fun y hy => by obtain ⟨_, _, rfl⟩ := List.mem_map.1 hy; trivial), List.any_map]
  induction l with
  | nil => rfl
  | cons a r ih =>
    rw [List.any_cons, List.contains_cons, ih]
    congr 1
    show (a == x) = (x == a)
    exact Bool.beq_comm
theorem setS_snoc (l : List (List UInt8)) (x : List UInt8) : setS (l ++ [x]) = (setS l).put (.string x) (.agg []) := by
  unfold setS
  rw [List.map_append, List.map_singleton, setOf_snoc]
theorem ownsMap_old {H : Type} {P : Program} {k b n : Nat} {R : Value → Option (DataW H × List MemPlace)} {D : DataW H} {w w' : World} (h : w.ownsMap P k R b n D) (hb : Below w.heap.size w w') : w'.ownsMap P k R b n D := by
  have hl := h.lt
  obtain ⟨es, clock, he, r⟩ := h
  exact ⟨es, clock, (hb.block b hl).trans he, r⟩

set_option maxHeartbeats 400000 in
theorem str_any (L : List (List UInt8)) (As Ag Af Ae : Option Addr) (cs ng cg nf cf ne ce : Nat) (n : Int) (w : World) (hn1 : -9223372036854775808 ≤ n) (hn2 : n ≤ 9223372036854775807) (h : RdS (fun _ => True) w As L.length 1 (strV L)) (hl : L.length ≤ 1000000) :
    Calls Try.prog 48 #[.agg #[.slice As L.length cs, .slice Ag ng cg, .slice Af nf cf, .slice Ae ne ce], .int .i64 n] w fun e w' => e = .returned (.string (bs (strF L n))) ∧ Below w.heap.size w w' := by
  obtain ⟨x, hx⟩ : ∃ x, strF L n = x := ⟨_, rfl⟩
  rw [hx]
  unfold strF at hx
  have HR := Lib.hid h
  have HX := Lib.hid hx
  obtain ⟨ls, hls⟩ : ∃ ls, ls = L.length := ⟨_, rfl⟩
  have HLS := Lib.hid hls
  rw [← hls] at hl ⊢
  clear h hx hls
  have HB : Hid (Below w.heap.size w (w.alloc (.cells #[.slice As ls cs, .slice Ag ng cg, .slice Af nf cf, .slice Ae ne ce] 30))) := (Below.refl _ _).alloc (Nat.le_refl _) _
  by_cases h0 : 0 ≤ n
  · by_cases h1 : n < ls
    · obtain ⟨k, rfl⟩ : ∃ k : Nat, n = k := ⟨n.toNat, by omega⟩
      have hk : k < L.length := by rw [← HLS.out]; omega
      obtain ⟨b, o, rfl, _, hc⟩ := HR.out.2 (by omega)
      have hcell := hc k _ (strV_get L k hk)
      have hbl := World.block_lt_of_cell? w ⟨b, o + k, none⟩ hcell
      have e : L[k] = x := by
        rw [← HX.out, if_pos (by rw [← HLS.out]; omega)]
        simp [List.getD, hk]
      rw [e] at hcell
      clear hc e
      go_enter Try.func48, Try.ntmps48
      go_wp2
      go_ret
      exact ⟨rfl, HB.out⟩
    · obtain rfl : [] = x := by rw [← HX.out, if_neg (by rw [← HLS.out]; omega)]
      go_enter Try.func48, Try.ntmps48
      go_wp2
      go_ret
      exact ⟨rfl, HB.out⟩
  · obtain rfl : [] = x := by rw [← HX.out, if_neg (by omega)]
    go_enter Try.func48, Try.ntmps48
    go_wp2
    go_ret
    exact ⟨rfl, HB.out⟩

/-- What a call that answers a number leaves. -/
def InB (w : World) (v : Int) (e : Ending) (w' : World) : Prop := e = .returned (.int .i64 v) ∧ Below w.heap.size w w'

set_option maxHeartbeats 2000000 in
theorem names_any (L : List (List UInt8)) (As Ag Af Ae Al : Option Addr) (cs ng cg nf cf ne ce cl : Nat) (l : List Int) (w : World) (h : RdS (fun _ => True) w As L.length 1 (strV L)) (hl : L.length ≤ 1000000) (h2 : RdS (fun _ => True) w Al l.length 1 (intV l)) (hll : l.length ≤ 1000000) (hw : ∀ n ∈ l, -9223372036854775808 ≤ n ∧ n ≤ 9223372036854775807) :
    Calls Try.prog 59 #[.agg #[.slice As L.length cs, .slice Ag ng cg, .slice Af nf cf, .slice Ae ne ce], .slice Al l.length cl] w (InB w (nmF L [] l)) := by
  have hmm := @run_makeMap Try.prog
  obtain ⟨v, hv⟩ : ∃ v, nmF L [] l = v := ⟨_, rfl⟩
  have HV0 : Hid (nmF L ((l.take 0).map (strF L)) (l.drop 0) = v) := hv
  rw [hv]
  have HR := Lib.hid h
  have HR2 := Lib.hid h2
  have HW := Lib.hid hw
  have hst := fun (wx : World) (hx : Below w.heap.size w wx) (n : Int) (h1 : -9223372036854775808 ≤ n) (h2 : n ≤ 9223372036854775807) => str_any L As Ag Af Ae cs ng cg nf cf ne ce n wx h1 h2 (HR.out.old hx (by omega)) hl
  obtain ⟨ls, hls⟩ : ∃ ls, ls = L.length := ⟨_, rfl⟩
  obtain ⟨ll, hl2⟩ : ∃ ll, ll = l.length := ⟨_, rfl⟩
  have HLL := Lib.hid hl2
  rw [← hls] at hst hl ⊢
  rw [← hl2] at hll ⊢
  have HSt := Lib.hid hst
  clear h h2 hw hv hls hl2 hst
  have HB0 : Hid (Below w.heap.size w ((w.alloc (.cells #[.slice As ls cs, .slice Ag ng cg, .slice Af nf cf, .slice Ae ne ce] 30)).alloc (.map #[] 0))) := ((Below.refl _ _).alloc (Nat.le_refl _) _).alloc (by simp) _
  have K0 : Hid (Blk ((w.alloc (.cells #[.slice As ls cs, .slice Ag ng cg, .slice Af nf cf, .slice Ae ne ce] 30)).alloc (.map #[] 0)) w.heap.size 30 #[.slice As ls cs, .slice Ag ng cg, .slice Af nf cf, .slice Ae ne ce]) := (Blk.new w 30 _).alloc _
  have M0 : Hid (((w.alloc (.cells #[.slice As ls cs, .slice Ag ng cg, .slice Af nf cf, .slice Ae ne ce] 30)).alloc (.map #[] 0)).ownsMap Try.prog 9 (unitElem (H := Unit)) (w.heap.size + 1) 0 (setS ((l.take 0).map (strF L)))) := by
    have := World.ownsMap_made (w.alloc (.cells #[.slice As ls cs, .slice Ag ng cg, .slice Af nf cf, .slice Ae ne ce] 30)) Try.prog 9 (unitElem (H := Unit))
    show World.ownsMap _ _ _ _ _ _ _
    rw [show setS ((l.take 0).map (strF L)) = .map [] from rfl]
    simpa using this
  go_enter Try.func59, Try.ntmps59
  go_wp2_with fail
  go_loopw [14] (fun s wr => ∃ (k : Nat), k ≤ ll ∧ s = .int .i64 (k : Int) ∧ Hid (nmF L ((l.take k).map (strF L)) (l.drop k) = v) ∧ Hid (wr.ownsMap Try.prog 9 (unitElem (H := Unit)) (w.heap.size + 1) k (setS ((l.take k).map (strF L)))) ∧ Hid (Below w.heap.size w wr) ∧ Hid (Blk wr w.heap.size 30 #[.slice As ls cs, .slice Ag ng cg, .slice Af nf cf, .slice Ae ne ce])) (fun s _ => ll - (intOf s).toNat)
  case atStart => exact ⟨0, Nat.zero_le _, rfl, HV0, M0, HB0, K0⟩
  case round =>
    clear HV0 M0 HB0 K0
    obtain ⟨k, hk, rfl, hV, hM, hB, hK⟩ := hrel
    by_cases hlt : k < ll
    · have hkl : k < l.length := by rw [← HLL.out]; exact hlt
      have hli : (k : Int) < (ll : Int) := by omega
      obtain ⟨b, o, rfl, _, hc⟩ := HR2.out.2 (by omega)
      have hcell : wr.cell? ⟨b, o + k, none⟩ = some (.int .i64 l[k]) := cell_old hB.out (World.block_lt_of_cell? w ⟨b, o + k, none⟩ (hc k _ (intV_get l k hkl))) (hc k _ (intV_get l k hkl))
      have hbl : b < wr.heap.size := World.block_lt_of_cell? wr ⟨b, o + k, none⟩ hcell
      obtain ⟨n, hn⟩ : ∃ n, n = l[k] := ⟨_, rfl⟩
      have hdr : l.drop k = n :: l.drop (k + 1) := by rw [hn]; exact List.drop_eq_getElem_cons hkl
      have htk : (l.take (k + 1)).map (strF L) = (l.take k).map (strF L) ++ [strF L n] := by rw [hn, List.take_succ_eq_append_getElem hkl, List.map_append]; rfl
      obtain ⟨n1, n2⟩ := HW.out n (by rw [hn]; exact List.getElem_mem hkl)
      rw [← hn] at hcell
      have hV2 := hV.out
      rw [hdr] at hV2
      simp only [nmF] at hV2
      have HTK := Lib.hid htk
      obtain ⟨x, hx⟩ : ∃ x, x = strF L n := ⟨_, rfl⟩
      rw [← hx] at hV2
      have hS := HSt.out wr hB.out n n1 n2
      rw [← hx] at hS
      have HV2 := Lib.hid hV2
      have HS := Lib.hid hS
      have HX := Lib.hid hx
      clear hc hn hdr htk hV2 hS hV n1 n2 hx
      obtain ⟨c0, c1, c2, c3⟩ := hK.out.c4
      have zw : w.heap.size < wr.heap.size := hK.out.lt
      go_wp2_with fail
      refine HS.out.mono ?_
      rintro e w2 ⟨rfl, hb2⟩
      have HB2 := Lib.hid (hB.out.trans (hb2.mono hB.out.size))
      have HK2 := Lib.hid (hK.out.old hb2)
      have HM2 := Lib.hid (ownsMap_old hM.out hb2)
      have hkey : x.length ≤ 40 → keyOf Try.prog 9 (.string (bs x)) = some (.string x) := fun h => by
        have := Go.WideMaps.keyOf_string_mk (P := Try.prog) (k := 9) (s := bs x) Try.underlying9 (by rw [bs_size]; unfold maxLen; omega)
        rwa [bs_data] at this
      have hsz := bs_size x
      clear hb2 c0 c1 c2 c3 zw hcell hbl HS hM hB hK
      obtain ⟨lx, hlx⟩ : ∃ lx, lx = x.length := ⟨_, rfl⟩
      rw [← hlx] at hsz hkey
      have HLX := Lib.hid hlx
      generalize hbx : bs x = bx at *
      clear hbx hlx
      by_cases h1 : lx < 1
      · obtain rfl : 1 = v := by rw [← HV2.out, if_pos (.inl (by have := HLX.out; omega))]
        have h1i : (lx : Int) < 1 := by omega
        go_wp2
        go_ret
        exact ⟨rfl, HB2.out⟩
      · have h1i : ¬ (lx : Int) < 1 := by omega
        by_cases h40 : 40 < lx
        · obtain rfl : 1 = v := by rw [← HV2.out, if_pos (.inr (by have := HLX.out; omega))]
          have h40i : (40 : Int) < (lx : Int) := by omega
          go_wp2
          go_ret
          exact ⟨rfl, HB2.out⟩
        · have h40i : ¬ (40 : Int) < (lx : Int) := by omega
          have hk9 := hkey (by omega)
          have hV3 := HV2.out
          rw [if_neg (by have := HLX.out; omega)] at hV3
          have HV3 := Lib.hid hV3
          clear hkey hV3 HV2
          have hhas := has_setS ((l.take k).map (strF L)) x
          obtain ⟨D, hD⟩ : ∃ D, D = setS ((l.take k).map (strF L)) := ⟨_, rfl⟩
          have HD := Lib.hid hD
          have HM3 : Hid (w2.ownsMap Try.prog 9 (unitElem (H := Unit)) (w.heap.size + 1) k D) := by rw [hD]; exact HM2.out
          rw [← hD] at hhas
          clear hD HM2
          cases hcon : ((l.take k).map (strF L)).contains x with
          | true =>
            rw [hcon] at hhas
            obtain rfl : 3 = v := by have := HV3.out; rw [hcon] at this; simpa using this
            clear hcon
            go_wp2_with (first
              | (at_lookup; refine wpList_lookup_own_unit _ rfl _ _ 124 rfl 9 125 law9 Try.underlying124 (zero125 _) (w.heap.size + 1) k _ rfl HM3.out _ _ rfl hk9 ?_)
              | go_in)
            go_ret
            exact ⟨rfl, HB2.out.alloc HB2.out.size _⟩
          | false =>
            rw [hcon] at hhas
            have hV4 : nmF L ((l.take (k + 1)).map (strF L)) (l.drop (k + 1)) = v := by
              have := HV3.out
              rw [hcon] at this
              rw [HTK.out, ← HX.out]
              simpa using this
            have HV4 := Lib.hid hV4
            clear hcon hV4
            go_wp2_with (first
              | (at_lookup; refine wpList_lookup_own_unit _ rfl _ _ 124 rfl 9 125 law9 Try.underlying124 (zero125 _) (w.heap.size + 1) k _ rfl HM3.out _ _ rfl hk9 ?_)
              | (at_mapUpdate; refine wpList_mapUpdate_own _ rfl _ _ _ 124 rfl 9 125 law9 Try.underlying124 (unitElem (H := Unit)) (w.heap.size + 1) k _ rfl (HM3.out.alloc _) (by unfold maxLen; omega) _ _ _ rfl rfl hk9 _ [] unitElem_mk ?_; intro w3 hown3 hgrow3)
              | go_in)
            have HM4 : Hid (w3.ownsMap Try.prog 9 (unitElem (H := Unit)) (w.heap.size + 1) (k + 1) (setS ((l.take (k + 1)).map (strF L)))) := by
              rw [HTK.out, setS_snoc, ← HX.out, ← HD.out]
              exact hown3
            have HB3 : Hid (Below w.heap.size w w3) := (HB2.out.alloc HB2.out.size (.cells #[] 125)).grown hgrow3 (by have := HB2.out.size; simp; omega) (fun j hj => by cases hj; omega)
            have HK3 : Hid (Blk w3 w.heap.size 30 #[.slice As ls cs, .slice Ag ng cg, .slice Af nf cf, .slice Ae ne ce]) := (HK2.out.alloc (.cells #[] 125)).grown hgrow3 (by simp)
            clear hown3 hgrow3
            go_roundw
            case rel => exact ⟨k + 1, by omega, by go_num, HV4, HM4, HB3, HK3⟩
            case measure => simp [intOf]; omega
    · obtain rfl : k = ll := by omega
      have hV2 := hV.out
      rw [List.drop_of_length_le (by rw [← HLL.out]; omega)] at hV2
      obtain rfl : 0 = v := hV2
      go_wp2
      go_ret
      exact ⟨rfl, hB.out⟩
end Go.Proofs.Ytpdebnecfknohaa
