/-
  Parts: Tn Xb Shelf Xc Kn Fi To.
-/
import Derived.Test.YtpdebnecfknohaaRn00
import Derived.Test.YtpdebnecfknohaaRn01
import Derived.Test.YtpdebnecfknohaaRn02
import Derived.Test.YtpdebnecfknohaaRn03
import Derived.Test.YtpdebnecfknohaaRn04
import Derived.Test.YtpdebnecfknohaaRn07
import Derived.Maps.OwnSet
import Derived.StringKeys
import Derived.Deep.CutBlock
import Derived.Deep.DeepCutAuto
import Derived.Shelf.Small.Bits
import Derived.Shelf.Strconv.Itoa0
import Derived.Shelf.LaysM
import Derived.Shelf.Strconv.Clone
import Derived.Shelf.Sort.Plain
import Derived.Ground.Names2Prog
import Derived.Shelf.Slices.Clone
import Derived.Shelf.Slices.In.SortNone
import Derived.Ground.SlgnProg
import Derived.Shelf.SlicesE.Clone
import Derived.Shelf.Spec.SearchS
import Derived.Test.YtpdebnecfknohaaProg
import Derived.Sort.OwnSorted
import Derived.Deep.QuietTactic
namespace Go.Proofs.Ytpdebnecfknohaa
open Go.RowKit Go.Maps
set_option linter.unusedVariables false
set_option linter.unusedSimpArgs false
set_option maxRecDepth 20000
/-- A string by its number; empty: there is none. -/
def strF (L : List (List UInt8)) (n : Int) : List UInt8 := if 0 ≤ n ∧ n < L.length then L.getD n.toNat [] else []
/-- The first rule that names break: 1, 3; 0: none. -/
def nmF (L : List (List UInt8)) : List (List UInt8) → List Int → Int
  | _, [] => 0
  | seen, n :: l => if (strF L n).length < 1 ∨ 40 < (strF L n).length then 1 else if seen.contains (strF L n) then 3 else nmF L (seen ++ [strF L n]) l
theorem bs_size (x : List UInt8) : (bs x).size = x.length := by simp [bs, ByteArray.size]
theorem bs_data (x : List UInt8) : (bs x).data.toList = x := by simp [bs]
theorem law9 : Keyed Try.prog 9 := string_keyed Try.underlying9
theorem zero125 (w : World) : (zeroValue 125).run Try.prog w = .ok (.agg #[]) w := by kernel_rfl
/-- The set of these. -/
def setS (l : List (List UInt8)) : DataW Unit := setOf (.agg []) (l.map Lit.string)
theorem has_setS (l : List (List UInt8)) (x : List UInt8) : Maps.has (setS l) (.string x) = l.contains x := by
  unfold setS
  rw [has_setOf _ _ _ (fun y hy => by obtain ⟨_, _, rfl⟩ := List.mem_map.1 hy; trivial), List.any_map]
  induction l with
  | nil => rfl
  | cons a r ih =>
    rw [List.any_cons, List.contains_cons, ih]
    congr 1
    show (a == x) = (x == a)
    exact Bool.beq_comm
theorem setS_snoc (l : List (List UInt8)) (x : List UInt8) : setS (l ++ [x]) = (setS l).put (.string x) (.agg []) := by
  unfold setS
  rw [List.map_append, List.map_singleton, setOf_snoc]
theorem ownsMap_old {H : Type} {P : Program} {k b n : Nat} {R : Value → Option (DataW H × List MemPlace)} {D : DataW H} {w w' : World} (h : w.ownsMap P k R b n D) (hb : Below w.heap.size w w') : w'.ownsMap P k R b n D := by
  have hl := h.lt
  obtain ⟨es, clock, he, r⟩ := h
  exact ⟨es, clock, (hb.block b hl).trans he, r⟩
set_option maxHeartbeats 400000 in
theorem str_any (L : List (List UInt8)) (As Ag Af Ae : Option Addr) (cs ng cg nf cf ne ce : Nat) (n : Int) (w : World) (hn1 : -9223372036854775808 ≤ n) (hn2 : n ≤ 9223372036854775807) (h : RdS (fun _ => True) w As L.length 1 (strV L)) (hl : L.length ≤ 1000000) :
    Calls Try.prog 48 #[.agg #[.slice As L.length cs, .slice Ag ng cg, .slice Af nf cf, .slice Ae ne ce], .int .i64 n] w fun e w' => e = .returned (.string (bs (strF L n))) ∧ Below w.heap.size w w' := by
  obtain ⟨x, hx⟩ : ∃ x, strF L n = x := ⟨_, rfl⟩
  rw [hx]
  unfold strF at hx
  have HR := Lib.hid h
  have HX := Lib.hid hx
  obtain ⟨ls, hls⟩ : ∃ ls, ls = L.length := ⟨_, rfl⟩
  have HLS := Lib.hid hls
  rw [← hls] at hl ⊢
  clear h hx hls
  have HB : Hid (Below w.heap.size w (w.alloc (.cells #[.slice As ls cs, .slice Ag ng cg, .slice Af nf cf, .slice Ae ne ce] 30))) := (Below.refl _ _).alloc (Nat.le_refl _) _
  by_cases h0 : 0 ≤ n
  · by_cases h1 : n < ls
    · obtain ⟨k, rfl⟩ : ∃ k : Nat, n = k := ⟨n.toNat, by omega⟩
      have hk : k < L.length := by rw [← HLS.out]; omega
      obtain ⟨b, o, rfl, _, hc⟩ := HR.out.2 (by omega)
      have hcell := hc k _ (strV_get L k hk)
      have hbl := World.block_lt_of_cell? w ⟨b, o + k, none⟩ hcell
      have e : L[k] = x := by
        rw [← HX.out, if_pos (by rw [← HLS.out]; omega)]
        simp [List.getD, hk]
      rw [e] at hcell
      clear hc e
      go_enter Try.func48, Try.ntmps48
      go_wp2
      go_ret
      exact ⟨rfl, HB.out⟩
    · obtain rfl : [] = x := by rw [← HX.out, if_neg (by rw [← HLS.out]; omega)]
      go_enter Try.func48, Try.ntmps48
      go_wp2
      go_ret
      exact ⟨rfl, HB.out⟩
  · obtain rfl : [] = x := by rw [← HX.out, if_neg (by omega)]
    go_enter Try.func48, Try.ntmps48
    go_wp2
    go_ret
    exact ⟨rfl, HB.out⟩
/-- What a call that answers a number leaves. -/
def InB (w : World) (v : Int) (e : Ending) (w' : World) : Prop := e = .returned (.int .i64 v) ∧ Below w.heap.size w w'
set_option maxHeartbeats 2000000 in
theorem names_any (L : List (List UInt8)) (As Ag Af Ae Al : Option Addr) (cs ng cg nf cf ne ce cl : Nat) (l : List Int) (w : World) (h : RdS (fun _ => True) w As L.length 1 (strV L)) (hl : L.length ≤ 1000000) (h2 : RdS (fun _ => True) w Al l.length 1 (intV l)) (hll : l.length ≤ 1000000) (hw : ∀ n ∈ l, -9223372036854775808 ≤ n ∧ n ≤ 9223372036854775807) :
    Calls Try.prog 59 #[.agg #[.slice As L.length cs, .slice Ag ng cg, .slice Af nf cf, .slice Ae ne ce], .slice Al l.length cl] w (InB w (nmF L [] l)) := by
  have hmm := @run_makeMap Try.prog
  obtain ⟨v, hv⟩ : ∃ v, nmF L [] l = v := ⟨_, rfl⟩
  have HV0 : Hid (nmF L ((l.take 0).map (strF L)) (l.drop 0) = v) := hv
  rw [hv]
  have HR := Lib.hid h
  have HR2 := Lib.hid h2
  have HW := Lib.hid hw
  have hst := fun (wx : World) (hx : Below w.heap.size w wx) (n : Int) (h1 : -9223372036854775808 ≤ n) (h2 : n ≤ 9223372036854775807) => str_any L As Ag Af Ae cs ng cg nf cf ne ce n wx h1 h2 (HR.out.old hx (by omega)) hl
  obtain ⟨ls, hls⟩ : ∃ ls, ls = L.length := ⟨_, rfl⟩
  obtain ⟨ll, hl2⟩ : ∃ ll, ll = l.length := ⟨_, rfl⟩
  have HLL := Lib.hid hl2
  rw [← hls] at hst hl ⊢
  rw [← hl2] at hll ⊢
  have HSt := Lib.hid hst
  clear h h2 hw hv hls hl2 hst
  have HB0 : Hid (Below w.heap.size w ((w.alloc (.cells #[.slice As ls cs, .slice Ag ng cg, .slice Af nf cf, .slice Ae ne ce] 30)).alloc (.map #[] 0))) := ((Below.refl _ _).alloc (Nat.le_refl _) _).alloc (by simp) _
  have K0 : Hid (Blk ((w.alloc (.cells #[.slice As ls cs, .slice Ag ng cg, .slice Af nf cf, .slice Ae ne ce] 30)).alloc (.map #[] 0)) w.heap.size 30 #[.slice As ls cs, .slice Ag ng cg, .slice Af nf cf, .slice Ae ne ce]) := (Blk.new w 30 _).alloc _
  have M0 : Hid (((w.alloc (.cells #[.slice As ls cs, .slice Ag ng cg, .slice Af nf cf, .slice Ae ne ce] 30)).alloc (.map #[] 0)).ownsMap Try.prog 9 (unitElem (H := Unit)) (w.heap.size + 1) 0 (setS ((l.take 0).map (strF L)))) := by
    have := World.ownsMap_made (w.alloc (.cells #[.slice As ls cs, .slice Ag ng cg, .slice Af nf cf, .slice Ae ne ce] 30)) Try.prog 9 (unitElem (H := Unit))
    show World.ownsMap _ _ _ _ _ _ _
    rw [show setS ((l.take 0).map (strF L)) = .map [] from rfl]
    simpa using this
  go_enter Try.func59, Try.ntmps59
  go_wp2_with fail
  go_loopw [14] (fun s wr => ∃ (k : Nat), k ≤ ll ∧ s = .int .i64 (k : Int) ∧ Hid (nmF L ((l.take k).map (strF L)) (l.drop k) = v) ∧ Hid (wr.ownsMap Try.prog 9 (unitElem (H := Unit)) (w.heap.size + 1) k (setS ((l.take k).map (strF L)))) ∧ Hid (Below w.heap.size w wr) ∧ Hid (Blk wr w.heap.size 30 #[.slice As ls cs, .slice Ag ng cg, .slice Af nf cf, .slice Ae ne ce])) (fun s _ => ll - (intOf s).toNat)
  case atStart => exact ⟨0, Nat.zero_le _, rfl, HV0, M0, HB0, K0⟩
  case round =>
    clear HV0 M0 HB0 K0
    obtain ⟨k, hk, rfl, hV, hM, hB, hK⟩ := hrel
    by_cases hlt : k < ll
    · have hkl : k < l.length := by rw [← HLL.out]; exact hlt
      have hli : (k : Int) < (ll : Int) := by omega
      obtain ⟨b, o, rfl, _, hc⟩ := HR2.out.2 (by omega)
      have hcell : wr.cell? ⟨b, o + k, none⟩ = some (.int .i64 l[k]) := cell_old hB.out (World.block_lt_of_cell? w ⟨b, o + k, none⟩ (hc k _ (intV_get l k hkl))) (hc k _ (intV_get l k hkl))
      have hbl : b < wr.heap.size := World.block_lt_of_cell? wr ⟨b, o + k, none⟩ hcell
      obtain ⟨n, hn⟩ : ∃ n, n = l[k] := ⟨_, rfl⟩
      have hdr : l.drop k = n :: l.drop (k + 1) := by rw [hn]; exact List.drop_eq_getElem_cons hkl
      have htk : (l.take (k + 1)).map (strF L) = (l.take k).map (strF L) ++ [strF L n] := by rw [hn, List.take_succ_eq_append_getElem hkl, List.map_append]; rfl
      obtain ⟨n1, n2⟩ := HW.out n (by rw [hn]; exact List.getElem_mem hkl)
      rw [← hn] at hcell
      have hV2 := hV.out
      rw [hdr] at hV2
      simp only [nmF] at hV2
      have HTK := Lib.hid htk
      obtain ⟨x, hx⟩ : ∃ x, x = strF L n := ⟨_, rfl⟩
      rw [← hx] at hV2
      have hS := HSt.out wr hB.out n n1 n2
      rw [← hx] at hS
      have HV2 := Lib.hid hV2
      have HS := Lib.hid hS
      have HX := Lib.hid hx
      clear hc hn hdr htk hV2 hS hV n1 n2 hx
      obtain ⟨c0, c1, c2, c3⟩ := hK.out.c4
      have zw : w.heap.size < wr.heap.size := hK.out.lt
      go_wp2_with fail
      refine HS.out.mono ?_
      rintro e w2 ⟨rfl, hb2⟩
      have HB2 := Lib.hid (hB.out.trans (hb2.mono hB.out.size))
      have HK2 := Lib.hid (hK.out.old hb2)
      have HM2 := Lib.hid (ownsMap_old hM.out hb2)
      have hkey : x.length ≤ 40 → keyOf Try.prog 9 (.string (bs x)) = some (.string x) := fun h => by
        have := Go.WideMaps.keyOf_string_mk (P := Try.prog) (k := 9) (s := bs x) Try.underlying9 (by rw [bs_size]; unfold maxLen; omega)
        rwa [bs_data] at this
      have hsz := bs_size x
      clear hb2 c0 c1 c2 c3 zw hcell hbl HS hM hB hK
      obtain ⟨lx, hlx⟩ : ∃ lx, lx = x.length := ⟨_, rfl⟩
      rw [← hlx] at hsz hkey
      have HLX := Lib.hid hlx
      generalize hbx : bs x = bx at *
      clear hbx hlx
      by_cases h1 : lx < 1
      · obtain rfl : 1 = v := by rw [← HV2.out, if_pos (.inl (by have := HLX.out; omega))]
        have h1i : (lx : Int) < 1 := by omega
        go_wp2
        go_ret
        exact ⟨rfl, HB2.out⟩
      · have h1i : ¬ (lx : Int) < 1 := by omega
        by_cases h40 : 40 < lx
        · obtain rfl : 1 = v := by rw [← HV2.out, if_pos (.inr (by have := HLX.out; omega))]
          have h40i : (40 : Int) < (lx : Int) := by omega
          go_wp2
          go_ret
          exact ⟨rfl, HB2.out⟩
        · have h40i : ¬ (40 : Int) < (lx : Int) := by omega
          have hk9 := hkey (by omega)
          have hV3 := HV2.out
          rw [if_neg (by have := HLX.out; omega)] at hV3
          have HV3 := Lib.hid hV3
          clear hkey hV3 HV2
          have hhas := has_setS ((l.take k).map (strF L)) x
          obtain ⟨D, hD⟩ : ∃ D, D = setS ((l.take k).map (strF L)) := ⟨_, rfl⟩
          have HD := Lib.hid hD
          have HM3 : Hid (w2.ownsMap Try.prog 9 (unitElem (H := Unit)) (w.heap.size + 1) k D) := by rw [hD]; exact HM2.out
          rw [← hD] at hhas
          clear hD HM2
          cases hcon : ((l.take k).map (strF L)).contains x with
          | true =>
            rw [hcon] at hhas
            obtain rfl : 3 = v := by have := HV3.out; rw [hcon] at this; simpa using this
            clear hcon
            go_wp2_with (first
              | (at_lookup; refine wpList_lookup_own_unit _ rfl _ _ 124 rfl 9 125 law9 Try.underlying124 (zero125 _) (w.heap.size + 1) k _ rfl HM3.out _ _ rfl hk9 ?_)
              | go_in)
            go_ret
            exact ⟨rfl, HB2.out.alloc HB2.out.size _⟩
          | false =>
            rw [hcon] at hhas
            have hV4 : nmF L ((l.take (k + 1)).map (strF L)) (l.drop (k + 1)) = v := by
              have := HV3.out
              rw [hcon] at this
              rw [HTK.out, ← HX.out]
              simpa using this
            have HV4 := Lib.hid hV4
            clear hcon hV4
            go_wp2_with (first
              | (at_lookup; refine wpList_lookup_own_unit _ rfl _ _ 124 rfl 9 125 law9 Try.underlying124 (zero125 _) (w.heap.size + 1) k _ rfl HM3.out _ _ rfl hk9 ?_)
              | (at_mapUpdate; refine wpList_mapUpdate_own _ rfl _ _ _ 124 rfl 9 125 law9 Try.underlying124 (unitElem (H := Unit)) (w.heap.size + 1) k _ rfl (HM3.out.alloc _) (by unfold maxLen; omega) _ _ _ rfl rfl hk9 _ [] unitElem_mk ?_; intro w3 hown3 hgrow3)
              | go_in)
            have HM4 : Hid (w3.ownsMap Try.prog 9 (unitElem (H := Unit)) (w.heap.size + 1) (k + 1) (setS ((l.take (k + 1)).map (strF L)))) := by
              rw [HTK.out, setS_snoc, ← HX.out, ← HD.out]
              exact hown3
            have HB3 : Hid (Below w.heap.size w w3) := (HB2.out.alloc HB2.out.size (.cells #[] 125)).grown hgrow3 (by have := HB2.out.size; simp; omega) (fun j hj => by cases hj; omega)
            have HK3 : Hid (Blk w3 w.heap.size 30 #[.slice As ls cs, .slice Ag ng cg, .slice Af nf cf, .slice Ae ne ce]) := (HK2.out.alloc (.cells #[] 125)).grown hgrow3 (by simp)
            clear hown3 hgrow3
            go_roundw
            case rel => exact ⟨k + 1, by omega, by go_num, HV4, HM4, HB3, HK3⟩
            case measure => simp [intOf]; omega
    · obtain rfl : k = ll := by omega
      have hV2 := hV.out
      rw [List.drop_of_length_le (by rw [← HLL.out]; omega)] at hV2
      obtain rfl : 0 = v := hV2
      go_wp2
      go_ret
      exact ⟨rfl, hB.out⟩
end Go.Proofs.Ytpdebnecfknohaa
namespace Go.Proofs.Ytpdebnecfknohaa
open Go.RowKit Go.Maps
set_option linter.unusedVariables false
set_option linter.unusedSimpArgs false
set_option maxRecDepth 20000
/-- The numbers of these. -/
structure TabD (l : List (List UInt8)) (D : DataW Unit) : Prop where
  ism : IsMap D
  has_ : ∀ x : List UInt8, Maps.has D (.string x) = l.contains x
  at_ : ∀ (x : List UInt8) (z : DataW Unit), x ∈ l → D.atKey (.string x) z = .lit (.int .i64 (numF l x 0))
theorem numF_app : ∀ (l r : List (List UInt8)) (x : List UInt8) (i : Nat), x ∈ l → numF (l ++ r) x i = numF l x i
  | [], r, x, i, h => by simp at h
  | y :: l, r, x, i, h => by
    rw [List.cons_append, numF, numF]
    by_cases hy : y = x
    · rw [if_pos hy, if_pos hy]
    · rw [if_neg hy, if_neg hy]
      rcases List.mem_cons.1 h with e | e
      · exact absurd e.symm hy
      · exact numF_app l r x (i + 1) e
theorem numF_end : ∀ (l : List (List UInt8)) (x : List UInt8) (i : Nat), x ∉ l → numF (l ++ [x]) x i = ((i + l.length : Nat) : Int)
  | [], x, i, h => by simp [numF]
  | y :: l, x, i, h => by
    have h1 : ¬ y = x := fun e => h (by rw [e]; simp)
    rw [List.cons_append, numF, if_neg h1, numF_end l x (i + 1) (fun e => h (List.mem_cons_of_mem _ e))]
    simp only [List.length_cons]
    congr 1; omega
theorem TabD.nil : TabD [] (.map []) := ⟨⟨[], rfl⟩, fun x => rfl, fun x z h => by simp at h⟩
theorem TabD.put {l : List (List UInt8)} {D : DataW Unit} (h : TabD l D) (x : List UInt8) (hx : x ∉ l) : TabD (l ++ [x]) (D.put (.string x) (.lit (.int .i64 (l.length : Int)))) := by
  refine ⟨?_, fun y => ?_, fun y z hy => ?_⟩
  · exact h.ism.put _ _
  · by_cases hyx : y = x
    · subst hyx
      rw [has_put_same h.ism (show WideAt.IsKeyLit (.string y) from trivial)]
      simp
    · rw [has_put_other (by intro e; injection e with e; exact hyx e), h.has_]
      simp [hyx]
  · by_cases hyx : y = x
    · subst hyx
      rw [atKey_put_same h.ism (show WideAt.IsKeyLit (.string y) from trivial), numF_end l y 0 hx]
      simp
    · have hyl : y ∈ l := by
        rcases List.mem_append.1 hy with e | e
        · exact e
        · exact absurd (by simpa using e) hyx
      rw [atKey_put_other (by intro e; injection e with e; exact hyx e), h.at_ y z hyl, numF_app l [x] y 0 hyl]
/-- A table in its box. -/
structure Tab (base : Nat) (w : World) (q : Nat) (l : List (List UInt8)) : Prop where
  st : ∃ A c mv, Blk w q 68 #[.slice A l.length c, mv] ∧ w.ownsRow base 9 1 (.slice A l.length c) l.length (strV l) ∧
    ((l = [] ∧ mv = .map none) ∨ ∃ b D, mv = .map (some b) ∧ base ≤ b ∧ w.ownsMap Try.prog 9 (plainElem (H := Unit) Try.prog 3) b l.length D ∧ TabD l D)
theorem Tab.old {base q : Nat} {w w' : World} {l : List (List UInt8)} (h : Tab base w q l) (hb : Below w.heap.size w w') : Tab base w' q l := by
  obtain ⟨A, c, mv, h1, h2, h3⟩ := h.st
  refine ⟨A, c, mv, h1.old hb, own_old h2 hb, ?_⟩
  rcases h3 with h3 | ⟨b, D, h4, h5, h6, h7⟩
  · exact .inl h3
  · exact .inr ⟨b, D, h4, h5, ownsMap_old h6 hb, h7⟩
theorem Tab.new (w : World) (base : Nat) : Tab base (w.alloc (.cells #[.slice none 0 0, .map none] 68)) w.heap.size [] :=
  ⟨none, 0, .map none, Blk.new w 68 _, World.ownsRow_nil _ _ _ _, .inl ⟨rfl, rfl⟩⟩
/-- What Add leaves. -/
def AddB (base q : Nat) (w : World) (l : List (List UInt8)) (x : List UInt8) (e : Ending) (w' : World) : Prop :=
  e = .returned (.int .i64 (numF (addF l x) x 0)) ∧ Tab base w' q (addF l x) ∧ Below base w w' ∧ ∀ k t cs, Blk w k t cs → t ≠ 68 → t ≠ 9 → Blk w' k t cs
end Go.Proofs.Ytpdebnecfknohaa
namespace Go.Proofs
open Go.Shelf
def Try.lays128_ren : Go.Shelf.Ren := ⟨fun | 128 => 97 | n => n, fun | 51 => 141 | 3 => 3 | 4 => 4 | 46 => 120 | 5 => 5 | 9 => 9 | n => n, fun | n => n⟩
def Try.lays125_ren : Go.Shelf.Ren := ⟨fun | 125 => 86 | 128 => 97 | 129 => 98 | n => n, fun | 46 => 120 | 3 => 3 | 51 => 141 | 53 => 143 | 4 => 4 | 5 => 5 | 9 => 9 | n => n, fun | n => n⟩
def Try.lays129_ren : Go.Shelf.Ren := ⟨fun | 129 => 98 | n => n, fun | 53 => 143 | 3 => 3 | 4 => 4 | 46 => 120 | 5 => 5 | 9 => 9 | n => n, fun | n => n⟩
def Try.laysM316_ren : Go.Shelf.Ren := ⟨fun | 316 => 87 | n => n, fun | 9 => 9 | 3 => 3 | 4 => 4 | 37 => 53 | 0 => 0 | 127 => 144 | 5 => 5 | n => n, fun | n => n⟩
def Try.lays190_ren : Go.Shelf.Ren := ⟨fun | 190 => 73 | 125 => 86 | 258 => 85 | 128 => 97 | 129 => 98 | 302 => 89 | 303 => 90 | 304 => 91 | 305 => 92 | 306 => 93 | 307 => 94 | 308 => 75 | 309 => 95 | 310 => 96 | 333 => 99 | 329 => 100 | 330 => 101 | 334 => 102 | 335 => 103 | 336 => 88 | 344 => 104 | n => n, fun | 31 => 26 | 9 => 9 | 3 => 3 | 46 => 120 | 0 => 0 | 51 => 141 | 53 => 143 | 4 => 4 | 183 => 135 | 182 => 134 | 131 => 93 | 5 => 5 | 218 => 145 | 222 => 149 | 228 => 151 | 229 => 152 | n => n, fun | n => n⟩
def Try.laysNm215_ren : Go.Shelf.Ren := ⟨fun | 15 => 77 | n => n, fun | 22 => 27 | 3 => 3 | 4 => 4 | n => n, fun | n => n⟩
def Try.laysNm216_ren : Go.Shelf.Ren := ⟨fun | 16 => 57 | n => n, fun | 24 => 26 | 9 => 9 | 4 => 4 | n => n, fun | n => n⟩
def Try.laysSlE041_f57_ren : Go.Shelf.Ren := ⟨fun | 41 => 57 | n => n, fun | 22 => 26 | 23 => 9 | 4 => 4 | n => n, fun | n => n⟩
def Try.laysSlE041_f77_ren : Go.Shelf.Ren := ⟨fun | 41 => 77 | n => n, fun | 22 => 27 | 23 => 3 | 4 => 4 | n => n, fun | n => n⟩
def Try.laysNm226_ren : Go.Shelf.Ren := ⟨fun | 26 => 47 | 33 => 75 | 34 => 76 | 38 => 88 | n => n, fun | 24 => 26 | 9 => 9 | 3 => 3 | 4 => 4 | 40 => 120 | 0 => 0 | n => n, fun | n => n⟩
end Go.Proofs
namespace Go.Proofs.Ytpdebnecfknohaa
open Go.RowKit Go.Maps
set_option linter.unusedVariables false
set_option linter.unusedSimpArgs false
set_option maxRecDepth 20000
theorem all_nil (w : World) : Calls Try.prog 31 #[.pointer none] w fun e w' => e = .returned (.slice none 0 0) ∧ w = w' := by
  go_enter Try.func31, Try.ntmps31
  go_wp2
  go_ret
  exact ⟨rfl, rfl⟩
end Go.Proofs.Ytpdebnecfknohaa
namespace Go.Proofs.Ytpdebnecfknohaa
open Go.RowKit
set_option linter.unusedVariables false
set_option linter.unusedSimpArgs false
set_option maxRecDepth 20000
/-- What a call that answers a truth leaves. -/
def BlB (w : World) (v : Bool) (e : Ending) (w' : World) : Prop := e = .returned (.bool v) ∧ Below w.heap.size w w'
def withF (n : Int) (m : Nat) : Bool := decide (0 ≤ n ∧ n < m)
theorem within_any (n : Int) (m : Nat) (w : World) : Calls Try.prog 80 #[.int .i64 n, .int .i64 (m : Int)] w (BlB w (withF n m)) := by
  by_cases h0 : 0 ≤ n
  · by_cases h1 : n < m
    · have e : withF n m = true := by simp [withF, h0, h1]
      rw [e]
      go_enter Try.func80, Try.ntmps80
      go_wp2
      go_ret
      exact ⟨by simp [h0, h1], Below.refl _ _⟩
    · have e : withF n m = false := by simp [withF, h1]
      rw [e]
      go_enter Try.func80, Try.ntmps80
      go_wp2
      go_ret
      exact ⟨by simp [h0, h1], Below.refl _ _⟩
  · have e : withF n m = false := by simp [withF, h0]
    rw [e]
    go_enter Try.func80, Try.ntmps80
    go_wp2
    go_ret
    exact ⟨by simp [h0], Below.refl _ _⟩
def varB (k : Int) : Bool := k == 1 || k == 2
theorem var_any (k i : Int) (w : World) : Calls Try.prog 24 #[.agg #[.int .u8 k, .int .i64 i]] w (BlB w (varB k)) := by
  obtain ⟨v, hv⟩ : ∃ v, v = varB k := ⟨_, rfl⟩
  rw [← hv]
  have HB : Hid (Below w.heap.size w (w.alloc (.cells #[.int .u8 k, .int .i64 i] 46))) := (Below.refl _ _).alloc (Nat.le_refl _) _
  by_cases h1 : k = 1
  · subst h1
    obtain rfl : v = true := by rw [hv]; rfl
    clear hv
    go_enter Try.func24, Try.ntmps24
    go_wp2
    go_ret
    exact ⟨by simp, HB.out⟩
  · by_cases h2 : k = 2
    · subst h2
      obtain rfl : v = true := by rw [hv]; rfl
      clear hv
      go_enter Try.func24, Try.ntmps24
      go_wp2
      go_ret
      exact ⟨by simp, HB.out⟩
    · have e1 : (k == 1) = false := by simpa using h1
      have e2 : (k == 2) = false := by simpa using h2
      obtain rfl : v = false := by rw [hv]; simp [varB, e1, e2]
      clear hv
      go_enter Try.func24, Try.ntmps24
      go_wp2
      go_ret
      exact ⟨by simp [e1, e2], HB.out⟩
def objB (k : Int) : Bool := varB k || k == 3 || k == 4
theorem obj_any (k i : Int) (w : World) : Calls Try.prog 81 #[.agg #[.int .u8 k, .int .i64 i]] w (BlB w (objB k)) := by
  obtain ⟨v, hv⟩ : ∃ v, v = objB k := ⟨_, rfl⟩
  rw [← hv]
  have KB : Hid (Blk (w.alloc (.cells #[.int .u8 k, .int .i64 i] 46)) w.heap.size 46 #[.int .u8 k, .int .i64 i]) := Blk.new w 46 _
  have HB : Hid (Below w.heap.size w (w.alloc (.cells #[.int .u8 k, .int .i64 i] 46))) := (Below.refl _ _).alloc (Nat.le_refl _) _
  have hV := fun wx => var_any k i wx
  have HV := Lib.hid hV
  clear hV
  go_enter Try.func81, Try.ntmps81
  go_wp2_with fail
  refine (HV.out _).mono ?_
  rintro e w2 ⟨rfl, hb2⟩
  have HB2 := Lib.hid (HB.out.trans (hb2.mono HB.out.size))
  have K2 := Lib.hid (KB.out.old hb2)
  clear hb2 KB HB
  obtain ⟨c0, c1⟩ := K2.out.c2
  have z1 : w.heap.size < w2.heap.size := K2.out.lt
  obtain ⟨b, hb⟩ : ∃ b, b = varB k := ⟨_, rfl⟩
  rw [← hb]
  have hv2 : v = (b || k == 3 || k == 4) := by rw [hv, hb]; rfl
  clear hv hb
  cases b with
  | true =>
    obtain rfl : v = true := by rw [hv2]; simp
    clear hv2
    go_wp2
    go_ret
    exact ⟨by simp, HB2.out⟩
  | false =>
    by_cases h3 : k = 3
    · subst h3
      obtain rfl : v = true := by rw [hv2]; rfl
      clear hv2
      go_wp2
      go_ret
      exact ⟨by simp, HB2.out⟩
    · by_cases h4 : k = 4
      · subst h4
        obtain rfl : v = true := by rw [hv2]; rfl
        clear hv2
        go_wp2
        go_ret
        exact ⟨by simp, HB2.out⟩
      · have e1 : (k == 3) = false := by simpa using h3
        have e2 : (k == 4) = false := by simpa using h4
        obtain rfl : v = false := by rw [hv2, e1, e2]; rfl
        clear hv2
        go_wp2
        go_ret
        exact ⟨by simp, HB2.out⟩
/-- Is there what is named: of so many locals, globals, functions, sites. -/
def thereF (nl ng nf ns : Nat) (k i : Int) : Bool := if k = 1 then withF i nl else if k = 2 then withF i ng else if k = 3 then withF i nf else if k = 4 then withF i ns else true
theorem there_any (As Ag Af Ae Al At Ab : Option Addr) (ls cs ng cg nf cf ne ce nl cl ns ct lb cb : Nat) (fn fp k i : Int) (w : World) :
    Calls Try.prog 83 #[.agg #[.slice As ls cs, .slice Ag ng cg, .slice Af nf cf, .slice Ae ne ce], .agg #[.int .i64 fn, .int .i64 fp, .slice Al nl cl, .slice At ns ct, .slice Ab lb cb], .agg #[.int .u8 k, .int .i64 i]] w (BlB w (thereF nl ng nf ns k i)) := by
  obtain ⟨v, hv⟩ : ∃ v, v = thereF nl ng nf ns k i := ⟨_, rfl⟩
  rw [← hv]
  have HB : Hid (Below w.heap.size w (((w.alloc (.cells #[.slice As ls cs, .slice Ag ng cg, .slice Af nf cf, .slice Ae ne ce] 30)).alloc (.cells #[.int .i64 fn, .int .i64 fp, .slice Al nl cl, .slice At ns ct, .slice Ab lb cb] 40)).alloc (.cells #[.int .u8 k, .int .i64 i] 46))) := (((Below.refl _ _).alloc (Nat.le_refl _) _).alloc (by simp) _).alloc (by simp; omega) _
  have HW : Hid (∀ (m : Nat) (wx : World), Below w.heap.size w wx → Calls Try.prog 80 #[.int .i64 i, .int .i64 (m : Int)] wx (BlB w (withF i m))) := fun m wx hx => (within_any i m wx).mono fun e w' h => ⟨h.1, hx.trans (h.2.mono hx.size)⟩
  unfold thereF at hv
  by_cases h1 : k = 1
  · subst h1
    rw [if_pos rfl] at hv
    subst hv
    go_enter Try.func83, Try.ntmps83
    go_wp2_with fail
    refine (HW.out nl _ HB.out).mono ?_
    rintro e w2 ⟨rfl, hb2⟩
    have HB2 := Lib.hid hb2
    clear hb2
    go_wp2
    go_ret
    exact ⟨rfl, HB2.out⟩
  have e1 : (k == 1) = false := by simpa using h1
  rw [if_neg h1] at hv
  by_cases h2 : k = 2
  · subst h2
    rw [if_pos rfl] at hv
    subst hv
    clear h1
    go_enter Try.func83, Try.ntmps83
    go_wp2_with fail
    refine (HW.out ng _ HB.out).mono ?_
    rintro e w2 ⟨rfl, hb2⟩
    have HB2 := Lib.hid hb2
    clear hb2
    go_wp2
    go_ret
    exact ⟨rfl, HB2.out⟩
  have e2 : (k == 2) = false := by simpa using h2
  rw [if_neg h2] at hv
  by_cases h3 : k = 3
  · subst h3
    rw [if_pos rfl] at hv
    subst hv
    clear h1 h2
    go_enter Try.func83, Try.ntmps83
    go_wp2_with fail
    refine (HW.out nf _ HB.out).mono ?_
    rintro e w2 ⟨rfl, hb2⟩
    have HB2 := Lib.hid hb2
    clear hb2
    go_wp2
    go_ret
    exact ⟨rfl, HB2.out⟩
  have e3 : (k == 3) = false := by simpa using h3
  rw [if_neg h3] at hv
  by_cases h4 : k = 4
  · subst h4
    rw [if_pos rfl] at hv
    subst hv
    clear h1 h2 h3
    go_enter Try.func83, Try.ntmps83
    go_wp2_with fail
    refine (HW.out ns _ HB.out).mono ?_
    rintro e w2 ⟨rfl, hb2⟩
    have HB2 := Lib.hid hb2
    clear hb2
    go_wp2
    go_ret
    exact ⟨rfl, HB2.out⟩
  have e4 : (k == 4) = false := by simpa using h4
  rw [if_neg h4] at hv
  subst hv
  clear h1 h2 h3 h4
  go_enter Try.func83, Try.ntmps83
  go_wp2
  go_ret
  exact ⟨rfl, HB.out⟩
/-- A fault, as a value. -/
def faultV (r f s : Int) : Value := .agg #[.int .i64 (if r = 0 then 0 else 8), .int .i64 0, .int .i64 0, .int .i64 0, .int .i64 r, .int .i64 f, .int .i64 s]
theorem fault_any (r f s : Int) (w : World) : Calls Try.prog 36 #[.int .i64 r, .int .i64 f, .int .i64 s] w fun e w' => e = .returned (faultV r f s) ∧ Below w.heap.size w w' := by
  by_cases h0 : r = 0
  · subst h0
    go_enter Try.func36, Try.ntmps36
    go_wp2
    have KB : Blk ((w.alloc (.cells #[.int .i64 0, .int .i64 0, .int .i64 0, .int .i64 0, .int .i64 0, .int .i64 f, .int .i64 s] 35)).alloc (.cells #[.int .i64 0, .int .i64 0, .int .i64 0, .int .i64 0, .int .i64 0, .int .i64 f, .int .i64 s] 35)) w.heap.size 35 #[.int .i64 0, .int .i64 0, .int .i64 0, .int .i64 0, .int .i64 0, .int .i64 f, .int .i64 s] := (Blk.new w 35 _).alloc _
    obtain ⟨r0, r1, r2, r3, r4, r5, r6⟩ := KB.c7
    refine bodyPost_ret (v := .agg #[.int .i64 0, .int .i64 0, .int .i64 0, .int .i64 0, .int .i64 0, .int .i64 f, .int .i64 s]) (by simp [results, Try.results36, go_sem, r0, r1, r2, r3, r4, r5, r6]) rfl ?_
    exact ⟨by simp [faultV], ((Below.refl _ _).alloc (Nat.le_refl _) _).alloc (by simp) _⟩
  · have e1 : (r == 0) = false := by simpa using h0
    have e2 : (r != 0) = true := by simpa using h0
    go_enter Try.func36, Try.ntmps36
    go_wp2
    have KB : Blk ((w.alloc (.cells #[.int .i64 8, .int .i64 0, .int .i64 0, .int .i64 0, .int .i64 r, .int .i64 f, .int .i64 s] 35)).alloc (.cells #[.int .i64 8, .int .i64 0, .int .i64 0, .int .i64 0, .int .i64 r, .int .i64 f, .int .i64 s] 35)) w.heap.size 35 #[.int .i64 8, .int .i64 0, .int .i64 0, .int .i64 0, .int .i64 r, .int .i64 f, .int .i64 s] := (Blk.new w 35 _).alloc _
    obtain ⟨r0, r1, r2, r3, r4, r5, r6⟩ := KB.c7
    refine bodyPost_ret (v := .agg #[.int .i64 8, .int .i64 0, .int .i64 0, .int .i64 0, .int .i64 r, .int .i64 f, .int .i64 s]) (by simp [results, Try.results36, go_sem, r0, r1, r2, r3, r4, r5, r6]) rfl ?_
    exact ⟨by simp [faultV, h0], ((Below.refl _ _).alloc (Nat.le_refl _) _).alloc (by simp) _⟩
/-- Are all references ones to variables? -/
def allVar (l : List (Int × Int)) : Bool := l.all fun x => varB x.1
set_option maxHeartbeats 400000 in
theorem allVar_any (Aa : Option Addr) (ca : Nat) (xs : List (Int × Int)) (w : World) (h : ArgsAt w (.slice Aa xs.length ca) xs) (hl : xs.length ≤ 1000000000) : Calls Try.prog 82 #[.slice Aa xs.length ca] w (BlB w (allVar xs)) := by
  obtain ⟨A', c', hv, h⟩ := h
  injection hv with hv1 hv2 hv3
  subst hv1 hv3
  clear hv2
  obtain ⟨v, hv⟩ : ∃ v, allVar (xs.drop 0) = v := ⟨_, rfl⟩
  have HV0 : Hid (allVar (xs.drop 0) = v) := hv
  rw [show allVar xs = allVar (xs.drop 0) from rfl, hv]
  have HA := Lib.hid h
  obtain ⟨n, hn⟩ : ∃ n, n = xs.length := ⟨_, rfl⟩
  have HN := Lib.hid hn
  rw [← hn] at hl ⊢
  have hV := fun k i wx => var_any k i wx
  have HV := Lib.hid hV
  clear hV h hv hn
  go_enter Try.func82, Try.ntmps82
  go_wp2_with fail
  go_loopw [7] (fun s wr => ∃ (k : Nat), k ≤ n ∧ s = .int .i64 (k : Int) ∧ Hid (allVar (xs.drop k) = v) ∧ Hid (Below w.heap.size w wr)) (fun s _ => n - (intOf s).toNat)
  case atStart => exact ⟨0, Nat.zero_le _, rfl, HV0, Below.refl _ _⟩
  case round =>
    clear HV0
    obtain ⟨k, hk, rfl, hE, hB⟩ := hrel
    by_cases hlt : k < n
    · have hkl : k < xs.length := by rw [← HN.out]; exact hlt
      have hli : (k : Int) < (n : Int) := by omega
      obtain ⟨b, o, rfl, hc⟩ := HA.out (by omega)
      obtain ⟨d0, d1⟩ := hc k hkl
      have hbl : b < w.heap.size := World.block_lt_of_cell? w ⟨b, o + k * 2, none⟩ d0
      have e0 := cell_old hB.out hbl d0
      have e1 := cell_old hB.out hbl d1
      rw [show xs.getD k (0, 0) = xs[k] from by simp [List.getD, hkl]] at e0 e1
      have hE2 := hE.out
      rw [List.drop_eq_getElem_cons hkl] at hE2
      simp only [allVar, List.all_cons] at hE2
      generalize xs[k] = x at *
      obtain ⟨xk, xi⟩ := x
      dsimp only at e0 e1 hE2
      have hz : b < wr.heap.size := by have := hB.out.size; omega
      have HE2 := Lib.hid hE2
      have HB2 : Hid (Below w.heap.size w (wr.alloc (.cells #[.int .u8 xk, .int .i64 xi] 46))) := hB.out.alloc hB.out.size _
      clear hE2 hc d0 d1 hbl hE
      go_wp2_with fail
      refine (HV.out _ _ _).mono ?_
      rintro e w2 ⟨rfl, hb2⟩
      have HB3 := Lib.hid (HB2.out.trans (hb2.mono HB2.out.size))
      clear hb2 e0 e1 hz
      obtain ⟨bv, hbv⟩ : ∃ b, b = varB xk := ⟨_, rfl⟩
      have hE3 := HE2.out
      rw [← hbv] at hE3 ⊢
      have HE3 := Lib.hid hE3
      clear HE2 hE3 hbv
      cases bv with
      | false =>
        obtain rfl : v = false := by rw [← HE3.out]; rfl
        go_wp2
        go_ret
        exact ⟨rfl, HB3.out⟩
      | true =>
        have HE4 : Hid (allVar (xs.drop (k + 1)) = v) := by show _ = _; rw [← HE3.out]; simp [allVar]
        go_wp2
        go_roundw
        case rel => exact ⟨k + 1, by omega, by go_num, HE4, HB3⟩
        case measure => simp [intOf]; omega
    · obtain rfl : k = n := by omega
      obtain rfl : v = true := by rw [← hE.out, List.drop_of_length_le (by rw [← HN.out]; omega)]; rfl
      go_wp2
      go_ret
      exact ⟨rfl, hB.out⟩
end Go.Proofs.Ytpdebnecfknohaa
namespace Go.Proofs.Ytpdebnecfknohaa
open Go.RowKit
set_option linter.unusedVariables false
set_option linter.unusedSimpArgs false
set_option maxRecDepth 20000
/-- Is all there that a statement names? -/
def refsF (nl ng nf ns : Nat) (a1 a2 b1 b2 : Int) (xs : List (Int × Int)) : Bool := (xs.all fun x => thereF nl ng nf ns x.1 x.2) && (thereF nl ng nf ns a1 a2 && thereF nl ng nf ns b1 b2)
set_option maxHeartbeats 1000000 in
theorem refs_any (As Ag Af Ae Al At Ab Aa Asub : Option Addr) (ls cs ng cg nf cf ne ce nl cl ns ct lb cb ca lsub csub : Nat) (fn fp k a1 a2 b1 b2 : Int) (xs : List (Int × Int)) (w : World) (h : ArgsAt w (.slice Aa xs.length ca) xs) (hl : xs.length ≤ 1000000000) :
    Calls Try.prog 68 #[.agg #[.slice As ls cs, .slice Ag ng cg, .slice Af nf cf, .slice Ae ne ce], .agg #[.int .i64 fn, .int .i64 fp, .slice Al nl cl, .slice At ns ct, .slice Ab lb cb], .agg #[.int .u8 k, .int .u8 a1, .int .i64 a2, .int .u8 b1, .int .i64 b2, .slice Aa xs.length ca, .slice Asub lsub csub]] w (BlB w (refsF nl ng nf ns a1 a2 b1 b2 xs)) := by
  obtain ⟨A', c', hv, h⟩ := h
  injection hv with hv1 hv2 hv3
  subst hv1 hv3
  clear hv2
  obtain ⟨v, hv⟩ : ∃ v, refsF nl ng nf ns a1 a2 b1 b2 (xs.drop 0) = v := ⟨_, rfl⟩
  have HV0 : Hid (refsF nl ng nf ns a1 a2 b1 b2 (xs.drop 0) = v) := hv
  rw [show refsF nl ng nf ns a1 a2 b1 b2 xs = refsF nl ng nf ns a1 a2 b1 b2 (xs.drop 0) from rfl, hv]
  have HA := Lib.hid h
  obtain ⟨n, hn⟩ : ∃ n, n = xs.length := ⟨_, rfl⟩
  have HN := Lib.hid hn
  rw [← hn] at hl ⊢
  have hT := fun k i wx => there_any As Ag Af Ae Al At Ab ls cs ng cg nf cf ne ce nl cl ns ct lb cb fn fp k i wx
  have HT := Lib.hid hT
  obtain ⟨w1, hw1⟩ : ∃ w1, w1 = ((w.alloc (.cells #[.slice As ls cs, .slice Ag ng cg, .slice Af nf cf, .slice Ae ne ce] 30)).alloc (.cells #[.int .i64 fn, .int .i64 fp, .slice Al nl cl, .slice At ns ct, .slice Ab lb cb] 40)).alloc (.cells #[.int .u8 k, .int .u8 a1, .int .i64 a2, .int .u8 b1, .int .i64 b2, .slice Aa n ca, .slice Asub lsub csub] 50) := ⟨_, rfl⟩
  have HB1 : Hid (Below w.heap.size w w1) := by rw [hw1]; exact (((Below.refl _ _).alloc (Nat.le_refl _) _).alloc (by simp) _).alloc (by simp; omega) _
  have K1 : Hid (Blk w1 w.heap.size 30 #[.slice As ls cs, .slice Ag ng cg, .slice Af nf cf, .slice Ae ne ce]) := by rw [hw1]; exact ((Blk.new w 30 _).alloc _).alloc _
  have K2 : Hid (Blk w1 (w.heap.size + 1) 40 #[.int .i64 fn, .int .i64 fp, .slice Al nl cl, .slice At ns ct, .slice Ab lb cb]) := by rw [hw1]; exact (Blk.new' _ 40 _ _ (by simp)).alloc _
  have K3 : Hid (Blk w1 (w.heap.size + 1 + 1) 50 #[.int .u8 k, .int .u8 a1, .int .i64 a2, .int .u8 b1, .int .i64 b2, .slice Aa n ca, .slice Asub lsub csub]) := by rw [hw1]; exact Blk.new' _ 50 _ _ (by simp)
  clear hT h hv hn
  go_enter Try.func68, Try.ntmps68
  go_upto_region 1 with (fail)
  rw [← hw1]
  clear hw1
  obtain ⟨s0, s1, s2, s3, s4, s5, s6⟩ := K3.out.c7
  have z3 : w.heap.size + 1 + 1 < w1.heap.size := K3.out.lt
  go_wp2_with fail
  clear s0 s1 s2 s3 s4 s5 s6 z3
  go_loopw [12] (fun s wr => ∃ (i : Nat), i ≤ n ∧ s = .int .i64 (i : Int) ∧ Hid (refsF nl ng nf ns a1 a2 b1 b2 (xs.drop i) = v) ∧ Hid (Below w1.heap.size w1 wr)) (fun s _ => n - (intOf s).toNat)
  case atStart => exact ⟨0, Nat.zero_le _, rfl, HV0, Below.refl _ _⟩
  case round =>
    clear HV0
    obtain ⟨i, hi, rfl, hE, hB⟩ := hrel
    have HBw := Lib.hid (HB1.out.trans (hB.out.mono HB1.out.size))
    have L1 := Lib.hid (K1.out.old hB.out)
    have L2 := Lib.hid (K2.out.old hB.out)
    have L3 := Lib.hid (K3.out.old hB.out)
    obtain ⟨m0, m1, m2, m3⟩ := L1.out.c4
    obtain ⟨f0, f1, f2, f3, f4⟩ := L2.out.c5
    obtain ⟨s0, s1, s2, s3, s4, s5, s6⟩ := L3.out.c7
    have z1 : w.heap.size < wr.heap.size := L1.out.lt
    have z2 : w.heap.size + 1 < wr.heap.size := L2.out.lt
    have z3 : w.heap.size + 1 + 1 < wr.heap.size := L3.out.lt
    by_cases hlt : i < n
    · have hkl : i < xs.length := by rw [← HN.out]; exact hlt
      have hli : (i : Int) < (n : Int) := by omega
      obtain ⟨b, o, rfl, hc⟩ := HA.out (by omega)
      obtain ⟨d0, d1⟩ := hc i hkl
      have hbl : b < w.heap.size := World.block_lt_of_cell? w ⟨b, o + i * 2, none⟩ d0
      have e0 := cell_old HBw.out hbl d0
      have e1 := cell_old HBw.out hbl d1
      rw [show xs.getD i (0, 0) = xs[i] from by simp [List.getD, hkl]] at e0 e1
      have hE2 := hE.out
      rw [List.drop_eq_getElem_cons hkl] at hE2
      simp only [refsF, List.all_cons] at hE2
      generalize xs[i] = x at *
      obtain ⟨xk, xi⟩ := x
      dsimp only at e0 e1 hE2
      have HE2 := Lib.hid hE2
      have HB2 : Hid (Below w1.heap.size w1 (wr.alloc (.cells #[.int .u8 xk, .int .i64 xi] 46))) := hB.out.alloc hB.out.size _
      clear hE2 hc d0 d1 hE
      go_wp2_with fail
      refine (HT.out xk xi _).mono ?_
      rintro e w2 ⟨rfl, hb2⟩
      have HB3 := Lib.hid (HB2.out.trans (hb2.mono HB2.out.size))
      clear hb2 e0 e1 hbl m0 m1 m2 m3 f0 f1 f2 f3 f4 s0 s1 s2 s3 s4 s5 s6 z1 z2 z3
      obtain ⟨bv, hbv⟩ : ∃ b, b = thereF nl ng nf ns xk xi := ⟨_, rfl⟩
      have hE3 := HE2.out
      rw [← hbv] at hE3 ⊢
      have HE3 := Lib.hid hE3
      clear HE2 hE3 hbv
      cases bv with
      | false =>
        obtain rfl : v = false := by rw [← HE3.out]; rfl
        go_wp2
        go_ret
        exact ⟨rfl, HB1.out.trans (HB3.out.mono HB1.out.size)⟩
      | true =>
        have HE4 : Hid (refsF nl ng nf ns a1 a2 b1 b2 (xs.drop (i + 1)) = v) := by show _ = _; rw [← HE3.out]; simp [refsF]
        go_wp2
        go_roundw
        case rel => exact ⟨i + 1, by omega, by go_num, HE4, HB3⟩
        case measure => simp [intOf]; omega
    · obtain rfl : i = n := by omega
      have hE2 := hE.out
      rw [List.drop_of_length_le (by rw [← HN.out]; omega)] at hE2
      simp only [refsF, List.all_nil, Bool.true_and] at hE2
      have HE2 := Lib.hid hE2
      clear hE2 hE
      go_wp2_with fail
      refine (HT.out a1 a2 _).mono ?_
      rintro e w2 ⟨rfl, hb2⟩
      have HB2 := Lib.hid (HBw.out.trans (hb2.mono HBw.out.size))
      have L1 := Lib.hid (L1.out.old hb2)
      have L2 := Lib.hid (L2.out.old hb2)
      have L3 := Lib.hid (L3.out.old hb2)
      clear hb2 m0 m1 m2 m3 f0 f1 f2 f3 f4 s0 s1 s2 s3 s4 s5 s6 z1 z2 z3
      obtain ⟨m0, m1, m2, m3⟩ := L1.out.c4
      obtain ⟨f0, f1, f2, f3, f4⟩ := L2.out.c5
      obtain ⟨s0, s1, s2, s3, s4, s5, s6⟩ := L3.out.c7
      have z1 : w.heap.size < w2.heap.size := L1.out.lt
      have z2 : w.heap.size + 1 < w2.heap.size := L2.out.lt
      have z3 : w.heap.size + 1 + 1 < w2.heap.size := L3.out.lt
      obtain ⟨bv, hbv⟩ : ∃ b, b = thereF nl ng nf ns a1 a2 := ⟨_, rfl⟩
      have hE3 := HE2.out
      rw [← hbv] at hE3 ⊢
      have HE3 := Lib.hid hE3
      clear HE2 hE3 hbv
      cases bv with
      | false =>
        obtain rfl : v = false := by rw [← HE3.out]; rfl
        go_wp2
        go_ret
        exact ⟨rfl, HB2.out⟩
      | true =>
        go_wp2_with fail
        refine (HT.out b1 b2 _).mono ?_
        rintro e w3 ⟨rfl, hb3⟩
        have HB3 := Lib.hid (HB2.out.trans (hb3.mono HB2.out.size))
        have hE4 := HE3.out
        rw [Bool.true_and] at hE4
        clear hb3 m0 m1 m2 m3 f0 f1 f2 f3 f4 s0 s1 s2 s3 s4 s5 s6 z1 z2 z3 HE3
        rw [hE4]
        clear hE4
        go_wp2
        go_ret
        exact ⟨by simp, HB3.out⟩
end Go.Proofs.Ytpdebnecfknohaa
namespace Go.Proofs.Ytpdebnecfknohaa
open Go.RowKit
set_option linter.unusedVariables false
set_option linter.unusedSimpArgs false
set_option maxRecDepth 20000
def zeroB (a i : Int) : Bool := a == 0 && i == 0
/-- Has a statement just what its kind has? -/
def kindF (k a1 a2 b1 b2 : Int) (xs : List (Int × Int)) (lsub : Nat) : Bool :=
  if (k ≠ 5 ∧ 0 < xs.length) ∨ (k ≠ 7 ∧ 0 < lsub) then false
  else if k = 1 then varB a1 && objB b1
  else if k = 2 ∨ k = 3 ∨ k = 4 then varB a1 && varB b1
  else if k = 5 then ((zeroB a1 a2 || varB a1) && (b1 == 3 || varB b1)) && allVar xs
  else if k = 6 then zeroB a1 a2 && varB b1
  else if k = 7 then zeroB a1 a2 && zeroB b1 b2
  else false
set_option maxHeartbeats 4000000 in
theorem kinds_early (Aa Asub : Option Addr) (ca lsub csub : Nat) (k a1 a2 b1 b2 : Int) (xs : List (Int × Int)) (w : World) (h : ArgsAt w (.slice Aa xs.length ca) xs) (hl : xs.length ≤ 1000000000) (hc : (k ≠ 5 ∧ 0 < xs.length) ∨ (k ≠ 7 ∧ 0 < lsub)) :
    Calls Try.prog 67 #[.agg #[.int .u8 k, .int .u8 a1, .int .i64 a2, .int .u8 b1, .int .i64 b2, .slice Aa xs.length ca, .slice Asub lsub csub]] w (BlB w (kindF k a1 a2 b1 b2 xs lsub)) := by
  obtain ⟨v, hv⟩ : ∃ v, v = kindF k a1 a2 b1 b2 xs lsub := ⟨_, rfl⟩
  rw [← hv]
  have hal := fun wx (hx : Below w.heap.size w wx) => allVar_any Aa ca xs wx (h.old hx) hl
  obtain ⟨na, hn⟩ : ∃ n, n = xs.length := ⟨_, rfl⟩
  unfold kindF at hv
  rw [← hn] at hv hal ⊢
  have HV := Lib.hid (fun k i wx => var_any k i wx)
  have HO := Lib.hid (fun k i wx => obj_any k i wx)
  have HAl := Lib.hid hal
  rw [← hn] at hc
  clear h hl hn hal
  have HA : Hid (Below w.heap.size w (w.alloc (.cells #[.int .u8 k, .int .u8 a1, .int .i64 a2, .int .u8 b1, .int .i64 b2, .slice Aa na ca, .slice Asub lsub csub] 50))) := (Below.refl _ _).alloc (Nat.le_refl _) _
  rw [if_pos hc] at hv
  subst hv
  by_cases h5 : k ≠ 5 ∧ 0 < na
  · obtain ⟨h51, h52⟩ := h5
    have e1 : (k != 5) = true := by simpa using h51
    have e1' : (k == 5) = false := by simpa using h51
    have e2 : (0 : Int) < (na : Int) := by omega
    clear hc
    go_enter Try.func67, Try.ntmps67
    go_wp2
    go_ret
    exact ⟨rfl, HA.out⟩
  · have h7 : k ≠ 7 ∧ 0 < lsub := by
      rcases hc with h | h
      · exact absurd h h5
      · exact h
    obtain ⟨h71, h72⟩ := h7
    have e1 : (k != 7) = true := by simpa using h71
    have e1' : (k == 7) = false := by simpa using h71
    have e2 : (0 : Int) < (lsub : Int) := by omega
    clear hc
    by_cases h50 : k = 5
    · subst h50
      clear h71 e1 e1' h5
      go_enter Try.func67, Try.ntmps67
      go_wp2
      go_ret
      exact ⟨rfl, HA.out⟩
    · have h00 : na = 0 := by omega
      subst h00
      have e3 : (k != 5) = true := by simpa using h50
      have e3' : (k == 5) = false := by simpa using h50
      clear h5
      go_enter Try.func67, Try.ntmps67
      go_wp2
      go_ret
      exact ⟨rfl, HA.out⟩
end Go.Proofs.Ytpdebnecfknohaa
namespace Go.Proofs.Ytpdebnecfknohaa
open Go.RowKit
set_option linter.unusedVariables false
set_option linter.unusedSimpArgs false
set_option maxRecDepth 20000
set_option maxHeartbeats 4000000 in
theorem kinds_1 (Aa Asub : Option Addr) (ca lsub csub : Nat) (a1 a2 b1 b2 : Int) (xs : List (Int × Int)) (w : World) (h : ArgsAt w (.slice Aa xs.length ca) xs) (hl : xs.length ≤ 1000000000) (hx : xs.length = 0) (hs : lsub = 0):
    Calls Try.prog 67 #[.agg #[.int .u8 1, .int .u8 a1, .int .i64 a2, .int .u8 b1, .int .i64 b2, .slice Aa xs.length ca, .slice Asub lsub csub]] w (BlB w (kindF 1 a1 a2 b1 b2 xs lsub)) := by
  obtain ⟨v, hv⟩ : ∃ v, v = kindF 1 a1 a2 b1 b2 xs lsub := ⟨_, rfl⟩
  rw [← hv]
  have hal := fun wx (hx : Below w.heap.size w wx) => allVar_any Aa ca xs wx (h.old hx) hl
  obtain ⟨na, hn⟩ : ∃ n, n = xs.length := ⟨_, rfl⟩
  unfold kindF at hv
  rw [← hn] at hv hal ⊢
  have HV := Lib.hid (fun k i wx => var_any k i wx)
  have HO := Lib.hid (fun k i wx => obj_any k i wx)
  have HAl := Lib.hid hal
  rw [if_neg (by omega)] at hv
  obtain rfl : na = 0 := by omega
  subst hs
  rw [if_pos (by omega)] at hv
  clear h hl hn hal
  obtain ⟨w1, hw1⟩ : ∃ w1, w1 = (w.alloc (.cells #[.int .u8 1, .int .u8 a1, .int .i64 a2, .int .u8 b1, .int .i64 b2, .slice Aa 0 ca, .slice Asub 0 csub] 50)).alloc (.cells #[.int .u8 0, .int .i64 0] 46) := ⟨_, rfl⟩
  have HB1 : Hid (Below w.heap.size w w1) := by rw [hw1]; exact ((Below.refl _ _).alloc (Nat.le_refl _) _).alloc (by simp) _
  have K1 : Hid (Blk w1 w.heap.size 50 #[.int .u8 1, .int .u8 a1, .int .i64 a2, .int .u8 b1, .int .i64 b2, .slice Aa 0 ca, .slice Asub 0 csub]) := by rw [hw1]; exact (Blk.new w 50 _).alloc _
  have K2 : Hid (Blk w1 (w.heap.size + 1) 46 #[.int .u8 0, .int .i64 0]) := by rw [hw1]; exact Blk.new' _ 46 _ _ (by simp)
  go_enter Try.func67, Try.ntmps67
  go_upto_region 4 with (fail)
  rw [← hw1]
  clear hw1
  obtain ⟨s0, s1, s2, s3, s4, s5, s6⟩ := K1.out.c7
  obtain ⟨o0, o1⟩ := K2.out.c2
  have z1 : w.heap.size < w1.heap.size := K1.out.lt
  have z2 : w.heap.size + 1 < w1.heap.size := K2.out.lt
  have Hw1 := HB1
  have K1w1 := K1
  have K2w1 := K2
  go_wp2_with fail
  refine (HV.out a1 a2 _).mono ?_
  rintro e w2 ⟨rfl, hb2⟩
  have Hw2 := Lib.hid (Hw1.out.trans (hb2.mono Hw1.out.size))
  have K1w2 := Lib.hid (K1w1.out.old hb2)
  have K2w2 := Lib.hid (K2w1.out.old hb2)
  clear hb2 s0 s1 s2 s3 s4 s5 s6 o0 o1 z1 z2
  obtain ⟨s0, s1, s2, s3, s4, s5, s6⟩ := K1w2.out.c7
  obtain ⟨o0, o1⟩ := K2w2.out.c2
  have z1 : w.heap.size < w2.heap.size := K1w2.out.lt
  have z2 : w.heap.size + 1 < w2.heap.size := K2w2.out.lt
  obtain ⟨bv, hbv⟩ : ∃ b, b = varB a1 := ⟨_, rfl⟩
  rw [← hbv] at hv ⊢
  clear hbv
  cases bv with
  | false =>
    obtain rfl : v = false := by rw [hv]; simp
    clear hv
    go_wp2
    go_ret
    exact ⟨by simp, Hw2.out⟩
  | true =>
    go_wp2_with fail
    refine (HO.out b1 b2 _).mono ?_
    rintro e w3 ⟨rfl, hb2⟩
    have Hw3 := Lib.hid (Hw2.out.trans (hb2.mono Hw2.out.size))
    have K1w3 := Lib.hid (K1w2.out.old hb2)
    have K2w3 := Lib.hid (K2w2.out.old hb2)
    clear hb2 s0 s1 s2 s3 s4 s5 s6 o0 o1 z1 z2
    obtain ⟨s0, s1, s2, s3, s4, s5, s6⟩ := K1w3.out.c7
    obtain ⟨o0, o1⟩ := K2w3.out.c2
    have z1 : w.heap.size < w3.heap.size := K1w3.out.lt
    have z2 : w.heap.size + 1 < w3.heap.size := K2w3.out.lt
    obtain ⟨bu, hbu⟩ : ∃ b, b = objB b1 := ⟨_, rfl⟩
    rw [← hbu] at hv ⊢
    clear hbu
    cases bu with
    | false =>
      obtain rfl : v = false := by rw [hv]; simp
      clear hv
      go_wp2
      go_ret
      exact ⟨by simp, Hw3.out⟩
    | true =>
      obtain rfl : v = true := by rw [hv]; simp
      clear hv
      go_wp2
      go_ret
      exact ⟨by simp, Hw3.out⟩
set_option maxHeartbeats 4000000 in
theorem kinds_2 (Aa Asub : Option Addr) (ca lsub csub : Nat) (a1 a2 b1 b2 : Int) (xs : List (Int × Int)) (w : World) (h : ArgsAt w (.slice Aa xs.length ca) xs) (hl : xs.length ≤ 1000000000) (hx : xs.length = 0) (hs : lsub = 0):
    Calls Try.prog 67 #[.agg #[.int .u8 2, .int .u8 a1, .int .i64 a2, .int .u8 b1, .int .i64 b2, .slice Aa xs.length ca, .slice Asub lsub csub]] w (BlB w (kindF 2 a1 a2 b1 b2 xs lsub)) := by
  obtain ⟨v, hv⟩ : ∃ v, v = kindF 2 a1 a2 b1 b2 xs lsub := ⟨_, rfl⟩
  rw [← hv]
  have hal := fun wx (hx : Below w.heap.size w wx) => allVar_any Aa ca xs wx (h.old hx) hl
  obtain ⟨na, hn⟩ : ∃ n, n = xs.length := ⟨_, rfl⟩
  unfold kindF at hv
  rw [← hn] at hv hal ⊢
  have HV := Lib.hid (fun k i wx => var_any k i wx)
  have HO := Lib.hid (fun k i wx => obj_any k i wx)
  have HAl := Lib.hid hal
  rw [if_neg (by omega)] at hv
  obtain rfl : na = 0 := by omega
  subst hs
  rw [if_neg (by omega)] at hv
  rw [if_pos (by omega)] at hv
  clear h hl hn hal
  obtain ⟨w1, hw1⟩ : ∃ w1, w1 = (w.alloc (.cells #[.int .u8 2, .int .u8 a1, .int .i64 a2, .int .u8 b1, .int .i64 b2, .slice Aa 0 ca, .slice Asub 0 csub] 50)).alloc (.cells #[.int .u8 0, .int .i64 0] 46) := ⟨_, rfl⟩
  have HB1 : Hid (Below w.heap.size w w1) := by rw [hw1]; exact ((Below.refl _ _).alloc (Nat.le_refl _) _).alloc (by simp) _
  have K1 : Hid (Blk w1 w.heap.size 50 #[.int .u8 2, .int .u8 a1, .int .i64 a2, .int .u8 b1, .int .i64 b2, .slice Aa 0 ca, .slice Asub 0 csub]) := by rw [hw1]; exact (Blk.new w 50 _).alloc _
  have K2 : Hid (Blk w1 (w.heap.size + 1) 46 #[.int .u8 0, .int .i64 0]) := by rw [hw1]; exact Blk.new' _ 46 _ _ (by simp)
  go_enter Try.func67, Try.ntmps67
  go_upto_region 4 with (fail)
  rw [← hw1]
  clear hw1
  obtain ⟨s0, s1, s2, s3, s4, s5, s6⟩ := K1.out.c7
  obtain ⟨o0, o1⟩ := K2.out.c2
  have z1 : w.heap.size < w1.heap.size := K1.out.lt
  have z2 : w.heap.size + 1 < w1.heap.size := K2.out.lt
  have Hw1 := HB1
  have K1w1 := K1
  have K2w1 := K2
  go_wp2_with fail
  refine (HV.out a1 a2 _).mono ?_
  rintro e w2 ⟨rfl, hb2⟩
  have Hw2 := Lib.hid (Hw1.out.trans (hb2.mono Hw1.out.size))
  have K1w2 := Lib.hid (K1w1.out.old hb2)
  have K2w2 := Lib.hid (K2w1.out.old hb2)
  clear hb2 s0 s1 s2 s3 s4 s5 s6 o0 o1 z1 z2
  obtain ⟨s0, s1, s2, s3, s4, s5, s6⟩ := K1w2.out.c7
  obtain ⟨o0, o1⟩ := K2w2.out.c2
  have z1 : w.heap.size < w2.heap.size := K1w2.out.lt
  have z2 : w.heap.size + 1 < w2.heap.size := K2w2.out.lt
  obtain ⟨bv, hbv⟩ : ∃ b, b = varB a1 := ⟨_, rfl⟩
  rw [← hbv] at hv ⊢
  clear hbv
  cases bv with
  | false =>
    obtain rfl : v = false := by rw [hv]; simp
    clear hv
    go_wp2
    go_ret
    exact ⟨by simp, Hw2.out⟩
  | true =>
    go_wp2_with fail
    refine (HV.out b1 b2 _).mono ?_
    rintro e w3 ⟨rfl, hb2⟩
    have Hw3 := Lib.hid (Hw2.out.trans (hb2.mono Hw2.out.size))
    have K1w3 := Lib.hid (K1w2.out.old hb2)
    have K2w3 := Lib.hid (K2w2.out.old hb2)
    clear hb2 s0 s1 s2 s3 s4 s5 s6 o0 o1 z1 z2
    obtain ⟨s0, s1, s2, s3, s4, s5, s6⟩ := K1w3.out.c7
    obtain ⟨o0, o1⟩ := K2w3.out.c2
    have z1 : w.heap.size < w3.heap.size := K1w3.out.lt
    have z2 : w.heap.size + 1 < w3.heap.size := K2w3.out.lt
    obtain ⟨bu, hbu⟩ : ∃ b, b = varB b1 := ⟨_, rfl⟩
    rw [← hbu] at hv ⊢
    clear hbu
    cases bu with
    | false =>
      obtain rfl : v = false := by rw [hv]; simp
      clear hv
      go_wp2
      go_ret
      exact ⟨by simp, Hw3.out⟩
    | true =>
      obtain rfl : v = true := by rw [hv]; simp
      clear hv
      go_wp2
      go_ret
      exact ⟨by simp, Hw3.out⟩
end Go.Proofs.Ytpdebnecfknohaa
namespace Go.Proofs.Ytpdebnecfknohaa
open Go.RowKit
set_option linter.unusedVariables false
set_option linter.unusedSimpArgs false
set_option maxRecDepth 20000
set_option maxHeartbeats 4000000 in
theorem kinds_3 (Aa Asub : Option Addr) (ca lsub csub : Nat) (a1 a2 b1 b2 : Int) (xs : List (Int × Int)) (w : World) (h : ArgsAt w (.slice Aa xs.length ca) xs) (hl : xs.length ≤ 1000000000) (hx : xs.length = 0) (hs : lsub = 0):
    Calls Try.prog 67 #[.agg #[.int .u8 3, .int .u8 a1, .int .i64 a2, .int .u8 b1, .int .i64 b2, .slice Aa xs.length ca, .slice Asub lsub csub]] w (BlB w (kindF 3 a1 a2 b1 b2 xs lsub)) := by
  obtain ⟨v, hv⟩ : ∃ v, v = kindF 3 a1 a2 b1 b2 xs lsub := ⟨_, rfl⟩
  rw [← hv]
  have hal := fun wx (hx : Below w.heap.size w wx) => allVar_any Aa ca xs wx (h.old hx) hl
  obtain ⟨na, hn⟩ : ∃ n, n = xs.length := ⟨_, rfl⟩
  unfold kindF at hv
  rw [← hn] at hv hal ⊢
  have HV := Lib.hid (fun k i wx => var_any k i wx)
  have HO := Lib.hid (fun k i wx => obj_any k i wx)
  have HAl := Lib.hid hal
  rw [if_neg (by omega)] at hv
  obtain rfl : na = 0 := by omega
  subst hs
  rw [if_neg (by omega)] at hv
  rw [if_pos (by omega)] at hv
  clear h hl hn hal
  obtain ⟨w1, hw1⟩ : ∃ w1, w1 = (w.alloc (.cells #[.int .u8 3, .int .u8 a1, .int .i64 a2, .int .u8 b1, .int .i64 b2, .slice Aa 0 ca, .slice Asub 0 csub] 50)).alloc (.cells #[.int .u8 0, .int .i64 0] 46) := ⟨_, rfl⟩
  have HB1 : Hid (Below w.heap.size w w1) := by rw [hw1]; exact ((Below.refl _ _).alloc (Nat.le_refl _) _).alloc (by simp) _
  have K1 : Hid (Blk w1 w.heap.size 50 #[.int .u8 3, .int .u8 a1, .int .i64 a2, .int .u8 b1, .int .i64 b2, .slice Aa 0 ca, .slice Asub 0 csub]) := by rw [hw1]; exact (Blk.new w 50 _).alloc _
  have K2 : Hid (Blk w1 (w.heap.size + 1) 46 #[.int .u8 0, .int .i64 0]) := by rw [hw1]; exact Blk.new' _ 46 _ _ (by simp)
  go_enter Try.func67, Try.ntmps67
  go_upto_region 4 with (fail)
  rw [← hw1]
  clear hw1
  obtain ⟨s0, s1, s2, s3, s4, s5, s6⟩ := K1.out.c7
  obtain ⟨o0, o1⟩ := K2.out.c2
  have z1 : w.heap.size < w1.heap.size := K1.out.lt
  have z2 : w.heap.size + 1 < w1.heap.size := K2.out.lt
  have Hw1 := HB1
  have K1w1 := K1
  have K2w1 := K2
  go_wp2_with fail
  refine (HV.out a1 a2 _).mono ?_
  rintro e w2 ⟨rfl, hb2⟩
  have Hw2 := Lib.hid (Hw1.out.trans (hb2.mono Hw1.out.size))
  have K1w2 := Lib.hid (K1w1.out.old hb2)
  have K2w2 := Lib.hid (K2w1.out.old hb2)
  clear hb2 s0 s1 s2 s3 s4 s5 s6 o0 o1 z1 z2
  obtain ⟨s0, s1, s2, s3, s4, s5, s6⟩ := K1w2.out.c7
  obtain ⟨o0, o1⟩ := K2w2.out.c2
  have z1 : w.heap.size < w2.heap.size := K1w2.out.lt
  have z2 : w.heap.size + 1 < w2.heap.size := K2w2.out.lt
  obtain ⟨bv, hbv⟩ : ∃ b, b = varB a1 := ⟨_, rfl⟩
  rw [← hbv] at hv ⊢
  clear hbv
  cases bv with
  | false =>
    obtain rfl : v = false := by rw [hv]; simp
    clear hv
    go_wp2
    go_ret
    exact ⟨by simp, Hw2.out⟩
  | true =>
    go_wp2_with fail
    refine (HV.out b1 b2 _).mono ?_
    rintro e w3 ⟨rfl, hb2⟩
    have Hw3 := Lib.hid (Hw2.out.trans (hb2.mono Hw2.out.size))
    have K1w3 := Lib.hid (K1w2.out.old hb2)
    have K2w3 := Lib.hid (K2w2.out.old hb2)
    clear hb2 s0 s1 s2 s3 s4 s5 s6 o0 o1 z1 z2
    obtain ⟨s0, s1, s2, s3, s4, s5, s6⟩ := K1w3.out.c7
    obtain ⟨o0, o1⟩ := K2w3.out.c2
    have z1 : w.heap.size < w3.heap.size := K1w3.out.lt
    have z2 : w.heap.size + 1 < w3.heap.size := K2w3.out.lt
    obtain ⟨bu, hbu⟩ : ∃ b, b = varB b1 := ⟨_, rfl⟩
    rw [← hbu] at hv ⊢
    clear hbu
    cases bu with
    | false =>
      obtain rfl : v = false := by rw [hv]; simp
      clear hv
      go_wp2
      go_ret
      exact ⟨by simp, Hw3.out⟩
    | true =>
      obtain rfl : v = true := by rw [hv]; simp
      clear hv
      go_wp2
      go_ret
      exact ⟨by simp, Hw3.out⟩
set_option maxHeartbeats 4000000 in
theorem kinds_4 (Aa Asub : Option Addr) (ca lsub csub : Nat) (a1 a2 b1 b2 : Int) (xs : List (Int × Int)) (w : World) (h : ArgsAt w (.slice Aa xs.length ca) xs) (hl : xs.length ≤ 1000000000) (hx : xs.length = 0) (hs : lsub = 0):
    Calls Try.prog 67 #[.agg #[.int .u8 4, .int .u8 a1, .int .i64 a2, .int .u8 b1, .int .i64 b2, .slice Aa xs.length ca, .slice Asub lsub csub]] w (BlB w (kindF 4 a1 a2 b1 b2 xs lsub)) := by
  obtain ⟨v, hv⟩ : ∃ v, v = kindF 4 a1 a2 b1 b2 xs lsub := ⟨_, rfl⟩
  rw [← hv]
  have hal := fun wx (hx : Below w.heap.size w wx) => allVar_any Aa ca xs wx (h.old hx) hl
  obtain ⟨na, hn⟩ : ∃ n, n = xs.length := ⟨_, rfl⟩
  unfold kindF at hv
  rw [← hn] at hv hal ⊢
  have HV := Lib.hid (fun k i wx => var_any k i wx)
  have HO := Lib.hid (fun k i wx => obj_any k i wx)
  have HAl := Lib.hid hal
  rw [if_neg (by omega)] at hv
  obtain rfl : na = 0 := by omega
  subst hs
  rw [if_neg (by omega)] at hv
  rw [if_pos (by omega)] at hv
  clear h hl hn hal
  obtain ⟨w1, hw1⟩ : ∃ w1, w1 = (w.alloc (.cells #[.int .u8 4, .int .u8 a1, .int .i64 a2, .int .u8 b1, .int .i64 b2, .slice Aa 0 ca, .slice Asub 0 csub] 50)).alloc (.cells #[.int .u8 0, .int .i64 0] 46) := ⟨_, rfl⟩
  have HB1 : Hid (Below w.heap.size w w1) := by rw [hw1]; exact ((Below.refl _ _).alloc (Nat.le_refl _) _).alloc (by simp) _
  have K1 : Hid (Blk w1 w.heap.size 50 #[.int .u8 4, .int .u8 a1, .int .i64 a2, .int .u8 b1, .int .i64 b2, .slice Aa 0 ca, .slice Asub 0 csub]) := by rw [hw1]; exact (Blk.new w 50 _).alloc _
  have K2 : Hid (Blk w1 (w.heap.size + 1) 46 #[.int .u8 0, .int .i64 0]) := by rw [hw1]; exact Blk.new' _ 46 _ _ (by simp)
  go_enter Try.func67, Try.ntmps67
  go_upto_region 4 with (fail)
  rw [← hw1]
  clear hw1
  obtain ⟨s0, s1, s2, s3, s4, s5, s6⟩ := K1.out.c7
  obtain ⟨o0, o1⟩ := K2.out.c2
  have z1 : w.heap.size < w1.heap.size := K1.out.lt
  have z2 : w.heap.size + 1 < w1.heap.size := K2.out.lt
  have Hw1 := HB1
  have K1w1 := K1
  have K2w1 := K2
  go_wp2_with fail
  refine (HV.out a1 a2 _).mono ?_
  rintro e w2 ⟨rfl, hb2⟩
  have Hw2 := Lib.hid (Hw1.out.trans (hb2.mono Hw1.out.size))
  have K1w2 := Lib.hid (K1w1.out.old hb2)
  have K2w2 := Lib.hid (K2w1.out.old hb2)
  clear hb2 s0 s1 s2 s3 s4 s5 s6 o0 o1 z1 z2
  obtain ⟨s0, s1, s2, s3, s4, s5, s6⟩ := K1w2.out.c7
  obtain ⟨o0, o1⟩ := K2w2.out.c2
  have z1 : w.heap.size < w2.heap.size := K1w2.out.lt
  have z2 : w.heap.size + 1 < w2.heap.size := K2w2.out.lt
  obtain ⟨bv, hbv⟩ : ∃ b, b = varB a1 := ⟨_, rfl⟩
  rw [← hbv] at hv ⊢
  clear hbv
  cases bv with
  | false =>
    obtain rfl : v = false := by rw [hv]; simp
    clear hv
    go_wp2
    go_ret
    exact ⟨by simp, Hw2.out⟩
  | true =>
    go_wp2_with fail
    refine (HV.out b1 b2 _).mono ?_
    rintro e w3 ⟨rfl, hb2⟩
    have Hw3 := Lib.hid (Hw2.out.trans (hb2.mono Hw2.out.size))
    have K1w3 := Lib.hid (K1w2.out.old hb2)
    have K2w3 := Lib.hid (K2w2.out.old hb2)
    clear hb2 s0 s1 s2 s3 s4 s5 s6 o0 o1 z1 z2
    obtain ⟨s0, s1, s2, s3, s4, s5, s6⟩ := K1w3.out.c7
    obtain ⟨o0, o1⟩ := K2w3.out.c2
    have z1 : w.heap.size < w3.heap.size := K1w3.out.lt
    have z2 : w.heap.size + 1 < w3.heap.size := K2w3.out.lt
    obtain ⟨bu, hbu⟩ : ∃ b, b = varB b1 := ⟨_, rfl⟩
    rw [← hbu] at hv ⊢
    clear hbu
    cases bu with
    | false =>
      obtain rfl : v = false := by rw [hv]; simp
      clear hv
      go_wp2
      go_ret
      exact ⟨by simp, Hw3.out⟩
    | true =>
      obtain rfl : v = true := by rw [hv]; simp
      clear hv
      go_wp2
      go_ret
      exact ⟨by simp, Hw3.out⟩
end Go.Proofs.Ytpdebnecfknohaa
namespace Go.Proofs.Ytpdebnecfknohaa
open Go.RowKit
set_option linter.unusedVariables false
set_option linter.unusedSimpArgs false
set_option maxRecDepth 20000
set_option maxHeartbeats 4000000 in
theorem kinds_5a (Aa Asub : Option Addr) (ca lsub csub : Nat) (a1 a2 b1 b2 : Int) (xs : List (Int × Int)) (w : World) (h : ArgsAt w (.slice Aa xs.length ca) xs) (hl : xs.length ≤ 1000000000) (hs : lsub = 0) (zz : a1 = 0 ∧ a2 = 0):
    Calls Try.prog 67 #[.agg #[.int .u8 5, .int .u8 a1, .int .i64 a2, .int .u8 b1, .int .i64 b2, .slice Aa xs.length ca, .slice Asub lsub csub]] w (BlB w (kindF 5 a1 a2 b1 b2 xs lsub)) := by
  obtain ⟨v, hv⟩ : ∃ v, v = kindF 5 a1 a2 b1 b2 xs lsub := ⟨_, rfl⟩
  rw [← hv]
  have hal := fun wx (hx : Below w.heap.size w wx) => allVar_any Aa ca xs wx (h.old hx) hl
  obtain ⟨na, hn⟩ : ∃ n, n = xs.length := ⟨_, rfl⟩
  unfold kindF at hv
  rw [← hn] at hv hal ⊢
  have HV := Lib.hid (fun k i wx => var_any k i wx)
  have HO := Lib.hid (fun k i wx => obj_any k i wx)
  have HAl := Lib.hid hal
  rw [if_neg (by omega)] at hv
  rw [if_neg (by omega)] at hv
  rw [if_neg (by omega)] at hv
  rw [if_pos rfl] at hv
  subst hs
  obtain ⟨rfl, rfl⟩ := zz
  clear h hl hn hal
  obtain ⟨w1, hw1⟩ : ∃ w1, w1 = (w.alloc (.cells #[.int .u8 5, .int .u8 0, .int .i64 0, .int .u8 b1, .int .i64 b2, .slice Aa na ca, .slice Asub 0 csub] 50)).alloc (.cells #[.int .u8 0, .int .i64 0] 46) := ⟨_, rfl⟩
  have HB1 : Hid (Below w.heap.size w w1) := by rw [hw1]; exact ((Below.refl _ _).alloc (Nat.le_refl _) _).alloc (by simp) _
  have K1 : Hid (Blk w1 w.heap.size 50 #[.int .u8 5, .int .u8 0, .int .i64 0, .int .u8 b1, .int .i64 b2, .slice Aa na ca, .slice Asub 0 csub]) := by rw [hw1]; exact (Blk.new w 50 _).alloc _
  have K2 : Hid (Blk w1 (w.heap.size + 1) 46 #[.int .u8 0, .int .i64 0]) := by rw [hw1]; exact Blk.new' _ 46 _ _ (by simp)
  go_enter Try.func67, Try.ntmps67
  go_upto_region 4 with (fail)
  rw [← hw1]
  clear hw1
  obtain ⟨s0, s1, s2, s3, s4, s5, s6⟩ := K1.out.c7
  obtain ⟨o0, o1⟩ := K2.out.c2
  have z1 : w.heap.size < w1.heap.size := K1.out.lt
  have z2 : w.heap.size + 1 < w1.heap.size := K2.out.lt
  have Hw1 := HB1
  have K1w1 := K1
  have K2w1 := K2
  have hz : zeroB 0 0 = true := rfl
  rw [hz] at hv
  clear hz
  by_cases q3 : b1 = 3
  · subst q3
    go_wp2_with fail
    refine (HAl.out _ Hw1.out).mono ?_
    rintro e w5 ⟨rfl, hb2⟩
    have Hw5 := Lib.hid (Hw1.out.trans (hb2.mono Hw1.out.size))
    clear hb2 s0 s1 s2 s3 s4 s5 s6 o0 o1 z1 z2
    obtain ⟨bw, hbw⟩ : ∃ b, b = allVar xs := ⟨_, rfl⟩
    rw [← hbw] at hv ⊢
    clear hbw
    cases bw with
    | false =>
      obtain rfl : v = false := by rw [hv]; simp
      clear hv
      go_wp2
      go_ret
      exact ⟨by simp, Hw5.out⟩
    | true =>
      obtain rfl : v = true := by rw [hv]; simp
      clear hv
      go_wp2
      go_ret
      exact ⟨by simp, Hw5.out⟩
  · have g3 : (b1 == 3) = false := by simpa using q3
    rw [g3] at hv
    go_wp2_with fail
    refine (HV.out b1 b2 _).mono ?_
    rintro e w4 ⟨rfl, hb2⟩
    have Hw4 := Lib.hid (Hw1.out.trans (hb2.mono Hw1.out.size))
    have K1w4 := Lib.hid (K1w1.out.old hb2)
    have K2w4 := Lib.hid (K2w1.out.old hb2)
    clear hb2 s0 s1 s2 s3 s4 s5 s6 o0 o1 z1 z2
    obtain ⟨s0, s1, s2, s3, s4, s5, s6⟩ := K1w4.out.c7
    obtain ⟨o0, o1⟩ := K2w4.out.c2
    have z1 : w.heap.size < w4.heap.size := K1w4.out.lt
    have z2 : w.heap.size + 1 < w4.heap.size := K2w4.out.lt
    obtain ⟨bu, hbu⟩ : ∃ b, b = varB b1 := ⟨_, rfl⟩
    rw [← hbu] at hv ⊢
    clear hbu
    cases bu with
    | false =>
      obtain rfl : v = false := by rw [hv]; simp
      clear hv
      go_wp2
      go_ret
      exact ⟨by simp, Hw4.out⟩
    | true =>
      go_wp2_with fail
      refine (HAl.out _ Hw4.out).mono ?_
      rintro e w5 ⟨rfl, hb2⟩
      have Hw5 := Lib.hid (Hw4.out.trans (hb2.mono Hw4.out.size))
      clear hb2 s0 s1 s2 s3 s4 s5 s6 o0 o1 z1 z2
      obtain ⟨bw, hbw⟩ : ∃ b, b = allVar xs := ⟨_, rfl⟩
      rw [← hbw] at hv ⊢
      clear hbw
      cases bw with
      | false =>
        obtain rfl : v = false := by rw [hv]; simp
        clear hv
        go_wp2
        go_ret
        exact ⟨by simp, Hw5.out⟩
      | true =>
        obtain rfl : v = true := by rw [hv]; simp
        clear hv
        go_wp2
        go_ret
        exact ⟨by simp, Hw5.out⟩
end Go.Proofs.Ytpdebnecfknohaa
namespace Go.Proofs.Ytpdebnecfknohaa
open Go.RowKit
set_option linter.unusedVariables false
set_option linter.unusedSimpArgs false
set_option maxRecDepth 20000
set_option maxHeartbeats 4000000 in
theorem kinds_5b (Aa Asub : Option Addr) (ca lsub csub : Nat) (a1 a2 b1 b2 : Int) (xs : List (Int × Int)) (w : World) (h : ArgsAt w (.slice Aa xs.length ca) xs) (hl : xs.length ≤ 1000000000) (hs : lsub = 0) (zz : ¬ (a1 = 0 ∧ a2 = 0)):
    Calls Try.prog 67 #[.agg #[.int .u8 5, .int .u8 a1, .int .i64 a2, .int .u8 b1, .int .i64 b2, .slice Aa xs.length ca, .slice Asub lsub csub]] w (BlB w (kindF 5 a1 a2 b1 b2 xs lsub)) := by
  obtain ⟨v, hv⟩ : ∃ v, v = kindF 5 a1 a2 b1 b2 xs lsub := ⟨_, rfl⟩
  rw [← hv]
  have hal := fun wx (hx : Below w.heap.size w wx) => allVar_any Aa ca xs wx (h.old hx) hl
  obtain ⟨na, hn⟩ : ∃ n, n = xs.length := ⟨_, rfl⟩
  unfold kindF at hv
  rw [← hn] at hv hal ⊢
  have HV := Lib.hid (fun k i wx => var_any k i wx)
  have HO := Lib.hid (fun k i wx => obj_any k i wx)
  have HAl := Lib.hid hal
  rw [if_neg (by omega)] at hv
  rw [if_neg (by omega)] at hv
  rw [if_neg (by omega)] at hv
  rw [if_pos rfl] at hv
  subst hs
  clear h hl hn hal
  obtain ⟨w1, hw1⟩ : ∃ w1, w1 = (w.alloc (.cells #[.int .u8 5, .int .u8 a1, .int .i64 a2, .int .u8 b1, .int .i64 b2, .slice Aa na ca, .slice Asub 0 csub] 50)).alloc (.cells #[.int .u8 0, .int .i64 0] 46) := ⟨_, rfl⟩
  have HB1 : Hid (Below w.heap.size w w1) := by rw [hw1]; exact ((Below.refl _ _).alloc (Nat.le_refl _) _).alloc (by simp) _
  have K1 : Hid (Blk w1 w.heap.size 50 #[.int .u8 5, .int .u8 a1, .int .i64 a2, .int .u8 b1, .int .i64 b2, .slice Aa na ca, .slice Asub 0 csub]) := by rw [hw1]; exact (Blk.new w 50 _).alloc _
  have K2 : Hid (Blk w1 (w.heap.size + 1) 46 #[.int .u8 0, .int .i64 0]) := by rw [hw1]; exact Blk.new' _ 46 _ _ (by simp)
  go_enter Try.func67, Try.ntmps67
  go_upto_region 4 with (fail)
  rw [← hw1]
  clear hw1
  obtain ⟨s0, s1, s2, s3, s4, s5, s6⟩ := K1.out.c7
  obtain ⟨o0, o1⟩ := K2.out.c2
  have z1 : w.heap.size < w1.heap.size := K1.out.lt
  have z2 : w.heap.size + 1 < w1.heap.size := K2.out.lt
  have Hw1 := HB1
  have K1w1 := K1
  have K2w1 := K2
  have hz : zeroB a1 a2 = false := by simp only [zeroB, Bool.and_eq_false_iff, beq_eq_false_iff_ne]; omega
  rw [hz] at hv
  clear hz
  by_cases za : a1 = 0
  · have zb : (a2 == 0) = false := by simp only [beq_eq_false_iff_ne]; omega
    subst za
    clear zz
    go_wp2_with fail
    refine (HV.out 0 a2 _).mono ?_
    rintro e w2 ⟨rfl, hb2⟩
    have Hw2 := Lib.hid (Hw1.out.trans (hb2.mono Hw1.out.size))
    have K1w2 := Lib.hid (K1w1.out.old hb2)
    have K2w2 := Lib.hid (K2w1.out.old hb2)
    clear hb2 s0 s1 s2 s3 s4 s5 s6 o0 o1 z1 z2
    obtain ⟨s0, s1, s2, s3, s4, s5, s6⟩ := K1w2.out.c7
    obtain ⟨o0, o1⟩ := K2w2.out.c2
    have z1 : w.heap.size < w2.heap.size := K1w2.out.lt
    have z2 : w.heap.size + 1 < w2.heap.size := K2w2.out.lt
    obtain ⟨bv, hbv⟩ : ∃ b, b = varB 0 := ⟨_, rfl⟩
    rw [← hbv] at hv ⊢
    clear hbv
    cases bv with
    | false =>
      obtain rfl : v = false := by rw [hv]; simp
      clear hv
      go_wp2
      go_ret
      exact ⟨by simp, Hw2.out⟩
    | true =>
      by_cases q3 : b1 = 3
      · subst q3
        go_wp2_with fail
        refine (HAl.out _ Hw2.out).mono ?_
        rintro e w5 ⟨rfl, hb2⟩
        have Hw5 := Lib.hid (Hw2.out.trans (hb2.mono Hw2.out.size))
        clear hb2 s0 s1 s2 s3 s4 s5 s6 o0 o1 z1 z2
        obtain ⟨bw, hbw⟩ : ∃ b, b = allVar xs := ⟨_, rfl⟩
        rw [← hbw] at hv ⊢
        clear hbw
        cases bw with
        | false =>
          obtain rfl : v = false := by rw [hv]; simp
          clear hv
          go_wp2
          go_ret
          exact ⟨by simp, Hw5.out⟩
        | true =>
          obtain rfl : v = true := by rw [hv]; simp
          clear hv
          go_wp2
          go_ret
          exact ⟨by simp, Hw5.out⟩
      · have g3 : (b1 == 3) = false := by simpa using q3
        rw [g3] at hv
        go_wp2_with fail
        refine (HV.out b1 b2 _).mono ?_
        rintro e w4 ⟨rfl, hb2⟩
        have Hw4 := Lib.hid (Hw2.out.trans (hb2.mono Hw2.out.size))
        have K1w4 := Lib.hid (K1w2.out.old hb2)
        have K2w4 := Lib.hid (K2w2.out.old hb2)
        clear hb2 s0 s1 s2 s3 s4 s5 s6 o0 o1 z1 z2
        obtain ⟨s0, s1, s2, s3, s4, s5, s6⟩ := K1w4.out.c7
        obtain ⟨o0, o1⟩ := K2w4.out.c2
        have z1 : w.heap.size < w4.heap.size := K1w4.out.lt
        have z2 : w.heap.size + 1 < w4.heap.size := K2w4.out.lt
        obtain ⟨bu, hbu⟩ : ∃ b, b = varB b1 := ⟨_, rfl⟩
        rw [← hbu] at hv ⊢
        clear hbu
        cases bu with
        | false =>
          obtain rfl : v = false := by rw [hv]; simp
          clear hv
          go_wp2
          go_ret
          exact ⟨by simp, Hw4.out⟩
        | true =>
          go_wp2_with fail
          refine (HAl.out _ Hw4.out).mono ?_
          rintro e w5 ⟨rfl, hb2⟩
          have Hw5 := Lib.hid (Hw4.out.trans (hb2.mono Hw4.out.size))
          clear hb2 s0 s1 s2 s3 s4 s5 s6 o0 o1 z1 z2
          obtain ⟨bw, hbw⟩ : ∃ b, b = allVar xs := ⟨_, rfl⟩
          rw [← hbw] at hv ⊢
          clear hbw
          cases bw with
          | false =>
            obtain rfl : v = false := by rw [hv]; simp
            clear hv
            go_wp2
            go_ret
            exact ⟨by simp, Hw5.out⟩
          | true =>
            obtain rfl : v = true := by rw [hv]; simp
            clear hv
            go_wp2
            go_ret
            exact ⟨by simp, Hw5.out⟩
  · have zb : (a1 == 0) = false := by simp only [beq_eq_false_iff_ne]; omega
    clear zz za
    go_wp2_with fail
    refine (HV.out a1 a2 _).mono ?_
    rintro e w2 ⟨rfl, hb2⟩
    have Hw2 := Lib.hid (Hw1.out.trans (hb2.mono Hw1.out.size))
    have K1w2 := Lib.hid (K1w1.out.old hb2)
    have K2w2 := Lib.hid (K2w1.out.old hb2)
    clear hb2 s0 s1 s2 s3 s4 s5 s6 o0 o1 z1 z2
    obtain ⟨s0, s1, s2, s3, s4, s5, s6⟩ := K1w2.out.c7
    obtain ⟨o0, o1⟩ := K2w2.out.c2
    have z1 : w.heap.size < w2.heap.size := K1w2.out.lt
    have z2 : w.heap.size + 1 < w2.heap.size := K2w2.out.lt
    obtain ⟨bv, hbv⟩ : ∃ b, b = varB a1 := ⟨_, rfl⟩
    rw [← hbv] at hv ⊢
    clear hbv
    cases bv with
    | false =>
      obtain rfl : v = false := by rw [hv]; simp
      clear hv
      go_wp2
      go_ret
      exact ⟨by simp, Hw2.out⟩
    | true =>
      by_cases q3 : b1 = 3
      · subst q3
        go_wp2_with fail
        refine (HAl.out _ Hw2.out).mono ?_
        rintro e w5 ⟨rfl, hb2⟩
        have Hw5 := Lib.hid (Hw2.out.trans (hb2.mono Hw2.out.size))
        clear hb2 s0 s1 s2 s3 s4 s5 s6 o0 o1 z1 z2
        obtain ⟨bw, hbw⟩ : ∃ b, b = allVar xs := ⟨_, rfl⟩
        rw [← hbw] at hv ⊢
        clear hbw
        cases bw with
        | false =>
          obtain rfl : v = false := by rw [hv]; simp
          clear hv
          go_wp2
          go_ret
          exact ⟨by simp, Hw5.out⟩
        | true =>
          obtain rfl : v = true := by rw [hv]; simp
          clear hv
          go_wp2
          go_ret
          exact ⟨by simp, Hw5.out⟩
      · have g3 : (b1 == 3) = false := by simpa using q3
        rw [g3] at hv
        go_wp2_with fail
        refine (HV.out b1 b2 _).mono ?_
        rintro e w4 ⟨rfl, hb2⟩
        have Hw4 := Lib.hid (Hw2.out.trans (hb2.mono Hw2.out.size))
        have K1w4 := Lib.hid (K1w2.out.old hb2)
        have K2w4 := Lib.hid (K2w2.out.old hb2)
        clear hb2 s0 s1 s2 s3 s4 s5 s6 o0 o1 z1 z2
        obtain ⟨s0, s1, s2, s3, s4, s5, s6⟩ := K1w4.out.c7
        obtain ⟨o0, o1⟩ := K2w4.out.c2
        have z1 : w.heap.size < w4.heap.size := K1w4.out.lt
        have z2 : w.heap.size + 1 < w4.heap.size := K2w4.out.lt
        obtain ⟨bu, hbu⟩ : ∃ b, b = varB b1 := ⟨_, rfl⟩
        rw [← hbu] at hv ⊢
        clear hbu
        cases bu with
        | false =>
          obtain rfl : v = false := by rw [hv]; simp
          clear hv
          go_wp2
          go_ret
          exact ⟨by simp, Hw4.out⟩
        | true =>
          go_wp2_with fail
          refine (HAl.out _ Hw4.out).mono ?_
          rintro e w5 ⟨rfl, hb2⟩
          have Hw5 := Lib.hid (Hw4.out.trans (hb2.mono Hw4.out.size))
          clear hb2 s0 s1 s2 s3 s4 s5 s6 o0 o1 z1 z2
          obtain ⟨bw, hbw⟩ : ∃ b, b = allVar xs := ⟨_, rfl⟩
          rw [← hbw] at hv ⊢
          clear hbw
          cases bw with
          | false =>
            obtain rfl : v = false := by rw [hv]; simp
            clear hv
            go_wp2
            go_ret
            exact ⟨by simp, Hw5.out⟩
          | true =>
            obtain rfl : v = true := by rw [hv]; simp
            clear hv
            go_wp2
            go_ret
            exact ⟨by simp, Hw5.out⟩
end Go.Proofs.Ytpdebnecfknohaa
namespace Go.Proofs.Ytpdebnecfknohaa
open Go.RowKit
set_option linter.unusedVariables false
set_option linter.unusedSimpArgs false
set_option maxRecDepth 20000
set_option maxHeartbeats 4000000 in
theorem kinds_6 (Aa Asub : Option Addr) (ca lsub csub : Nat) (a1 a2 b1 b2 : Int) (xs : List (Int × Int)) (w : World) (h : ArgsAt w (.slice Aa xs.length ca) xs) (hl : xs.length ≤ 1000000000) (hx : xs.length = 0) (hs : lsub = 0):
    Calls Try.prog 67 #[.agg #[.int .u8 6, .int .u8 a1, .int .i64 a2, .int .u8 b1, .int .i64 b2, .slice Aa xs.length ca, .slice Asub lsub csub]] w (BlB w (kindF 6 a1 a2 b1 b2 xs lsub)) := by
  obtain ⟨v, hv⟩ : ∃ v, v = kindF 6 a1 a2 b1 b2 xs lsub := ⟨_, rfl⟩
  rw [← hv]
  have hal := fun wx (hx : Below w.heap.size w wx) => allVar_any Aa ca xs wx (h.old hx) hl
  obtain ⟨na, hn⟩ : ∃ n, n = xs.length := ⟨_, rfl⟩
  unfold kindF at hv
  rw [← hn] at hv hal ⊢
  have HV := Lib.hid (fun k i wx => var_any k i wx)
  have HO := Lib.hid (fun k i wx => obj_any k i wx)
  have HAl := Lib.hid hal
  rw [if_neg (by omega)] at hv
  obtain rfl : na = 0 := by omega
  subst hs
  rw [if_neg (by omega)] at hv
  rw [if_neg (by omega)] at hv
  rw [if_neg (by omega)] at hv
  rw [if_pos (by omega)] at hv
  clear h hl hn hal
  obtain ⟨w1, hw1⟩ : ∃ w1, w1 = (w.alloc (.cells #[.int .u8 6, .int .u8 a1, .int .i64 a2, .int .u8 b1, .int .i64 b2, .slice Aa 0 ca, .slice Asub 0 csub] 50)).alloc (.cells #[.int .u8 0, .int .i64 0] 46) := ⟨_, rfl⟩
  have HB1 : Hid (Below w.heap.size w w1) := by rw [hw1]; exact ((Below.refl _ _).alloc (Nat.le_refl _) _).alloc (by simp) _
  have K1 : Hid (Blk w1 w.heap.size 50 #[.int .u8 6, .int .u8 a1, .int .i64 a2, .int .u8 b1, .int .i64 b2, .slice Aa 0 ca, .slice Asub 0 csub]) := by rw [hw1]; exact (Blk.new w 50 _).alloc _
  have K2 : Hid (Blk w1 (w.heap.size + 1) 46 #[.int .u8 0, .int .i64 0]) := by rw [hw1]; exact Blk.new' _ 46 _ _ (by simp)
  go_enter Try.func67, Try.ntmps67
  go_upto_region 4 with (fail)
  rw [← hw1]
  clear hw1
  obtain ⟨s0, s1, s2, s3, s4, s5, s6⟩ := K1.out.c7
  obtain ⟨o0, o1⟩ := K2.out.c2
  have z1 : w.heap.size < w1.heap.size := K1.out.lt
  have z2 : w.heap.size + 1 < w1.heap.size := K2.out.lt
  have Hw1 := HB1
  have K1w1 := K1
  have K2w1 := K2
  by_cases zz : a1 = 0 ∧ a2 = 0
  · obtain ⟨rfl, rfl⟩ := zz
    have hz : zeroB 0 0 = true := rfl
    rw [hz] at hv
    clear hz
    go_wp2_with fail
    refine (HV.out b1 b2 _).mono ?_
    rintro e w2 ⟨rfl, hb2⟩
    have Hw2 := Lib.hid (Hw1.out.trans (hb2.mono Hw1.out.size))
    have K1w2 := Lib.hid (K1w1.out.old hb2)
    have K2w2 := Lib.hid (K2w1.out.old hb2)
    clear hb2 s0 s1 s2 s3 s4 s5 s6 o0 o1 z1 z2
    obtain ⟨s0, s1, s2, s3, s4, s5, s6⟩ := K1w2.out.c7
    obtain ⟨o0, o1⟩ := K2w2.out.c2
    have z1 : w.heap.size < w2.heap.size := K1w2.out.lt
    have z2 : w.heap.size + 1 < w2.heap.size := K2w2.out.lt
    obtain ⟨bv, hbv⟩ : ∃ b, b = varB b1 := ⟨_, rfl⟩
    rw [← hbv] at hv ⊢
    clear hbv
    cases bv with
    | false =>
      obtain rfl : v = false := by rw [hv]; simp
      clear hv
      go_wp2
      go_ret
      exact ⟨by simp, Hw2.out⟩
    | true =>
      obtain rfl : v = true := by rw [hv]; simp
      clear hv
      go_wp2
      go_ret
      exact ⟨by simp, Hw2.out⟩
  · have hz : zeroB a1 a2 = false := by simp only [zeroB, Bool.and_eq_false_iff, beq_eq_false_iff_ne]; omega
    rw [hz] at hv
    clear hz
    by_cases za : a1 = 0
    · have zb : (a2 == 0) = false := by simp only [beq_eq_false_iff_ne]; omega
      subst za
      clear zz
      obtain rfl : v = false := by rw [hv]; simp
      clear hv
      go_wp2
      go_ret
      exact ⟨by simp, Hw1.out⟩
    · have zb : (a1 == 0) = false := by simp only [beq_eq_false_iff_ne]; omega
      clear zz za
      obtain rfl : v = false := by rw [hv]; simp
      clear hv
      go_wp2
      go_ret
      exact ⟨by simp, Hw1.out⟩
set_option maxHeartbeats 4000000 in
theorem kinds_7 (Aa Asub : Option Addr) (ca lsub csub : Nat) (a1 a2 b1 b2 : Int) (xs : List (Int × Int)) (w : World) (h : ArgsAt w (.slice Aa xs.length ca) xs) (hl : xs.length ≤ 1000000000) (hx : xs.length = 0):
    Calls Try.prog 67 #[.agg #[.int .u8 7, .int .u8 a1, .int .i64 a2, .int .u8 b1, .int .i64 b2, .slice Aa xs.length ca, .slice Asub lsub csub]] w (BlB w (kindF 7 a1 a2 b1 b2 xs lsub)) := by
  obtain ⟨v, hv⟩ : ∃ v, v = kindF 7 a1 a2 b1 b2 xs lsub := ⟨_, rfl⟩
  rw [← hv]
  have hal := fun wx (hx : Below w.heap.size w wx) => allVar_any Aa ca xs wx (h.old hx) hl
  obtain ⟨na, hn⟩ : ∃ n, n = xs.length := ⟨_, rfl⟩
  unfold kindF at hv
  rw [← hn] at hv hal ⊢
  have HV := Lib.hid (fun k i wx => var_any k i wx)
  have HO := Lib.hid (fun k i wx => obj_any k i wx)
  have HAl := Lib.hid hal
  rw [if_neg (by omega)] at hv
  obtain rfl : na = 0 := by omega
  rw [if_neg (by omega)] at hv
  rw [if_neg (by omega)] at hv
  rw [if_neg (by omega)] at hv
  rw [if_neg (by omega)] at hv
  rw [if_pos rfl] at hv
  clear h hl hn hal
  obtain ⟨w1, hw1⟩ : ∃ w1, w1 = (w.alloc (.cells #[.int .u8 7, .int .u8 a1, .int .i64 a2, .int .u8 b1, .int .i64 b2, .slice Aa 0 ca, .slice Asub lsub csub] 50)).alloc (.cells #[.int .u8 0, .int .i64 0] 46) := ⟨_, rfl⟩
  have HB1 : Hid (Below w.heap.size w w1) := by rw [hw1]; exact ((Below.refl _ _).alloc (Nat.le_refl _) _).alloc (by simp) _
  have K1 : Hid (Blk w1 w.heap.size 50 #[.int .u8 7, .int .u8 a1, .int .i64 a2, .int .u8 b1, .int .i64 b2, .slice Aa 0 ca, .slice Asub lsub csub]) := by rw [hw1]; exact (Blk.new w 50 _).alloc _
  have K2 : Hid (Blk w1 (w.heap.size + 1) 46 #[.int .u8 0, .int .i64 0]) := by rw [hw1]; exact Blk.new' _ 46 _ _ (by simp)
  go_enter Try.func67, Try.ntmps67
  go_upto_region 4 with (fail)
  rw [← hw1]
  clear hw1
  obtain ⟨s0, s1, s2, s3, s4, s5, s6⟩ := K1.out.c7
  obtain ⟨o0, o1⟩ := K2.out.c2
  have z1 : w.heap.size < w1.heap.size := K1.out.lt
  have z2 : w.heap.size + 1 < w1.heap.size := K2.out.lt
  have Hw1 := HB1
  have K1w1 := K1
  have K2w1 := K2
  by_cases zz : a1 = 0 ∧ a2 = 0
  · obtain ⟨rfl, rfl⟩ := zz
    have hz : zeroB 0 0 = true := rfl
    rw [hz] at hv
    clear hz
    by_cases zz : b1 = 0 ∧ b2 = 0
    · obtain ⟨rfl, rfl⟩ := zz
      have hz : zeroB 0 0 = true := rfl
      rw [hz] at hv
      clear hz
      obtain rfl : v = true := by rw [hv]; simp
      clear hv
      go_wp2
      go_ret
      exact ⟨by simp, Hw1.out⟩
    · have hz : zeroB b1 b2 = false := by simp only [zeroB, Bool.and_eq_false_iff, beq_eq_false_iff_ne]; omega
      rw [hz] at hv
      clear hz
      by_cases za : b1 = 0
      · have zb : (b2 == 0) = false := by simp only [beq_eq_false_iff_ne]; omega
        subst za
        clear zz
        obtain rfl : v = false := by rw [hv]; simp
        clear hv
        go_wp2
        go_ret
        exact ⟨by simp, Hw1.out⟩
      · have zb : (b1 == 0) = false := by simp only [beq_eq_false_iff_ne]; omega
        clear zz za
        obtain rfl : v = false := by rw [hv]; simp
        clear hv
        go_wp2
        go_ret
        exact ⟨by simp, Hw1.out⟩
  · have hz : zeroB a1 a2 = false := by simp only [zeroB, Bool.and_eq_false_iff, beq_eq_false_iff_ne]; omega
    rw [hz] at hv
    clear hz
    by_cases za : a1 = 0
    · have zb : (a2 == 0) = false := by simp only [beq_eq_false_iff_ne]; omega
      subst za
      clear zz
      obtain rfl : v = false := by rw [hv]; simp
      clear hv
      go_wp2
      go_ret
      exact ⟨by simp, Hw1.out⟩
    · have zb : (a1 == 0) = false := by simp only [beq_eq_false_iff_ne]; omega
      clear zz za
      obtain rfl : v = false := by rw [hv]; simp
      clear hv
      go_wp2
      go_ret
      exact ⟨by simp, Hw1.out⟩
end Go.Proofs.Ytpdebnecfknohaa
namespace Go.Proofs.Ytpdebnecfknohaa
open Go.RowKit
set_option linter.unusedVariables false
set_option linter.unusedSimpArgs false
set_option maxRecDepth 20000
set_option maxHeartbeats 4000000 in
theorem kinds_else (Aa Asub : Option Addr) (ca lsub csub : Nat) (k a1 a2 b1 b2 : Int) (xs : List (Int × Int)) (w : World) (h : ArgsAt w (.slice Aa xs.length ca) xs) (hl : xs.length ≤ 1000000000) (hx : xs.length = 0) (hs : lsub = 0) (hk : k ≠ 1 ∧ k ≠ 2 ∧ k ≠ 3 ∧ k ≠ 4 ∧ k ≠ 5 ∧ k ≠ 6 ∧ k ≠ 7) :
    Calls Try.prog 67 #[.agg #[.int .u8 k, .int .u8 a1, .int .i64 a2, .int .u8 b1, .int .i64 b2, .slice Aa xs.length ca, .slice Asub lsub csub]] w (BlB w (kindF k a1 a2 b1 b2 xs lsub)) := by
  obtain ⟨v, hv⟩ : ∃ v, v = kindF k a1 a2 b1 b2 xs lsub := ⟨_, rfl⟩
  rw [← hv]
  have hal := fun wx (hx : Below w.heap.size w wx) => allVar_any Aa ca xs wx (h.old hx) hl
  obtain ⟨na, hn⟩ : ∃ n, n = xs.length := ⟨_, rfl⟩
  unfold kindF at hv
  rw [← hn] at hv hal ⊢
  have HV := Lib.hid (fun k i wx => var_any k i wx)
  have HO := Lib.hid (fun k i wx => obj_any k i wx)
  have HAl := Lib.hid hal
  obtain ⟨q1, q2, q3, q4, q5, q6, q7⟩ := hk
  rw [if_neg (by omega)] at hv
  rw [if_neg (by omega)] at hv
  rw [if_neg (by omega)] at hv
  rw [if_neg (by omega)] at hv
  rw [if_neg (by omega)] at hv
  rw [if_neg (by omega)] at hv
  obtain rfl : na = 0 := by omega
  subst hs
  clear h hl hn hal
  have g1 : (k == 1) = false := by simpa using q1
  have g2 : (k == 2) = false := by simpa using q2
  have g3 : (k == 3) = false := by simpa using q3
  have g4 : (k == 4) = false := by simpa using q4
  have g5 : (k == 5) = false := by simpa using q5
  have g6 : (k == 6) = false := by simpa using q6
  have g7 : (k == 7) = false := by simpa using q7
  have g5' : (k != 5) = true := by simpa using q5
  have g7' : (k != 7) = true := by simpa using q7
  clear q1 q2 q3 q4 q5 q6 q7
  obtain ⟨w1, hw1⟩ : ∃ w1, w1 = (w.alloc (.cells #[.int .u8 k, .int .u8 a1, .int .i64 a2, .int .u8 b1, .int .i64 b2, .slice Aa 0 ca, .slice Asub 0 csub] 50)).alloc (.cells #[.int .u8 0, .int .i64 0] 46) := ⟨_, rfl⟩
  have HB1 : Hid (Below w.heap.size w w1) := by rw [hw1]; exact ((Below.refl _ _).alloc (Nat.le_refl _) _).alloc (by simp) _
  have K1 : Hid (Blk w1 w.heap.size 50 #[.int .u8 k, .int .u8 a1, .int .i64 a2, .int .u8 b1, .int .i64 b2, .slice Aa 0 ca, .slice Asub 0 csub]) := by rw [hw1]; exact (Blk.new w 50 _).alloc _
  have K2 : Hid (Blk w1 (w.heap.size + 1) 46 #[.int .u8 0, .int .i64 0]) := by rw [hw1]; exact Blk.new' _ 46 _ _ (by simp)
  go_enter Try.func67, Try.ntmps67
  go_upto_region 4 with (fail)
  rw [← hw1]
  clear hw1
  obtain ⟨s0, s1, s2, s3, s4, s5, s6⟩ := K1.out.c7
  obtain ⟨o0, o1⟩ := K2.out.c2
  have z1 : w.heap.size < w1.heap.size := K1.out.lt
  have z2 : w.heap.size + 1 < w1.heap.size := K2.out.lt
  have Hw1 := HB1
  have K1w1 := K1
  have K2w1 := K2
  subst hv
  go_wp2
  go_ret
  exact ⟨by simp, Hw1.out⟩
end Go.Proofs.Ytpdebnecfknohaa
namespace Go.Proofs.Ytpdebnecfknohaa
open Go.RowKit
set_option linter.unusedVariables false
set_option linter.unusedSimpArgs false
set_option maxRecDepth 20000
theorem kinds_any (Aa Asub : Option Addr) (ca lsub csub : Nat) (k a1 a2 b1 b2 : Int) (xs : List (Int × Int)) (w : World) (h : ArgsAt w (.slice Aa xs.length ca) xs) (hl : xs.length ≤ 1000000000) :
    Calls Try.prog 67 #[.agg #[.int .u8 k, .int .u8 a1, .int .i64 a2, .int .u8 b1, .int .i64 b2, .slice Aa xs.length ca, .slice Asub lsub csub]] w (BlB w (kindF k a1 a2 b1 b2 xs lsub)) := by
  by_cases hc : (k ≠ 5 ∧ 0 < xs.length) ∨ (k ≠ 7 ∧ 0 < lsub)
  · exact kinds_early Aa Asub ca lsub csub k a1 a2 b1 b2 xs w h hl hc
  by_cases q1 : k = 1
  · subst q1; exact kinds_1 Aa Asub ca lsub csub a1 a2 b1 b2 xs w h hl (by omega) (by omega)
  by_cases q2 : k = 2
  · subst q2; exact kinds_2 Aa Asub ca lsub csub a1 a2 b1 b2 xs w h hl (by omega) (by omega)
  by_cases q3 : k = 3
  · subst q3; exact kinds_3 Aa Asub ca lsub csub a1 a2 b1 b2 xs w h hl (by omega) (by omega)
  by_cases q4 : k = 4
  · subst q4; exact kinds_4 Aa Asub ca lsub csub a1 a2 b1 b2 xs w h hl (by omega) (by omega)
  by_cases q5 : k = 5
  · subst q5
    by_cases zz : a1 = 0 ∧ a2 = 0
    · exact kinds_5a Aa Asub ca lsub csub a1 a2 b1 b2 xs w h hl (by omega) zz
    · exact kinds_5b Aa Asub ca lsub csub a1 a2 b1 b2 xs w h hl (by omega) zz
  by_cases q6 : k = 6
  · subst q6; exact kinds_6 Aa Asub ca lsub csub a1 a2 b1 b2 xs w h hl (by omega) (by omega)
  by_cases q7 : k = 7
  · subst q7; exact kinds_7 Aa Asub ca lsub csub a1 a2 b1 b2 xs w h hl (by omega)
  exact kinds_else Aa Asub ca lsub csub k a1 a2 b1 b2 xs w h hl (by omega) (by omega) ⟨q1, q2, q3, q4, q5, q6, q7⟩
end Go.Proofs.Ytpdebnecfknohaa
namespace Go.Proofs.Ytpdebnecfknohaa
open Go.RowKit
set_option linter.unusedVariables false
set_option maxRecDepth 20000
/-- A statement as it stands. -/
structure It where
  deep : Nat
  k : Int
  a1 : Int
  a2 : Int
  b1 : Int
  b2 : Int
  xs : List (Int × Int)
  sub : Bd
/-- All statements that are listed, in order. -/
def Bd.flat : Nat → Bd → List It
  | _, .nil => []
  | d, .cons k a1 a2 b1 b2 xs sub rest => ⟨d, k, a1, a2, b1, b2, xs, sub⟩ :: ((if k = 7 ∧ d < 1000 then sub.flat (d + 1) else []) ++ rest.flat d)
theorem Bd.flat_len : ∀ (t : Bd) (d : Nat), (t.flat d).length = t.cnt d
  | .nil, _ => rfl
  | .cons k a1 a2 b1 b2 xs sub rest, d => by
    have h1 := Bd.flat_len sub (d + 1)
    have h2 := Bd.flat_len rest d
    simp only [Bd.flat, Bd.cnt, List.length_cons, List.length_append]
    split
    · omega
    · simp; omega
/-- The cells of an item. -/
def ItS (S : Nat → Prop) (w : World) (i : Nat) (cs : List Value) (x : It) : Prop := ∃ Aa ca A c, cs = [.int .i64 (i : Int), .int .i64 (x.deep : Int), .int .u8 x.k, .int .u8 x.a1, .int .i64 x.a2, .int .u8 x.b1, .int .i64 x.b2, .slice Aa x.xs.length ca, .slice A x.sub.len c] ∧ ArgsS S w (.slice Aa x.xs.length ca) x.xs ∧ BodyS S w A x.sub
theorem ItS.kept {S S' : Nat → Prop} {w w' : World} {i : Nat} {cs : List Value} {x : It} (h : ItS S w i cs x) (hk : Kept S w w') (hS : ∀ k, S k → k < w.heap.size → S' k) : ItS S' w' i cs x := by
  obtain ⟨Aa, ca, A, c, rfl, ha, hb⟩ := h
  exact ⟨Aa, ca, A, c, rfl, ha.kept hk hS, hb.kept hk hS⟩
/-- Items in a row of the call's own, whose other blocks are not that row's. -/
structure ItRow (e : Nat) (w : World) (base : Nat) (X : Nat → Prop) (v : Value) (L : List It) : Prop where
  own : ∃ css : List (List Value), w.ownsRow base e 9 v L.length css.flatten ∧ css.length = L.length ∧ ∀ i (h : i < L.length), ∃ cs, css[i]? = some cs ∧ ItS (fun k => some k ≠ v.ownBlock ∧ X k) w i cs L[i]
theorem ItRow.nil (e : Nat) (w : World) (base : Nat) (X : Nat → Prop) : ItRow e w base X (.slice none 0 0) [] := ⟨[], ⟨rfl, .inl ⟨rfl, rfl⟩⟩, rfl, fun i h => by simp at h⟩
theorem ItRow.blk {e : Nat} {w : World} {base : Nat} {X : Nat → Prop} {v : Value} {L : List It} (h : ItRow e w base X v L) : ∀ k, some k = v.ownBlock → base ≤ k ∧ k < w.heap.size ∧ ∃ cur, Blk w k e cur := fun k hk => by
  obtain ⟨css, h1, _, _⟩ := h.own
  rcases h1.2 with ⟨rfl, _⟩ | ⟨q, cap, cur, rfl, hq, hh, _⟩
  · simp [Value.ownBlock] at hk
  · have : k = q := by simpa [Value.ownBlock] using hk
    subst this
    exact ⟨hq, heap_ltM hh, cur, hh⟩
theorem ItRow.kept {e : Nat} {w w' : World} {base : Nat} {X X' : Nat → Prop} {v : Value} {L : List It} (h : ItRow e w base X v L) (hv : ∀ k, some k = v.ownBlock → w'.heap[k]? = w.heap[k]?) (hk : ∀ k, X k → k < w.heap.size → w'.heap[k]? = w.heap[k]?) (hX : ∀ k, X k → k < w.heap.size → X' k) : ItRow e w' base X' v L := by
  obtain ⟨css, h1, h2, h3⟩ := h.own
  refine ⟨css, own_blocks h1 hv, h2, fun i hi => ?_⟩
  obtain ⟨cs, e, hf⟩ := h3 i hi
  exact ⟨cs, e, hf.kept (fun k hk' hlt => hk k hk'.2 hlt) (fun k hk' hlt => ⟨hk'.1, hX k hk'.2 hlt⟩)⟩
theorem ItRow.old {e : Nat} {w w' : World} {base : Nat} {X : Nat → Prop} {v : Value} {L : List It} (h : ItRow e w base X v L) (hb : Below w.heap.size w w') : ItRow e w' base X v L :=
  h.kept (fun k hk => hb.block k (h.blk k hk).2.1) (fun k _ hlt => hb.block k hlt) (fun _ h _ => h)
theorem ItRow.slice {e : Nat} {w : World} {base : Nat} {X : Nat → Prop} {v : Value} {L : List It} (h : ItRow e w base X v L) : ∃ A c, v = .slice A L.length c := by
  obtain ⟨css, h1, _, _⟩ := h.own
  exact own_slice h1
theorem ItS.len {S : Nat → Prop} {w : World} {i : Nat} {cs : List Value} {x : It} (h : ItS S w i cs x) : cs.length = 9 := by
  obtain ⟨Aa, ca, A, c, rfl, ha, hb⟩ := h
  rfl
/-- What is read of one item. -/
theorem ItRow.at_ {e : Nat} {w : World} {base : Nat} {X : Nat → Prop} {A : Option Addr} {n c : Nat} {L : List It} (h : ItRow e w base X (.slice A n c) L) (i : Nat) (hi : i < L.length) : ∃ q, A = some ⟨q, 0, none⟩ ∧ q < w.heap.size ∧ n ≤ c ∧ ∃ Aa ca Ab cb, ArgsAt w (.slice Aa L[i].xs.length ca) L[i].xs ∧ BodyV w Ab L[i].sub ∧
    ∀ j u, ([.int .i64 (i : Int), .int .i64 (L[i].deep : Int), .int .u8 L[i].k, .int .u8 L[i].a1, .int .i64 L[i].a2, .int .u8 L[i].b1, .int .i64 L[i].b2, .slice Aa L[i].xs.length ca, .slice Ab L[i].sub.len cb] : List Value)[j]? = some u → w.cell? ⟨q, i * 9 + j, none⟩ = some u := by
  obtain ⟨css, h1, h2, h3⟩ := h.own
  obtain ⟨A', c', hv⟩ := own_slice h1
  injection hv with hv1 hv2 hv3
  subst hv1 hv2 hv3
  obtain ⟨q, cap, hv, _, hq⟩ := own_formM h1 (by omega)
  injection hv with hv1 _ hv3
  subst hv1 hv3
  obtain ⟨cs, hcs, Aa, ca, Ab, cb, rfl, ha, hb⟩ := h3 i hi
  refine ⟨q, rfl, hq, ?_, Aa, ca, Ab, cb, ha.at_, hb.at_, fun j u hj => ?_⟩
  · rcases h1.2 with ⟨hv, _⟩ | ⟨k, cap', cur, hv, _, _, h5, _⟩
    · cases hv
    · injection hv with _ _ hv; subst hv; exact h5
  · have hj9 : j < 9 := by
      rcases Nat.lt_or_ge j 9 with h | h
      · exact h
      · rw [List.getElem?_eq_none (by simpa using h)] at hj; cases hj
    have := own_cellsM h1 (i * 9 + j) u (by
      have hall : ∀ c ∈ css, c.length = 9 := fun c hc => by
        obtain ⟨m, hm, rfl⟩ := List.mem_iff_getElem.1 hc
        obtain ⟨c2, hc2, hit⟩ := h3 m (by omega)
        rw [List.getElem?_eq_getElem hm] at hc2
        injection hc2 with hc2
        rw [hc2]; exact hit.len
      have flat_get : ∀ (l : List (List Value)) (i : Nat) (r : List Value), (∀ c ∈ l, c.length = 9) → l[i]? = some r → ∀ j, j < 9 → l.flatten[i * 9 + j]? = r[j]? := by
        intro l
        induction l with
        | nil => intro i r _ h; simp at h
        | cons x l ih =>
          intro i r hl hi j hj
          have hx : x.length = 9 := hl x (by simp)
          cases i with
          | zero =>
            simp at hi; subst hi
            rw [List.flatten_cons, List.getElem?_append_left (by omega)]; simp
          | succ i =>
            rw [List.flatten_cons, List.getElem?_append_right (by omega), hx, show (i + 1) * 9 + j - 9 = i * 9 + j from by omega]
            exact ih i r (fun c hc => hl c (by simp [hc])) (by simpa using hi) j hj
      rw [flat_get css i _ hall hcs j hj9]
      exact hj)
    rwa [Nat.zero_add] at this
/-- An item more. -/
theorem push9 (e t : Nat) (z : Value) (ht : Try.prog.underlying t = some (.slice e)) (hinfo : (Try.prog.info? e).map (fun i => (i.zero, i.size, i.bytes)) = some (some z, 9, 104)) (hz : z.cells.size = 9)
    (base : Nat) (X : Nat → Prop) (v : Value) (L : List It) (x : It) (Aa A : Option Addr) (ca c n : Nat) (hn : n = L.length) (w : World) (h : ItRow e w base X v L) (hl : L.length ≤ 1000000000) (hb : base ≤ w.heap.size) (ha : ArgsS (fun k => some k ≠ v.ownBlock ∧ X k) w (.slice Aa x.xs.length ca) x.xs) (hbd : BodyS (fun k => some k ≠ v.ownBlock ∧ X k) w A x.sub) :
    ∃ q c' w', (Builtin.append_ #[t, t] t #[v, .slice (some ⟨w.heap.size, 0, none⟩) 1 1]).run Try.prog (w.alloc (.cells #[.int .i64 (n : Int), .int .i64 (x.deep : Int), .int .u8 x.k, .int .u8 x.a1, .int .i64 x.a2, .int .u8 x.b1, .int .i64 x.b2, .slice Aa x.xs.length ca, .slice A x.sub.len c] e)) = .ok (.slice (some ⟨q, 0, none⟩) (n + 1) c') w' ∧
      ItRow e w' base X (.slice (some ⟨q, 0, none⟩) (n + 1) c') (L ++ [x]) ∧ w.heap.size ≤ w'.heap.size ∧ (∀ k, k < w.heap.size → some k ≠ v.ownBlock → w'.heap[k]? = w.heap[k]?) ∧ (some q = v.ownBlock ∨ w.heap.size ≤ q) ∧ (∀ B a, Below B a w → B ≤ base → B ≤ w.heap.size → Below B a w') := by
  subst hn
  obtain ⟨i0, hi0, hz0, hz1, hz2⟩ := info_parts hinfo
  obtain ⟨css, h1, h2, h3⟩ := h.own
  obtain ⟨cs, hcs⟩ : ∃ cs : List Value, cs = [.int .i64 (L.length : Int), .int .i64 (x.deep : Int), .int .u8 x.k, .int .u8 x.a1, .int .i64 x.a2, .int .u8 x.b1, .int .i64 x.b2, .slice Aa x.xs.length ca, .slice A x.sub.len c] := ⟨_, rfl⟩
  have hc : ∀ j u, cs[j]? = some u → (w.alloc (.cells cs.toArray e)).cell? ((⟨w.heap.size, 0, none⟩ : Addr).add j) = some u := by
    intro j u hj
    rw [Go.WideShapes.add_plain, cell_of_row _ w.heap.size _ _ e (0, 0) (heap_alloc_new w _), Nat.zero_add]
    simpa using hj
  have hone : ∀ u ∈ cs, u.oneCell' = true := by
    intro u hu; rw [hcs] at hu; simp at hu; rcases hu with rfl | rfl | rfl | rfl | rfl | rfl | rfl | rfl | rfl <;> rfl
  have hlen : cs.length = 1 * 9 := by rw [hcs]; rfl
  obtain ⟨v5, w5, hr5, hO5, hg5, _, hat⟩ := run_append_own_at (P := Try.prog) (w.alloc (.cells cs.toArray e)) base t t e i0 z 9 104 ht hi0 hz0 hz1 hz2 hz (by decide) v L.length _ (h1.alloc _) ⟨w.heap.size, 0, none⟩ 1 1 cs hlen hc hone (by unfold maxLen; omega) (by omega) (by simp; omega)
  obtain ⟨q5, c5, rfl⟩ : ∃ q5 c5, v5 = .slice (some ⟨q5, 0, none⟩) (L.length + 1) c5 := by
    rcases hO5.2 with ⟨_, h1⟩ | ⟨k, cap, cur, hv, _⟩
    · omega
    · exact ⟨k, cap, hv⟩
  have hq : some q5 = v.ownBlock ∨ w.heap.size + 1 = q5 := by
    rcases hat with h | h
    · exact .inl h
    · refine .inr ?_
      have : some q5 = some (w.heap.size + 1) := by rw [show (some q5 : Option Nat) = (Value.slice (some ⟨q5, 0, none⟩) (L.length + 1) c5).ownBlock from rfl, h]; simp
      injection this with this; exact this.symm
  have hsz := hg5.size
  have hkeep : ∀ k, k < w.heap.size → some k ≠ v.ownBlock → w5.heap[k]? = w.heap[k]? := fun k hk hne => by rw [hg5.block k (by simp; omega) hne, heap_alloc_old _ _ hk]
  have hX : ∀ k, (some k ≠ v.ownBlock ∧ X k) → k < w.heap.size → (some k ≠ (Value.slice (some ⟨q5, 0, none⟩) (L.length + 1) c5).ownBlock ∧ X k) := fun k hk hlt => ⟨fun e0 => by
    have e1 : k = q5 := by simpa [Value.ownBlock] using e0
    subst e1
    rcases hq with h | h
    · exact hk.1 h
    · omega, hk.2⟩
  have hK : Kept (fun k => some k ≠ v.ownBlock ∧ X k) w w5 := fun k hk hlt => hkeep k hlt hk.1
  refine ⟨q5, c5, w5, by rw [hcs] at hr5; exact hr5, ⟨css ++ [cs], ?_, by simp [h2], fun i hi => ?_⟩, by simp at hsz; omega, hkeep, ?_, fun B a hBa hB1 hB2 => ?_⟩
  · rw [show (L ++ [x]).length = L.length + 1 from by simp, List.flatten_append]
    simpa using hO5
  · by_cases hi' : i < L.length
    · obtain ⟨c1, e1, hf⟩ := h3 i hi'
      refine ⟨c1, by rw [List.getElem?_append_left (by omega)]; exact e1, ?_⟩
      rw [List.getElem_append_left hi']
      exact hf.kept hK hX
    · have hi2 : i = L.length := by simp at hi; omega
      subst hi2
      refine ⟨cs, by rw [List.getElem?_append_right (by omega), h2]; simp, ?_⟩
      have e1 : (L ++ [x])[L.length] = x := by simp
      rw [e1]
      exact ⟨Aa, ca, A, c, hcs, ha.kept hK hX, hbd.kept hK hX⟩
  · rcases hq with h | h
    · exact .inl h
    · exact .inr (by omega)
  · exact (hBa.alloc hB2 _).grown hg5 (by simp; omega) (fun k hk => Nat.le_trans hB1 (h.blk k hk.symm).1)
end Go.Proofs.Ytpdebnecfknohaa
namespace Go.Proofs.Ytpdebnecfknohaa
open Go.RowKit
set_option linter.unusedVariables false
set_option linter.unusedSimpArgs false
set_option maxRecDepth 20000
/-- Has a call as many arguments as it may have, of functions with so many parameters? -/
def arityF (L : List Fn) (k b1 b2 : Int) (n : Nat) : Bool := if 6 < n then false else (k != 5 || b1 != 3) || decide ((n : Int) = ((L[b2.toNat]?).map Fn.params).getD 0)
set_option maxHeartbeats 1000000 in
theorem arity_any (As Ag Af Ae Aa Asub : Option Addr) (ls cs ng cg cf ne ce ca lsub csub : Nat) (L : List Fn) (k a1 a2 b1 b2 : Int) (na : Nat) (w : World) (hF : FnsS (fun _ => True) w Af L) (hb : k = 5 → b1 = 3 → 0 ≤ b2 ∧ b2 < L.length) :
    Calls Try.prog 69 #[.agg #[.slice As ls cs, .slice Ag ng cg, .slice Af L.length cf, .slice Ae ne ce], .agg #[.int .u8 k, .int .u8 a1, .int .i64 a2, .int .u8 b1, .int .i64 b2, .slice Aa na ca, .slice Asub lsub csub]] w (BlB w (arityF L k b1 b2 na)) := by
  obtain ⟨v, hv⟩ : ∃ v, v = arityF L k b1 b2 na := ⟨_, rfl⟩
  rw [← hv]
  unfold arityF at hv
  have HF := Lib.hid hF
  obtain ⟨nf, hnf⟩ : ∃ n, n = L.length := ⟨_, rfl⟩
  have HNF := Lib.hid hnf
  rw [← hnf] at hb ⊢
  clear hF hnf
  obtain ⟨w1, hw1⟩ : ∃ w1, w1 = (w.alloc (.cells #[.slice As ls cs, .slice Ag ng cg, .slice Af nf cf, .slice Ae ne ce] 30)).alloc (.cells #[.int .u8 k, .int .u8 a1, .int .i64 a2, .int .u8 b1, .int .i64 b2, .slice Aa na ca, .slice Asub lsub csub] 50) := ⟨_, rfl⟩
  have HB1 : Hid (Below w.heap.size w w1) := by rw [hw1]; exact ((Below.refl _ _).alloc (Nat.le_refl _) _).alloc (by simp) _
  have K1 : Hid (Blk w1 w.heap.size 30 #[.slice As ls cs, .slice Ag ng cg, .slice Af nf cf, .slice Ae ne ce]) := by rw [hw1]; exact (Blk.new w 30 _).alloc _
  have K2 : Hid (Blk w1 (w.heap.size + 1) 50 #[.int .u8 k, .int .u8 a1, .int .i64 a2, .int .u8 b1, .int .i64 b2, .slice Aa na ca, .slice Asub lsub csub]) := by rw [hw1]; exact Blk.new' _ 50 _ _ (by simp)
  go_enter Try.func69, Try.ntmps69
  go_upto_region 1 with (fail)
  rw [← hw1]
  clear hw1
  obtain ⟨m0, m1, m2, m3⟩ := K1.out.c4
  obtain ⟨s0, s1, s2, s3, s4, s5, s6⟩ := K2.out.c7
  have z1 : w.heap.size < w1.heap.size := K1.out.lt
  have z2 : w.heap.size + 1 < w1.heap.size := K2.out.lt
  by_cases h6 : 6 < na
  · have h6i : (6 : Int) < (na : Int) := by omega
    rw [if_pos h6] at hv
    subst hv
    go_wp2
    go_ret
    exact ⟨rfl, HB1.out⟩
  · have h6i : ¬ (6 : Int) < (na : Int) := by omega
    rw [if_neg h6] at hv
    by_cases h5 : k = 5
    · subst h5
      by_cases h3 : b1 = 3
      · subst h3
        obtain ⟨hb0, hb1⟩ := hb rfl rfl
        obtain ⟨j, rfl⟩ : ∃ j : Nat, b2 = j := ⟨b2.toNat, by omega⟩
        have hjL : j < L.length := by rw [← HNF.out]; omega
        obtain ⟨b, o, rfl, _, hc⟩ := HF.out (by omega)
        obtain ⟨fs, ⟨Al, cl, At, ct, Ab, cb, rfl, _⟩, hcc⟩ := hc j hjL
        have d1 := hcc 1 _ rfl
        have hbl : b < w.heap.size := World.block_lt_of_cell? w _ d1
        have e1 := cell_old HB1.out hbl d1
        have hv2 : v = decide ((na : Int) = L[j].params) := by rw [hv]; simp [hjL]
        generalize L[j].params = ps at *
        clear hv hc hcc d1
        go_wp2_with fail
        go_quiet ((fail))
        go_wp2
        go_ret
        exact ⟨by rw [hv2]; by_cases h : (na : Int) = ps <;> simp [h], HB1.out.trans ((below_dN _ _ _).mono HB1.out.size)⟩
      · have g3 : (b1 == 3) = false := by simpa using h3
        have g3' : (b1 != 3) = true := by simpa using h3
        obtain rfl : v = true := by rw [hv, g3']; rfl
        clear hv hb
        go_wp2_with fail
        go_quiet ((fail))
        go_wp2
        go_ret
        exact ⟨by simp, HB1.out.trans ((below_dN _ _ _).mono HB1.out.size)⟩
    · have g5 : (k == 5) = false := by simpa using h5
      have g5' : (k != 5) = true := by simpa using h5
      obtain rfl : v = true := by rw [hv, g5']; rfl
      clear hv hb
      go_wp2_with fail
      go_quiet ((fail))
      go_wp2
      go_ret
      exact ⟨by simp, HB1.out.trans ((below_dN _ _ _).mono HB1.out.size)⟩
end Go.Proofs.Ytpdebnecfknohaa
