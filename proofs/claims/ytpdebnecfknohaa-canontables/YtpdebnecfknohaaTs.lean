/-
  What the rules on entries, and the functions' names, leave.
-/
import Derived.Test.YtpdebnecfknohaaTr
namespace Go.Proofs.Ytpdebnecfknohaa
open Go.RowKit Go.Maps
set_option linter.unusedVariables false
set_option linter.unusedSimpArgs false
set_option maxRecDepth 20000

theorem law3 : Keyed Try.prog 3 := int_keyed Try.underlying3
/-- The set of these. -/
def setN (l : List Int) : DataW Unit := setOf (.agg []) (l.map (Lit.int .i64))
theorem has_setN (l : List Int) (x : Int) : Maps.has (setN l) (.int .i64 x) = l.contains x := by
  unfold setN
  rw [has_setOf _ _ _ (fun y hy => by obtain ⟨_, _, rfl⟩ := List.mem_map.1 hy; trivial), List.any_map]
  induction l with
  | nil => rfl
  | cons a r ih =>
    rw [List.any_cons, List.contains_cons, ih]
    congr 1
    show decide (IntKind.i64 = IntKind.i64 ∧ a = x) = (x == a)
    by_cases e : a = x
    · subst e; simp
    · have e' : ¬ x = a := fun h => e h.symm
      simp [e, e']
theorem setN_snoc (l : List Int) (x : Int) : setN (l ++ [x]) = (setN l).put (.int .i64 x) (.agg []) := by
  unfold setN
  rw [List.map_append, List.map_singleton, setOf_snoc]
set_option maxHeartbeats 2000000 in
theorem ents_any (As Ag Af Ae : Option Addr) (ls cs ng cg nf cf ce : Nat) (l : List Int) (w : World) (h2 : RdS (fun _ => True) w Ae l.length 1 (intV l)) (hll : l.length ≤ 1000000) (hw : WfI l) :
    Calls Try.prog 61 #[.agg #[.slice As ls cs, .slice Ag ng cg, .slice Af nf cf, .slice Ae l.length ce]] w (InB w (entF nf [] l)) := by
  have hmm := @run_makeMap Try.prog
  obtain ⟨v, hv⟩ : ∃ v, entF nf [] l = v := ⟨_, rfl⟩
  have HV0 : Hid (entF nf (l.take 0) (l.drop 0) = v) := hv
  rw [hv]
  have HR2 := Lib.hid h2
  have HW := Lib.hid hw
  have hwi := fun (n : Int) (wx : World) => within_any n nf wx
  have HWi := Lib.hid hwi
  obtain ⟨ll, hl2⟩ : ∃ ll, ll = l.length := ⟨_, rfl⟩
  have HLL := Lib.hid hl2
  rw [← hl2] at hll ⊢
  clear h2 hw hv hl2 hwi
  have HB0 : Hid (Below w.heap.size w ((w.alloc (.cells #[.slice As ls cs, .slice Ag ng cg, .slice Af nf cf, .slice Ae ll ce] 30)).alloc (.map #[] 0))) := ((Below.refl _ _).alloc (Nat.le_refl _) _).alloc (by simp) _
  have K0 : Hid (Blk ((w.alloc (.cells #[.slice As ls cs, .slice Ag ng cg, .slice Af nf cf, .slice Ae ll ce] 30)).alloc (.map #[] 0)) w.heap.size 30 #[.slice As ls cs, .slice Ag ng cg, .slice Af nf cf, .slice Ae ll ce]) := (Blk.new w 30 _).alloc _
  have M0 : Hid (((w.alloc (.cells #[.slice As ls cs, .slice Ag ng cg, .slice Af nf cf, .slice Ae ll ce] 30)).alloc (.map #[] 0)).ownsMap Try.prog 3 (unitElem (H := Unit)) (w.heap.size + 1) 0 (setN (l.take 0))) := by
    have := World.ownsMap_made (w.alloc (.cells #[.slice As ls cs, .slice Ag ng cg, .slice Af nf cf, .slice Ae ll ce] 30)) Try.prog 3 (unitElem (H := Unit))
    show World.ownsMap _ _ _ _ _ _ _
    rw [show setN (l.take 0) = .map [] from rfl]
    simpa using this
  go_enter Try.func61, Try.ntmps61
  go_wp2_with fail
  go_loopw [12] (fun s wr => ∃ (k : Nat), k ≤ ll ∧ s = .int .i64 (k : Int) ∧ Hid (entF nf (l.take k) (l.drop k) = v) ∧ Hid (wr.ownsMap Try.prog 3 (unitElem (H := Unit)) (w.heap.size + 1) k (setN (l.take k))) ∧ Hid (Below w.heap.size w wr) ∧ Hid (Blk wr w.heap.size 30 #[.slice As ls cs, .slice Ag ng cg, .slice Af nf cf, .slice Ae ll ce])) (fun s _ => ll - (intOf s).toNat)
  case atStart => exact ⟨0, Nat.zero_le _, rfl, HV0, M0, HB0, K0⟩
  case round =>
    clear HV0 M0 HB0 K0
    obtain ⟨k, hk, rfl, hV, hM, hB, hK⟩ := hrel
    by_cases hlt : k < ll
    · have hkl : k < l.length := by rw [← HLL.out]; exact hlt
      have hli : (k : Int) < (ll : Int) := by omega
      obtain ⟨b, o, rfl, _, hc⟩ := HR2.out.2 (by omega)
      have hcell : wr.cell? ⟨b, o + k, none⟩ = some (.int .i64 l[k]) := cell_old hB.out (World.block_lt_of_cell? w ⟨b, o + k, none⟩ (hc k _ (intV_get l k hkl))) (hc k _ (intV_get l k hkl))
      have hbl : b < wr.heap.size := World.block_lt_of_cell? wr ⟨b, o + k, none⟩ hcell
      obtain ⟨n, hn⟩ : ∃ n, n = l[k] := ⟨_, rfl⟩
      have hdr : l.drop k = n :: l.drop (k + 1) := by rw [hn]; exact List.drop_eq_getElem_cons hkl
      have htk : l.take (k + 1) = l.take k ++ [n] := by rw [hn]; exact List.take_succ_eq_append_getElem hkl
      obtain ⟨n1, n2⟩ := HW.out n (by rw [hn]; exact List.getElem_mem hkl)
      rw [← hn] at hcell
      have hV2 := hV.out
      rw [hdr] at hV2
      simp only [entF] at hV2
      have HTK := Lib.hid htk
      have HV2 := Lib.hid hV2
      have hkey : keyOf Try.prog 3 (.int .i64 n) = some (.int .i64 n) := keyOf_int_mk Try.underlying3 (by simp [Lit.wf, show IntKind.i64.min = -9223372036854775808 from by decide, show IntKind.i64.max = 9223372036854775807 from by decide]; omega)
      have HKey := Lib.hid hkey
      clear hc hn hdr htk hV2 hV n1 n2 hkey
      obtain ⟨c0, c1, c2, c3⟩ := hK.out.c4
      have zw : w.heap.size < wr.heap.size := hK.out.lt
      go_wp2_with fail
      refine (HWi.out n _).mono ?_
      rintro e w2 ⟨rfl, hb2⟩
      have HB2 := Lib.hid (hB.out.trans (hb2.mono hB.out.size))
      have HK2 := Lib.hid (hK.out.old hb2)
      have HM2 := Lib.hid (ownsMap_old hM.out hb2)
      clear hb2 c0 c1 c2 c3 zw hcell hbl hM hB hK
      obtain ⟨bw, hbw⟩ : ∃ b, b = withF n nf := ⟨_, rfl⟩
      have hV3 := HV2.out
      rw [← hbw] at hV3 ⊢
      have HV3 := Lib.hid hV3
      clear HV2 hV3 hbw
      cases bw with
      | false =>
        obtain rfl : 5 = v := by simpa using HV3.out
        clear HV3
        go_wp2
        go_ret
        exact ⟨rfl, HB2.out⟩
      | true =>
        have hk9 := HKey.out
        have hhas := has_setN (l.take k) n
        obtain ⟨D, hD⟩ : ∃ D, D = setN (l.take k) := ⟨_, rfl⟩
        have HD := Lib.hid hD
        have HM3 : Hid (w2.ownsMap Try.prog 3 (unitElem (H := Unit)) (w.heap.size + 1) k D) := by rw [hD]; exact HM2.out
        rw [← hD] at hhas
        clear hD HM2
        cases hcon : (l.take k).contains n with
        | true =>
          rw [hcon] at hhas
          obtain rfl : 3 = v := by have := HV3.out; rw [hcon] at this; simpa using this
          clear hcon
          go_wp2_with (first
            | (at_lookup; refine wpList_lookup_own_unit _ rfl _ _ 127 rfl 3 125 law3 Try.underlying127 (zero125 _) (w.heap.size + 1) k _ rfl HM3.out _ _ rfl hk9 ?_)
            | go_in)
          go_ret
          exact ⟨rfl, HB2.out.alloc HB2.out.size _⟩
        | false =>
          rw [hcon] at hhas
          have hV4 : entF nf (l.take (k + 1)) (l.drop (k + 1)) = v := by
            have := HV3.out
            rw [hcon] at this
            rw [HTK.out]
            simpa using this
          have HV4 := Lib.hid hV4
          clear hcon hV4
          go_wp2_with (first
            | (at_lookup; refine wpList_lookup_own_unit _ rfl _ _ 127 rfl 3 125 law3 Try.underlying127 (zero125 _) (w.heap.size + 1) k _ rfl HM3.out _ _ rfl hk9 ?_)
            | (at_mapUpdate; refine wpList_mapUpdate_own _ rfl _ _ _ 127 rfl 3 125 law3 Try.underlying127 (unitElem (H := Unit)) (w.heap.size + 1) k _ rfl (HM3.out.alloc _) (by unfold maxLen; omega) _ _ _ rfl rfl hk9 _ [] unitElem_mk ?_; intro w3 hown3 hgrow3)
            | go_in)
          have HM4 : Hid (w3.ownsMap Try.prog 3 (unitElem (H := Unit)) (w.heap.size + 1) (k + 1) (setN (l.take (k + 1)))) := by
            rw [HTK.out, setN_snoc, ← HD.out]
            exact hown3
          have HB3 : Hid (Below w.heap.size w w3) := (HB2.out.alloc HB2.out.size (.cells #[] 125)).grown hgrow3 (by have := HB2.out.size; simp; omega) (fun j hj => by cases hj; omega)
          have HK3 : Hid (Blk w3 w.heap.size 30 #[.slice As ls cs, .slice Ag ng cg, .slice Af nf cf, .slice (some ⟨b, o, none⟩) ll ce]) := (HK2.out.alloc (.cells #[] 125)).grown hgrow3 (by simp)
          clear hown3 hgrow3
          go_roundw
          case rel => exact ⟨k + 1, by omega, by go_num, HV4, HM4, HB3, HK3⟩
          case measure => simp [intOf]; omega
    · obtain rfl : k = ll := by omega
      have hV2 := hV.out
      rw [List.drop_of_length_le (by rw [← HLL.out]; omega)] at hV2
      obtain rfl : 0 = v := hV2
      obtain ⟨c0, c1, c2, c3⟩ := hK.out.c4
      go_wp2
      go_ret
      exact ⟨rfl, hB.out⟩
/-- The functions' names, in a row of the call's own. -/
def namesL (L : List Fn) : List Int := L.map Fn.name
set_option maxHeartbeats 2000000 in
theorem fnames_any (As Ag Af Ae : Option Addr) (ls cs ng cg cf ne ce : Nat) (L : List Fn) (w : World) (hF : FnsS (fun _ => True) w Af L) (hl : L.length ≤ 1000000) :
    Calls Try.prog 60 #[.agg #[.slice As ls cs, .slice Ag ng cg, .slice Af L.length cf, .slice Ae ne ce]] w (IntsPost w (namesL L)) := by
  have HF := Lib.hid hF
  obtain ⟨nf, hnf⟩ : ∃ n, n = L.length := ⟨_, rfl⟩
  have HNF := Lib.hid hnf
  rw [← hnf] at hl ⊢
  clear hF hnf
  have K0 : Hid (Blk (w.alloc (.cells #[.slice As ls cs, .slice Ag ng cg, .slice Af nf cf, .slice Ae ne ce] 30)) w.heap.size 30 #[.slice As ls cs, .slice Ag ng cg, .slice Af nf cf, .slice Ae ne ce]) := Blk.new w 30 _
  have HB0 : Hid (Below w.heap.size w (w.alloc (.cells #[.slice As ls cs, .slice Ag ng cg, .slice Af nf cf, .slice Ae ne ce] 30))) := (Below.refl _ _).alloc (Nat.le_refl _) _
  go_enter Try.func60, Try.ntmps60
  go_wp2_with fail
  go_loopw [3, 9] (fun s3 s9 wr => ∃ (i : Nat) (A : Option Addr) (c : Nat), i ≤ nf ∧ s9 = .int .i64 (i : Int) ∧ s3 = .slice A i c ∧ Hid (wr.ownsRow w.heap.size 3 1 (.slice A i c) i (intV ((namesL L).take i))) ∧ Hid (Below w.heap.size w wr)) (fun _ s9 _ => nf - (intOf s9).toNat)
  case atStart => exact ⟨0, none, 0, Nat.zero_le _, rfl, rfl, World.ownsRow_nil _ _ _ _, HB0⟩
  case round =>
    clear K0 HB0
    obtain ⟨i, A, c, hi, rfl, rfl, hO, hB⟩ := hrel
    by_cases hlt : i < nf
    · have hiL : i < L.length := by rw [← HNF.out]; exact hlt
      have hli : (i : Int) < (nf : Int) := by omega
      obtain ⟨b, o, rfl, _, hc⟩ := HF.out (by omega)
      obtain ⟨fs, ⟨Al, cl, At, ct, Ab, cb, rfl, _⟩, hcc⟩ := hc i hiL
      have d0 := hcc 0 _ rfl
      have hbl : b < w.heap.size := World.block_lt_of_cell? w _ d0
      have e0 := cell_old hB.out hbl d0
      have e1 := cell_old hB.out hbl (hcc 1 _ rfl)
      have e2 := cell_old hB.out hbl (hcc 2 _ rfl)
      have e3 := cell_old hB.out hbl (hcc 3 _ rfl)
      have e4 := cell_old hB.out hbl (hcc 4 _ rfl)
      simp only [Nat.add_zero] at e0
      have htk : (namesL L).take (i + 1) = (namesL L).take i ++ [L[i].name] := by
        have : i < (namesL L).length := by simp [namesL, hiL]
        rw [List.take_succ_eq_append_getElem this]
        simp [namesL]
      have hlt2 : ((namesL L).take i).length = i := by simp [namesL]; omega
      generalize L[i] = f at *
      obtain ⟨fn, fp, fl, ft, fb⟩ := f
      dsimp only at *
      obtain ⟨ll, hll⟩ : ∃ n, n = fl.length := ⟨_, rfl⟩
      obtain ⟨lt, hlt3⟩ : ∃ n, n = ft.length := ⟨_, rfl⟩
      obtain ⟨lb, hlb⟩ : ∃ n, n = fb.len := ⟨_, rfl⟩
      rw [← hll] at e2
      rw [← hlt3] at e3
      rw [← hlb] at e4
      have HTK := Lib.hid htk
      have HBA : Hid (Below w.heap.size w (wr.alloc (.cells #[.int .i64 fn, .int .i64 fp, .slice Al ll cl, .slice At lt ct, .slice Ab lb cb] 40))) := hB.out.alloc hB.out.size _
      have hO2 := hO.out.alloc (.cells #[.int .i64 fn, .int .i64 fp, .slice Al ll cl, .slice At lt ct, .slice Ab lb cb] 40)
      have hp := push1 w.heap.size (.slice A i c) ((namesL L).take i) fn (wr.alloc (.cells #[.int .i64 fn, .int .i64 fp, .slice Al ll cl, .slice At lt ct, .slice Ab lb cb] 40)) (by rw [hlt2]; exact hO2) (by rw [hlt2]; omega) HBA.out.size
      rw [hlt2] at hp
      obtain ⟨q5, c5, w5, hr5, hO5, hg5, _⟩ := hp
      have HO5 : Hid (w5.ownsRow w.heap.size 3 1 (.slice (some ⟨q5, 0, none⟩) (i + 1) c5) (i + 1) (intV ((namesL L).take (i + 1)))) := by
        show World.ownsRow _ _ _ _ _ _ _
        rw [htk]
        rw [show ((namesL L).take i ++ [fn]).length = i + 1 from by rw [List.length_append, hlt2]; rfl] at hO5
        exact hO5
      have HB5 : Hid (Below w.heap.size w w5) := (HBA.out.alloc HBA.out.size _).grown hg5 (by have := HBA.out.size; simp at this ⊢; omega) (fun k hk => (hO2.lt k hk).1)
      simp only [alloc_sizeM] at hr5
      clear hc hcc d0 htk hlt2 hll hlt3 hlb hO2 hO5 hg5
      go_upto_region 5 with (fail)
      go_wp2_with (at_builtin; refine Lib.wpList_append_run _ rfl _ _ 27 27 rfl _ _ rfl rfl _ _ hr5 ?_)
      go_roundw
      case rel => exact ⟨i + 1, _, _, by omega, by go_num, rfl, HO5, HB5⟩
      case measure => simp [intOf]; omega
    · obtain rfl : i = nf := by omega
      have hO2 := hO.out
      rw [List.take_of_length_le (by simp [namesL]; have := HNF.out; omega)] at hO2
      have HO2 := Lib.hid hO2
      have hlen : (namesL L).length = i := by simp [namesL]; exact HNF.out.symm
      have HLen := Lib.hid hlen
      clear hO2 hlen hO
      go_wp2
      go_ret
      exact ⟨A, c, by rw [HLen.out]; rfl, by rw [HLen.out]; exact HO2.out, hB.out⟩
end Go.Proofs.Ytpdebnecfknohaa
