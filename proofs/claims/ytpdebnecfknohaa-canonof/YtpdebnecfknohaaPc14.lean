/-
  Parts: Xv Dp.
-/
import Derived.Test.YtpdebnecfknohaaPc00
import Derived.Test.YtpdebnecfknohaaPc01
import Derived.Test.YtpdebnecfknohaaPc02
import Derived.Test.YtpdebnecfknohaaPc03
import Derived.Test.YtpdebnecfknohaaPc04
import Derived.Test.YtpdebnecfknohaaPc05
import Derived.Test.YtpdebnecfknohaaPc06
import Derived.Test.YtpdebnecfknohaaPc07
import Derived.Test.YtpdebnecfknohaaPc08
import Derived.Test.YtpdebnecfknohaaPc09
import Derived.Test.YtpdebnecfknohaaPc10
import Derived.Test.YtpdebnecfknohaaPc11
import Derived.Test.YtpdebnecfknohaaPc12
import Derived.Test.YtpdebnecfknohaaPc13
import Derived.Deep.DeepCutAuto
import Derived.Deep.CutBlock
import Derived.Deep.RegionWith
import Derived.Deep.RegionLaw
namespace Go.Proofs.Ytpdebnecfknohaa
open Go.RowKit
set_option linter.unusedVariables false
set_option linter.unusedSimpArgs false
set_option maxRecDepth 20000
/-- Strings turned about. -/
def rotF (l : List (List UInt8)) (k i : Nat) : List (List UInt8) := (List.range i).map fun j => l.getD ((j + k) % l.length) []
def shufM (M : Md) (tu : Nat) (more : List (List UInt8)) : Md := renM (turnF M.strs.length (tu % M.strs.length) more.length) (more ++ rotF M.strs (tu % M.strs.length) M.strs.length) M
theorem rot_len (l : List (List UInt8)) (k i : Nat) : (rotF l k i).length = i := by simp [rotF]
theorem rot_succ (l : List (List UInt8)) (k i : Nat) : rotF l k (i + 1) = rotF l k i ++ [l.getD ((i + k) % l.length) []] := by
  unfold rotF
  rw [List.range_succ, List.map_append]; rfl
theorem turn_range (n k m : Nat) (i : Int) (hk : k < n) : (m : Int) ≤ turnF n k m i ∧ turnF n k m i < (m + n : Nat) := by
  unfold turnF
  have h2 : 0 ≤ (i - (k : Int) + (n : Int)) % (n : Int) := Int.emod_nonneg _ (by omega)
  have h3 : (i - (k : Int) + (n : Int)) % (n : Int) < (n : Int) := Int.emod_lt_of_pos _ (by omega)
  omega
theorem shuf_same (M : Md) (tu : Nat) (more : List (List UInt8)) (hp : 0 < M.strs.length) (hr : ∀ n ∈ usedI M.globs M.funcs M.funcs.length, 0 ≤ n ∧ n < (M.strs.length : Int)) : SameN (turnF M.strs.length (tu % M.strs.length) more.length) (more ++ rotF M.strs (tu % M.strs.length) M.strs.length) M := fun n hn => by
  obtain ⟨k, hk⟩ : ∃ k, k = tu % M.strs.length := ⟨_, rfl⟩
  have hkl : k < M.strs.length := by rw [hk]; exact Nat.mod_lt _ hp
  have h1 := hr n hn
  rw [← hk]
  obtain ⟨i, rfl⟩ : ∃ i : Nat, n = (i : Int) := ⟨n.toNat, by omega⟩
  have hi : i < M.strs.length := by omega
  obtain ⟨j, hj⟩ : ∃ j, j = (i + (M.strs.length - k)) % M.strs.length := ⟨_, rfl⟩
  have hjl : j < M.strs.length := by rw [hj]; exact Nat.mod_lt _ hp
  have e1 : turnF M.strs.length k more.length (i : Int) = ((more.length + j : Nat) : Int) := by
    unfold turnF
    have : (i : Int) - (k : Int) + (M.strs.length : Int) = ((i + (M.strs.length - k) : Nat) : Int) := by omega
    rw [this, hj]
    push_cast
    rfl
  have e2 : (j + k) % M.strs.length = i := by
    rw [hj, Nat.mod_add_mod, show i + (M.strs.length - k) + k = i + M.strs.length from by omega, Nat.add_mod_right, Nat.mod_eq_of_lt hi]
  rw [e1, strF_in _ _ ⟨by omega, by rw [List.length_append, rot_len]; omega⟩, strF_in _ _ h1]
  simp only [Int.toNat_natCast]
  rw [List.getD_eq_getElem?_getD, List.getElem?_append_right (by omega), show more.length + j - more.length = j from by omega]
  simp [rotF, hjl, e2, List.getD_eq_getElem?_getD]
theorem shuf_can (M : Md) (tu : Nat) (more : List (List UInt8)) (hp : 0 < M.strs.length) (hr : ∀ n ∈ usedI M.globs M.funcs M.funcs.length, 0 ≤ n ∧ n < (M.strs.length : Int)) : canM (shufM M tu more) = canM M :=
  can_ren _ _ M (shuf_same M tu more hp hr) hr (fun n hn => by
    have := turn_range M.strs.length (tu % M.strs.length) more.length n (Nat.mod_lt _ hp)
    rw [List.length_append, rot_len]
    omega)
theorem append_none_anyS {base n c : Nat} {v : Value} {xs : List Value} {w : World} (hown : w.ownsRow base 9 1 v n xs) : (Builtin.append_ #[26, 26] 26 #[v, .slice none 0 c]).run Try.prog w = .ok v w := by
  obtain ⟨i0, hi0, hz0, hz1, hz2⟩ := info_parts info9
  rcases hown.2 with ⟨rfl, rfl⟩ | ⟨g, cap, cur, rfl, _, _, hnc, _⟩
  · simp [Builtin.append_, run_underlying Try.underlying26, sizeOf, typeInfo, hi0, Builtin.lenOf, Builtin.firstCells]
  · simp [Builtin.append_, run_underlying Try.underlying26, sizeOf, typeInfo, hi0, Builtin.lenOf, Builtin.firstCells, hnc, storeCells]
/-- Strings that are read, behind a row of strings. -/
theorem pushSs {base n m c : Nat} {v : Value} {l xs : List (List UInt8)} {A : Option Addr} {w : World} (hn : n = l.length) (hm : m = xs.length) (h : w.ownsRow base 9 1 v n (strV l)) (hr : RdS (fun _ => True) w A m 1 (strV xs)) (hl : n ≤ 100000000) (hx : m ≤ 1000000) (hb : base ≤ w.heap.size) :
    ∃ A' c' w', (Builtin.append_ #[26, 26] 26 #[v, .slice A m c]).run Try.prog w = .ok (.slice A' (n + m) c') w' ∧ w'.ownsRow base 9 1 (.slice A' (n + m) c') (n + m) (strV (l ++ xs)) ∧ w.grownBy w' v.ownBlock := by
  obtain ⟨i0, hi0, hz0, hz1, hz2⟩ := info_parts info9
  cases A with
  | none =>
    have h0 : m = 0 := by
      rcases Nat.eq_zero_or_pos m with h0 | h0
      · exact h0
      · obtain ⟨b, o, hA, _⟩ := hr.2 h0; cases hA
    subst h0
    have hxs : xs = [] := List.eq_nil_of_length_eq_zero hm.symm
    subst hxs
    obtain ⟨A', c', rfl⟩ := own_slice h
    exact ⟨A', c', w, append_none_anyS h, by simpa using h, World.grownBy.refl _ _⟩
  | some a =>
    have hc : ∀ j u, (strV xs)[j]? = some u → w.cell? (a.add j) = some u := by
      intro j u hu
      have hp : 0 < m := by
        rcases Nat.eq_zero_or_pos m with h0 | h0
        · have : xs = [] := List.eq_nil_of_length_eq_zero (by omega)
          subst this; simp [strV] at hu
        · exact h0
      obtain ⟨b, o, hA, _, hc⟩ := hr.2 hp
      injection hA with hA
      subst hA
      rw [Go.WideShapes.add_plain]
      exact hc j u hu
    obtain ⟨v5, w5, hr5, hO5, hg5, _, _⟩ := run_append_own_at (P := Try.prog) w base 26 26 9 i0 (.string ⟨#[]⟩) 1 16 Try.underlying26 hi0 hz0 hz1 hz2 rfl (by decide) v n _ h a m c (strV xs) hr.1 hc (by intro u hu; simp [strV] at hu; obtain ⟨x, _, rfl⟩ := hu; rfl) (by unfold maxLen; omega) (by omega) hb
    obtain ⟨A', c', rfl⟩ := own_slice hO5
    exact ⟨A', c', w5, hr5, by rw [show strV (l ++ xs) = strV l ++ strV xs from by simp [strV]]; exact hO5, hg5⟩
/-- What shuffled leaves: a module that is read. -/
def ShB (w : World) (N : Md) (Ae : Option Addr) (ce : Nat) (e : Ending) (w' : World) : Prop :=
  ∃ A1 c1 A2 c2 A3 c3, e = .returned (.agg #[.slice A1 N.strs.length c1, .slice A2 N.globs.length c2, .slice A3 N.funcs.length c3, .slice Ae N.ents.length ce]) ∧ MdR w' A1 A2 A3 Ae N ∧ Below w.heap.size w w'
set_option maxHeartbeats 8000000 in
theorem shuf_any (M : Md) (As Ag Af Ae Am : Option Addr) (cs cg cf ce cm tu : Nat) (more : List (List UInt8)) (w : World) (htu : tu < 256) (hp : 0 < M.strs.length) (hs : M.strs.length ≤ 10000) (hg : M.globs.length ≤ 1000) (hf : M.funcs.length ≤ 1000) (hfl : ∀ f ∈ M.funcs, f.locals.length ≤ 1000 ∧ f.sites.length ≤ 1000)
    (hr : ∀ n ∈ usedI M.globs M.funcs M.funcs.length, 0 ≤ n ∧ n < (M.strs.length : Int)) (hmo : more.length ≤ 1000) (h : MdR w As Ag Af Ae M) (h2 : RdS (fun _ => True) w Am more.length 1 (strV more)) :
    Calls Try.prog 27 #[.agg #[.slice As M.strs.length cs, .slice Ag M.globs.length cg, .slice Af M.funcs.length cf, .slice Ae M.ents.length ce], .int .u8 (tu : Int), .slice Am more.length cm] w (ShB w (shufM M tu more) Ae ce) := by
  unfold shufM
  obtain ⟨k, hk⟩ : ∃ k, k = tu % M.strs.length := ⟨_, rfl⟩
  have hkn : k < M.strs.length := by rw [hk]; exact Nat.mod_lt _ hp
  rw [← hk]
  have HS := Lib.hid h.strs
  have HM := Lib.hid h2
  have HE := Lib.hid h.ents
  have HF := Lib.hid h.funcs
  have HTg := Lib.hid (fun wx (hx : Below w.heap.size w wx) => turns_any M.strs.length k more.length M.globs Ag cg wx (by omega) hkn (by omega) (h.globs.old hx (by omega)) (by omega) (fun i hi => hr i (used_glob hi)))
  have HTl := Lib.hid (fun (f : Fn) (hf : f ∈ M.funcs) (l : List Int) (hl : l = f.locals ∨ l = f.sites) wx A c (hx : RdS (fun _ => True) wx A l.length 1 (intV l)) => turns_any M.strs.length k more.length l A c wx (by omega) hkn (by omega) hx (by have := hfl f hf; rcases hl with rfl | rfl <;> omega) (fun i hi => hr i (used_fn hf (by rcases hl with rfl | rfl <;> simp [hi]))))
  have HT1 := Lib.hid (fun (f : Fn) (hf : f ∈ M.funcs) wx => turn_any M.strs.length k more.length f.name wx (by omega) hkn (by omega) (hr _ (used_fn hf (by simp))))
  obtain ⟨ns, hns⟩ : ∃ n, n = M.strs.length := ⟨_, rfl⟩
  obtain ⟨ng, hng⟩ : ∃ n, n = M.globs.length := ⟨_, rfl⟩
  obtain ⟨nf, hnf⟩ : ∃ n, n = M.funcs.length := ⟨_, rfl⟩
  obtain ⟨ne, hne⟩ : ∃ n, n = M.ents.length := ⟨_, rfl⟩
  obtain ⟨nm, hnm⟩ : ∃ n, n = more.length := ⟨_, rfl⟩
  have HL : Hid (ns = M.strs.length ∧ ng = M.globs.length ∧ nf = M.funcs.length ∧ ne = M.ents.length ∧ nm = more.length) := ⟨hns, hng, hnf, hne, hnm⟩
  rw [← hns] at hp hs hk hkn
  rw [← hng] at hg
  rw [← hnf] at hf
  rw [← hnm] at hmo
  simp only [← hns, ← hng, ← hnf, ← hne, ← hnm] at HTg HTl HT1 HS HM HE ⊢
  clear hns hng hnf hne hnm h h2 hr hfl
  have hk2 : (tu : Int) % (ns : Int) = (k : Int) := by rw [hk]; omega
  clear hk
  generalize hF : turnF ns k nm = F at *
  clear hF
  have hn0 : ¬ (ns : Int) = 0 := by omega
  have hn1 : ¬ ns = 0 := by omega
  obtain ⟨w1, hw1⟩ : ∃ w1, w1 = (w.alloc (.cells #[.slice As ns cs, .slice Ag ng cg, .slice Af nf cf, .slice Ae ne ce] 30)).alloc (.cells #[.slice none 0 0, .slice none 0 0, .slice none 0 0, .slice none 0 0] 30) := ⟨_, rfl⟩
  have HB1 : Hid (Below w.heap.size w w1) := by rw [hw1]; exact ((Below.refl _ _).alloc (Nat.le_refl _) _).alloc (by simp) _
  have KM : Hid (Blk w1 w.heap.size 30 #[.slice As ns cs, .slice Ag ng cg, .slice Af nf cf, .slice Ae ne ce]) := by rw [hw1]; exact (Blk.new w 30 _).alloc _
  have KR : Hid (Blk w1 (w.heap.size + 1) 30 #[.slice none 0 0, .slice none 0 0, .slice none 0 0, .slice none 0 0]) := by rw [hw1]; exact Blk.new' _ 30 _ _ (by simp)
  go_enter Try.func27, Try.ntmps27
  go_upto_region 1 with (fail)
  rw [← hw1]
  clear hw1
  obtain ⟨gm, hgm⟩ : ∃ g, g = w.heap.size := ⟨_, rfl⟩
  obtain ⟨ga, hga⟩ : ∃ g, g = gm + 1 := ⟨_, rfl⟩
  have HGG : Hid (gm = w.heap.size ∧ ga = w.heap.size + 1) := ⟨hgm, by omega⟩
  rw [← hgm] at KM
  rw [← hgm, ← hga] at KR
  simp only [← hgm, ← hga]
  clear hgm hga
  obtain ⟨m0, m1, m2, m3⟩ := KM.out.c4
  have z1 : gm < w1.heap.size := KM.out.lt
  obtain ⟨A2, c2, w2, hr2, hO2, hg2⟩ := pushSs (base := w1.heap.size) (n := 0) (m := nm) (c := cm) (v := .slice none 0 0) (l := []) (xs := more) (A := Am) (w := w1) rfl HL.out.2.2.2.2 (World.ownsRow_nil _ _ _ _) (HM.out.old HB1.out (by omega)) (by omega) (by omega) (Nat.le_refl _)
  rw [Nat.zero_add] at hr2 hO2
  rw [List.nil_append] at hO2
  have HO2 := Lib.hid hO2
  have HB2 : Hid (Below w1.heap.size w1 w2) := (Below.refl _ _).grown hg2 (Nat.le_refl _) (fun k hk => by simp [Value.ownBlock] at hk)
  clear hO2 hg2
  go_wp2_with (at_builtin; refine Lib.wpList_append_run _ rfl _ _ 26 26 rfl _ _ rfl rfl _ _ hr2 ?_)
  go_loopw [9, 10] (fun s9 s10 wr => ∃ (i : Nat) (A : Option Addr) (c : Nat), i ≤ ns ∧ s10 = .int .i64 (i : Int) ∧ s9 = .slice A (nm + i) c ∧ Hid (wr.ownsRow w1.heap.size 9 1 (.slice A (nm + i) c) (nm + i) (strV (more ++ rotF M.strs k i))) ∧ Hid (Below w1.heap.size w1 wr)) (fun _ s10 _ => ns - (intOf s10).toNat)
  case atStart => exact ⟨0, A2, c2, Nat.zero_le _, rfl, rfl, (by show w2.ownsRow _ _ _ _ _ _; have := HO2.out; simpa [rotF] using this), HB2⟩
  case round =>
    obtain ⟨i, A, c, hi, rfl, rfl, hO, hB⟩ := hrel
    have KMr := Lib.hid (KM.out.old hB.out)
    have HBr := Lib.hid (HB1.out.trans (hB.out.mono HB1.out.size))
    obtain ⟨m0, m1, m2, m3⟩ := KMr.out.c4
    have zr : gm < wr.heap.size := KMr.out.lt
    by_cases hlt : i < ns
    · obtain ⟨j, hj⟩ : ∃ j, j = (i + k) % ns := ⟨_, rfl⟩
      have hjn : j < ns := by rw [hj]; exact Nat.mod_lt _ hp
      have hji : ((i : Int) + (k : Int)) % (ns : Int) = (j : Int) := by rw [hj]; push_cast; rfl
      have hwa : IntKind.i64.wrap ((i : Int) + (k : Int)) = (i : Int) + (k : Int) := by rw [IntWalk.i64_in _ (by omega)]
      have hji2 : ((i : Int) + (k : Int)).tmod (ns : Int) = (j : Int) := by rw [Int.tmod_eq_emod_of_nonneg (by omega)]; exact hji
      have hjl : j < M.strs.length := by have := HL.out.1; omega
      have HR1 : Hid (rotF M.strs k (i + 1) = rotF M.strs k i ++ [M.strs[j]]) := by
        show _ = _
        rw [rot_succ, ← HL.out.1, ← hj]
        simp [List.getD_eq_getElem?_getD, hjl]
      obtain ⟨b, o, rfl, _, d⟩ := HS.out.2 (by omega)
      have c3 := cell_old HBr.out (World.block_lt_of_cell? w ⟨b, o + j, none⟩ (d j _ (strV_get M.strs j hjl))) (d j _ (strV_get M.strs j hjl))
      have hbl : b < wr.heap.size := by have := World.block_lt_of_cell? w ⟨b, o + j, none⟩ (d j _ (strV_get M.strs j hjl)); have h3 := HBr.out.size; simp at this; omega
      generalize M.strs[j] = x at *
      clear d hj
      obtain ⟨q5, c5, w5, hr5, hO5, hg5, _⟩ := pushS w1.heap.size (.slice A (nm + i) c) (more ++ rotF M.strs k i) x wr.drew (by rw [show (more ++ rotF M.strs k i).length = nm + i by rw [List.length_append, rot_len]; have := HL.out.2.2.2.2; omega]; exact hO.out) (by rw [List.length_append, rot_len]; have := HL.out.2.2.2.2; omega) hB.out.size
      rw [show (more ++ rotF M.strs k i).length = nm + i by rw [List.length_append, rot_len]; have := HL.out.2.2.2.2; omega] at hr5 hO5
      have HO5 := Lib.hid hO5
      have HB5 : Hid (Below w1.heap.size w1 w5) := ((hB.out.trans (Below.refl _ _).drew).alloc hB.out.size _).grown hg5 (by have := hB.out.size; simp; omega) (fun q hq => (hO.out.lt q hq).1)
      clear hO5 hg5
      go_upto_region 10 with (fail)
      go_region_law (first
        | (refine step_append_run _ (by rfl) _ _ _ (by rfl) _ _ (by rfl) (by rfl) _ _ hr5 ?_))
      all_goals
        try simp only [List.getElem_toArray, List.getElem_cons_succ, List.getElem_cons_zero, Act.put, List.setIfInBounds_toArray, List.set_cons_zero, List.set_cons_succ]
        go_wp2_with fail
        go_roundw
        case rel => exact ⟨i + 1, _, _, by omega, by go_num, rfl, by show w5.ownsRow _ _ _ _ _ _; rw [HR1.out, ← List.append_assoc]; have h9 := HO5.out; rwa [show (more ++ rotF M.strs k i ++ [x]).length = nm + (i + 1) by rw [List.length_append, List.length_append, rot_len]; have := HL.out.2.2.2.2; simp; omega] at h9, HB5⟩
        case measure => simp [intOf]; omega
    · obtain rfl : i = ns := by omega
      have hO1 := hO.out
      have fz0 := KMr.out.frozen 0
      have HX : ∀ q, some q = (Value.slice A (nm + i) c).ownBlock → w1.heap.size ≤ q ∧ q < wr.heap.size := fun q hq => hO1.lt q hq.symm
      have HB3a : Below w.heap.size w (wr.setCell ⟨gm, 0, none⟩ (.slice A (nm + i) c)) := HBr.out.setCell (p := ⟨gm, 0, none⟩) (by show _ ≤ gm; rw [HGG.out.1]; exact Nat.le_refl _) _
      obtain ⟨w3, hw3⟩ : ∃ w3, w3 = (wr.setCell ⟨gm, 0, none⟩ (.slice A (nm + i) c)).alloc (.cells #[.int .i64 (i : Int), .int .i64 (k : Int), .int .i64 (nm : Int)] 99) := ⟨_, rfl⟩
      have HB3 : Hid (Below w.heap.size w w3) := by rw [hw3]; exact HB3a.alloc HB3a.size _
      have KM3 : Hid (Blk w3 gm 30 #[.slice A (nm + i) c, .slice Ag ng cg, .slice Af nf cf, .slice Ae ne ce]) := by rw [hw3]; exact (KMr.out.set_ 0 _).alloc _
      have KR3 : Hid (Blk w3 ga 30 #[.slice none 0 0, .slice none 0 0, .slice none 0 0, .slice none 0 0]) := by rw [hw3]; exact ((KR.out.old hB.out).far (by show ga ≠ gm; have := HGG.out; omega) _).alloc _
      have KP3 : Hid (Blk w3 wr.heap.size 99 #[.int .i64 (i : Int), .int .i64 (k : Int), .int .i64 (nm : Int)]) := by rw [hw3]; exact Blk.new' _ 99 _ _ (by simp)
      have hzm : gm < w1.heap.size := z1
      have HO3 : Hid (w3.ownsRow w1.heap.size 9 1 (.slice A (nm + i) c) (nm + i) (strV (more ++ rotF M.strs k i))) := by
        rw [hw3]
        exact own_blocks hO1 (fun q hq => by rw [heap_alloc_old _ _ (by simp; exact (HX q hq).2), Below.heap_setCell _ _ _ _ (by show q ≠ gm; have := (HX q hq).1; omega)])
      have HZ3 : Hid (w1.heap.size ≤ w3.heap.size ∧ wr.heap.size < w3.heap.size) := ⟨by rw [hw3]; have := hB.out.size; simp; omega, by rw [hw3]; simp⟩
      go_upto_region 13 with (fail)
      rw [← hw3]
      obtain ⟨gp, hgp⟩ : ∃ g, g = wr.heap.size := ⟨_, rfl⟩
      have HGP : Hid (w1.heap.size ≤ gp) := by rw [hgp]; exact hB.out.size
      rw [← hgp] at KP3 HZ3
      try simp only [← hgp]
      clear hw3 HX HB3a hO1 hO fz0 m0 m1 m2 m3 hgp KMr hB HBr zr
      obtain ⟨m0, m1, m2, m3⟩ := KM3.out.c4
      obtain ⟨p0, p1, p2⟩ := KP3.out.c3
      have zm : gm < w3.heap.size := KM3.out.lt
      have zp : gp < w3.heap.size := KP3.out.lt
      go_wp2_with fail
      refine (HTg.out w3 HB3.out).mono ?_
      rintro e w4 ⟨A4, c4, rfl, hO4, hb4⟩
      rw [List.length_map] at hO4
      simp only [List.length_map, ← HL.out.2.1] at hO4 ⊢
      have HB4a : Below w.heap.size w w4 := HB3.out.trans (hb4.mono HB3.out.size)
      have KM4 := KM3.out.old hb4
      have fz1 := KM4.frozen 1
      obtain ⟨n0, n1, n2, n3⟩ := KM4.c4
      have zm4 : gm < w4.heap.size := KM4.lt
      obtain ⟨w5, hw5⟩ : ∃ w5, w5 = w4.setCell ⟨gm, 1, none⟩ (.slice A4 ng c4) := ⟨_, rfl⟩
      have HB5 : Hid (Below w.heap.size w w5) := by rw [hw5]; exact HB4a.setCell (p := ⟨gm, 1, none⟩) (by show _ ≤ gm; rw [HGG.out.1]; exact Nat.le_refl _) _
      have KM5 : Hid (Blk w5 gm 30 #[.slice A (nm + i) c, .slice A4 ng c4, .slice Af nf cf, .slice Ae ne ce]) := by rw [hw5]; exact KM4.set_ 1 _
      have KR5 : Hid (Blk w5 ga 30 #[.slice none 0 0, .slice none 0 0, .slice none 0 0, .slice none 0 0]) := by rw [hw5]; exact (KR3.out.old hb4).far (by show ga ≠ gm; have := HGG.out; omega) _
      have KP5 : Hid (Blk w5 gp 99 #[.int .i64 (i : Int), .int .i64 (k : Int), .int .i64 (nm : Int)]) := by rw [hw5]; exact (KP3.out.old hb4).far (by show gp ≠ gm; have := HGP.out; omega) _
      have HO5 : Hid (w5.ownsRow w1.heap.size 9 1 (.slice A (nm + i) c) (nm + i) (strV (more ++ rotF M.strs k i))) := by
        rw [hw5]
        have h9 := own_old HO3.out hb4
        exact own_blocks h9 (fun q hq => Below.heap_setCell _ _ _ _ (by show q ≠ gm; have := (h9.lt q hq.symm).1; omega))
      have HG5 : Hid (w5.ownsRow w3.heap.size 3 1 (.slice A4 ng c4) ng (intV (M.globs.map F))) := by
        rw [hw5]
        exact own_blocks hO4 (fun q hq => Below.heap_setCell _ _ _ _ (by show q ≠ gm; have := (hO4.lt q hq.symm).1; omega))
      have HZ5 : Hid (w3.heap.size ≤ w5.heap.size ∧ w1.heap.size ≤ w5.heap.size ∧ w1.heap.size ≤ w3.heap.size) := by have h8 := hb4.size; have h9 := HZ3.out; rw [hw5]; exact ⟨by simpa using h8, by simp; omega, h9.1⟩
      go_upto_region 14 with (fail)
      rw [← hw5]
      clear hw5 HB4a KM4 fz1 n0 n1 n2 n3 zm4 m0 m1 m2 m3 p0 p1 p2 zm zp hO4 hb4 KM3 KR3 KP3 HO3 HZ3
      go_wp2_with fail
      go_loopw [12, 13] (fun s12 s13 wr => ∃ (j : Nat) (A : Option Addr) (c : Nat), j ≤ nf ∧ s13 = .int .i64 (j : Int) ∧ s12 = .slice A j c ∧ Hid (FnRow wr w5.heap.size (fun k => k < w.heap.size ∨ w5.heap.size ≤ k) (.slice A j c) ((M.funcs.take j).map (fnG F))) ∧ Hid (Below w5.heap.size w5 wr)) (fun _ s13 _ => nf - (intOf s13).toNat)
      case atStart => exact ⟨0, none, 0, Nat.zero_le _, rfl, rfl, FnRow.nil _ _ _, Below.refl _ _⟩
      case round =>
        obtain ⟨j, Af', cf', hj, rfl, rfl, hR, hB⟩ := hrel
        have KMr := Lib.hid (KM5.out.old hB.out)
        have KPr := Lib.hid (KP5.out.old hB.out)
        have HBr := Lib.hid (HB5.out.trans (hB.out.mono HB5.out.size))
        obtain ⟨m0, m1, m2, m3⟩ := KMr.out.c4
        have zm : gm < wr.heap.size := KMr.out.lt
        by_cases hlt : j < nf
        · have hjl : j < M.funcs.length := by have := HL.out.2.2.1; omega
          obtain ⟨b, o, rfl, _, hc⟩ := HF.out (by omega)
          obtain ⟨cs9, ⟨Al, cl, At, ct, Ab, cb, rfl, r1, r2, r3⟩, hat⟩ := hc j hjl
          have hlb := World.block_lt_of_cell? w ⟨b, o + j * 5 + 0, none⟩ (hat 0 _ rfl)
          have e0 := cell_old HBr.out hlb (hat 0 _ rfl)
          have e1 := cell_old HBr.out hlb (hat 1 _ rfl)
          have e2 := cell_old HBr.out hlb (hat 2 _ rfl)
          have e3 := cell_old HBr.out hlb (hat 3 _ rfl)
          have e4 := cell_old HBr.out hlb (hat 4 _ rfl)
          have hzb : b < wr.heap.size := by have h8 := HBr.out.size; simp at hlb; omega
          have hmem := List.getElem_mem hjl
          have hd1 := fun wx (hx : Below w.heap.size w wx) => HTl.out _ hmem _ (.inl rfl) wx Al cl (r1.old hx (by omega))
          have hd2 := fun wx (hx : Below w.heap.size w wx) => HTl.out _ hmem _ (.inr rfl) wx At ct (r2.old hx (by omega))
          have hd0 := fun wx => HT1.out _ hmem wx
          have HTk : Hid ((M.funcs.take (j + 1)).map (fnG F) = (M.funcs.take j).map (fnG F) ++ [fnG F M.funcs[j]]) := by
            show _ = _
            rw [List.take_succ_eq_append_getElem hjl, List.map_append]; rfl
          simp only [Nat.add_zero] at e0
          clear hat hc hlb r1 r2 hmem
          generalize M.funcs[j] = f at *
          obtain ⟨fn, fp, fl, ft, fb⟩ := f
          dsimp only at *
          obtain ⟨ll, hll⟩ : ∃ n, n = fl.length := ⟨_, rfl⟩
          obtain ⟨lt, hlt'⟩ : ∃ n, n = ft.length := ⟨_, rfl⟩
          obtain ⟨lb, hlb⟩ : ∃ n, n = fb.len := ⟨_, rfl⟩
          have HLL : Hid (ll = fl.length ∧ lt = ft.length ∧ lb = fb.len) := ⟨hll, hlt', hlb⟩
          rw [← hll] at e2 hd1
          rw [← hlt'] at e3 hd2
          rw [← hlb] at e4
          have HD1 := Lib.hid hd1
          have HD2 := Lib.hid hd2
          have HD0 := Lib.hid hd0
          have HR3 := Lib.hid r3
          have KB : Hid (Blk (wr.alloc (.cells #[.int .i64 fn, .int .i64 fp, .slice Al ll cl, .slice At lt ct, .slice Ab lb cb] 40)) wr.heap.size 40 #[.int .i64 fn, .int .i64 fp, .slice Al ll cl, .slice At lt ct, .slice Ab lb cb]) := Blk.new wr 40 _
          have HBA : Hid (Below wr.heap.size wr (wr.alloc (.cells #[.int .i64 fn, .int .i64 fp, .slice Al ll cl, .slice At lt ct, .slice Ab lb cb] 40))) := (Below.refl _ _).alloc (Nat.le_refl _) _
          clear hll hlt' hlb hd1 hd2 hd0 r3
          go_upto_region 19 with (fail)
          obtain ⟨g, hgd⟩ : ∃ g, g = wr.heap.size := ⟨_, rfl⟩
          rw [← hgd] at KB
          try simp only [← hgd]
          generalize wr.alloc (.cells #[.int .i64 fn, .int .i64 fp, .slice Al ll cl, .slice At lt ct, .slice Ab lb cb] 40) = wa at *
          have HGD := Lib.hid hgd
          clear e0 e1 e2 e3 e4 hgd hzb m0 m1 m2 m3 zm
          have HBW : Hid (Below w.heap.size w wa) := HBr.out.trans (HBA.out.mono HBr.out.size)
          have KPa := Lib.hid (KPr.out.old HBA.out)
          obtain ⟨p0, p1, p2⟩ := KPa.out.c3
          have zp : gp < wa.heap.size := KPa.out.lt
          obtain ⟨c0, c1, c2', c3, c4'⟩ := KB.out.c5
          have zg : g < wa.heap.size := KB.out.lt
          go_wp2_with fail
          refine (HD0.out wa).mono ?_
          rintro e w6 ⟨rfl, hb6⟩
          have KB6 := KB.out.old hb6
          obtain ⟨n0, n1, n2, n3, n4⟩ := KB6.c5
          have zg6 : g < w6.heap.size := KB6.lt
          have fz6 := KB6.frozen 0
          obtain ⟨w7, hw7⟩ : ∃ w7, w7 = w6.setCell ⟨g, 0, none⟩ (.int .i64 (F fn)) := ⟨_, rfl⟩
          have HB7 : Hid (Below wr.heap.size wr w7) := by rw [hw7]; exact (HBA.out.trans (hb6.mono HBA.out.size)).setCell (p := ⟨g, 0, none⟩) (by show _ ≤ g; rw [HGD.out]; exact Nat.le_refl _) _
          have KB7 : Hid (Blk w7 g 40 #[.int .i64 (F fn), .int .i64 fp, .slice Al ll cl, .slice At lt ct, .slice Ab lb cb]) := by rw [hw7]; exact KB6.set_ 0 _
          go_upto_region 20 with (fail)
          rw [← hw7]
          clear hw7 KB6 n0 n1 n2 n3 n4 zg6 fz6 hb6 p0 p1 p2 zp c0 c1 c2' c3 c4' zg KPa HBW KB HBA
          have HBW : Hid (Below w.heap.size w w7) := HBr.out.trans (HB7.out.mono HBr.out.size)
          have KPa := Lib.hid (KPr.out.old HB7.out)
          obtain ⟨p0, p1, p2⟩ := KPa.out.c3
          have zp : gp < w7.heap.size := KPa.out.lt
          obtain ⟨c0, c1, c2', c3, c4'⟩ := KB7.out.c5
          have zg : g < w7.heap.size := KB7.out.lt
          go_wp2_with fail
          refine (HD1.out w7 HBW.out).mono ?_
          rintro e w8 ⟨B1, b1, rfl, hP1, hb8⟩
          simp only [List.length_map, ← HLL.out.1] at hP1 ⊢
          have KB8 := KB7.out.old hb8
          obtain ⟨n0, n1, n2, n3, n4⟩ := KB8.c5
          have zg8 : g < w8.heap.size := KB8.lt
          have fz8 := KB8.frozen 2
          obtain ⟨w9, hw9⟩ : ∃ w9, w9 = w8.setCell ⟨g, 2, none⟩ (.slice B1 ll b1) := ⟨_, rfl⟩
          have HB9 : Hid (Below wr.heap.size wr w9) := by rw [hw9]; exact (HB7.out.trans (hb8.mono HB7.out.size)).setCell (p := ⟨g, 2, none⟩) (by show _ ≤ g; rw [HGD.out]; exact Nat.le_refl _) _
          have KB9 : Hid (Blk w9 g 40 #[.int .i64 (F fn), .int .i64 fp, .slice B1 ll b1, .slice At lt ct, .slice Ab lb cb]) := by rw [hw9]; exact KB8.set_ 2 _
          have HP1 : Hid (w9.ownsRow wr.heap.size 3 1 (.slice B1 ll b1) ll (intV (fl.map F))) := by rw [hw9]; exact own_mono (own_blocks hP1 (fun q hq => Below.heap_setCell _ _ _ _ (by show q ≠ g; have := (hP1.lt q hq.symm).1; omega))) HB7.out.size
          go_upto_region 21 with (fail)
          rw [← hw9]
          clear hw9 KB8 n0 n1 n2 n3 n4 zg8 fz8 hb8 p0 p1 p2 zp c0 c1 c2' c3 c4' zg KPa HBW KB7 HB7 hP1
          have HBW : Hid (Below w.heap.size w w9) := HBr.out.trans (HB9.out.mono HBr.out.size)
          have KPa := Lib.hid (KPr.out.old HB9.out)
          obtain ⟨p0, p1, p2⟩ := KPa.out.c3
          have zp : gp < w9.heap.size := KPa.out.lt
          obtain ⟨c0, c1, c2', c3, c4'⟩ := KB9.out.c5
          have zg : g < w9.heap.size := KB9.out.lt
          go_wp2_with fail
          refine (HD2.out w9 HBW.out).mono ?_
          rintro e w10 ⟨B2, b2, rfl, hP2, hb10⟩
          simp only [List.length_map, ← HLL.out.2.1] at hP2 ⊢
          have KB10 := KB9.out.old hb10
          obtain ⟨n0, n1, n2, n3, n4⟩ := KB10.c5
          have zg10 : g < w10.heap.size := KB10.lt
          have fz10 := KB10.frozen 3
          obtain ⟨w11, hw11⟩ : ∃ w11, w11 = w10.setCell ⟨g, 3, none⟩ (.slice B2 lt b2) := ⟨_, rfl⟩
          have HB11 : Hid (Below wr.heap.size wr w11) := by rw [hw11]; exact (HB9.out.trans (hb10.mono HB9.out.size)).setCell (p := ⟨g, 3, none⟩) (by show _ ≤ g; rw [HGD.out]; exact Nat.le_refl _) _
          have KB11 : Hid (Blk w11 g 40 #[.int .i64 (F fn), .int .i64 fp, .slice B1 ll b1, .slice B2 lt b2, .slice Ab lb cb]) := by rw [hw11]; exact KB10.set_ 3 _
          have HP1' : Hid (w11.ownsRow wr.heap.size 3 1 (.slice B1 ll b1) ll (intV (fl.map F))) := by
            rw [hw11]
            have h8 := own_old HP1.out hb10
            exact own_blocks h8 (fun q hq => Below.heap_setCell _ _ _ _ (fun e' => own_ne h8 KB10 (by decide) (by have e2 : q = g := e'; subst e2; exact hq)))
          have HP2 : Hid (w11.ownsRow wr.heap.size 3 1 (.slice B2 lt b2) lt (intV (ft.map F))) := by rw [hw11]; exact own_mono (own_blocks hP2 (fun q hq => Below.heap_setCell _ _ _ _ (by show q ≠ g; have := (hP2.lt q hq.symm).1; omega))) HB9.out.size
          go_upto_region 22 with (fail)
          rw [← hw11]
          clear hw11 KB10 n0 n1 n2 n3 n4 zg10 fz10 hb10 p0 p1 p2 zp c0 c1 c2' c3 c4' zg KPa HBW KB9 HB9 hP2 HP1
          obtain ⟨c0, c1, c2', c3, c4'⟩ := KB11.out.c5
          have zg : g < w11.heap.size := KB11.out.lt
          obtain ⟨q5, c5, w12, hr5, hk5, hq5, hb5, hF5⟩ := can_push (Sb := fun _ => True) (w := w) (wo := w5) (wb := wr) (w4 := w11) (v := .slice Af' j cf') (L := (M.funcs.take j).map (fnG F)) (X := fun k => k < w.heap.size ∨ w5.heap.size ≤ k) (F fn) fp (fl.map F) (ft.map F) fb B1 B2 Ab b1 b2 cb ll lt lb j (by rw [List.length_map]; exact HLL.out.1) (by rw [List.length_map]; exact HLL.out.2.1) HLL.out.2.2 (by rw [List.length_map, List.length_take]; omega)
            HB5.out.size hB.out.size (HBr.out.trans (HB11.out.mono HBr.out.size)) HB11.out hR.out (by omega) HP1'.out HP2.out HR3.out (fun q hq => .inr (Nat.le_trans hB.out.size hq)) (fun q _ hq => .inl hq)
          have HF5 := Lib.hid hF5
          have HB12 : Hid (Below w5.heap.size w5 w12) := (hB.out.trans (HB11.out.mono hB.out.size)).trans (hb5.mono (by have h8 := hB.out.size; have h9 := HB11.out.size; omega))
          clear hk5 hq5 hb5 hF5
          go_wp2_with (at_builtin; refine Lib.wpList_append_run _ rfl _ _ 28 28 rfl _ _ rfl rfl _ _ hr5 ?_)
          go_roundw
          case rel => exact ⟨j + 1, _, _, by omega, by go_num, rfl, by show FnRow _ _ _ _ _; rw [HTk.out]; exact HF5.out, HB12⟩
          case measure => simp [intOf]; omega
        · obtain rfl : j = nf := by omega
          have hR1 := hR.out
          rw [List.take_of_length_le (by have := HL.out.2.2.1; omega)] at hR1
          have KRr := KR5.out.old hB.out
          have fz2 := KMr.out.frozen 2
          obtain ⟨w6, hw6⟩ : ∃ w6, w6 = wr.setCell ⟨gm, 2, none⟩ (.slice Af' j cf') := ⟨_, rfl⟩
          have HB6 : Hid (Below w.heap.size w w6) := by rw [hw6]; exact HBr.out.setCell (p := ⟨gm, 2, none⟩) (by show _ ≤ gm; rw [HGG.out.1]; exact Nat.le_refl _) _
          have KM6 : Hid (Blk w6 gm 30 #[.slice A (nm + i) c, .slice A4 ng c4, .slice Af' j cf', .slice Ae ne ce]) := by rw [hw6]; exact KMr.out.set_ 2 _
          have KR6 : Hid (Blk w6 ga 30 #[.slice none 0 0, .slice none 0 0, .slice none 0 0, .slice none 0 0]) := by rw [hw6]; exact KRr.far (by show ga ≠ gm; have := HGG.out; omega) _
          have hold : ∀ q, q ≠ gm → w6.heap[q]? = wr.heap[q]? := fun q hq => by rw [hw6]; exact Below.heap_setCell _ _ _ _ (by show q ≠ gm; exact hq)
          have HOld := Lib.hid hold
          have HR1 := Lib.hid hR1
          have HZa : Hid (gm < w1.heap.size ∧ ga < w1.heap.size) := ⟨z1, KR.out.lt⟩
          go_upto_region 24 with (fail)
          rw [← hw6]
          clear hw6 fz2 m0 m1 m2 m3 zm hold hR1
          obtain ⟨m0, m1, m2, m3⟩ := KM6.out.c4
          have zm : gm < w6.heap.size := KM6.out.lt
          obtain ⟨a0, a1, a2, a3⟩ := KR6.out.c4
          have za : ga < w6.heap.size := KR6.out.lt
          have f0 := KR6.out.frozen 0
          have f1 := KR6.out.frozen 1
          have f2 := KR6.out.frozen 2
          have f3 := KR6.out.frozen 3
          have kA : Blk ((((w6.setCell ⟨ga, 0, none⟩ (.slice A (nm + i) c)).setCell ⟨ga, 1, none⟩ (.slice A4 ng c4)).setCell ⟨ga, 2, none⟩ (.slice Af' j cf')).setCell ⟨ga, 3, none⟩ (.slice Ae ne ce)) ga 30 #[.slice A (nm + i) c, .slice A4 ng c4, .slice Af' j cf', .slice Ae ne ce] := (((KR6.out.set_ 0 _).set_ 1 _).set_ 2 _).set_ 3 _
          obtain ⟨r0, r1, r2, r3⟩ := kA.c4
          go_wp2_with fail
          refine bodyPost_ret (v := .agg #[.slice A (nm + i) c, .slice A4 ng c4, .slice Af' j cf', .slice Ae ne ce]) (by simp [results, Try.results27, go_sem, r0, r1, r2, r3]) rfl ?_
          have hfar : ∀ q, q ≠ gm → q ≠ ga → ((((w6.setCell ⟨ga, 0, none⟩ (.slice A (nm + i) c)).setCell ⟨ga, 1, none⟩ (.slice A4 ng c4)).setCell ⟨ga, 2, none⟩ (.slice Af' j cf')).setCell ⟨ga, 3, none⟩ (.slice Ae ne ce)).heap[q]? = wr.heap[q]? := fun q h1 h2 => by rw [set4_far _ _ _ _ h2, HOld.out q h1]
          have hbf : Below w.heap.size w ((((w6.setCell ⟨ga, 0, none⟩ (.slice A (nm + i) c)).setCell ⟨ga, 1, none⟩ (.slice A4 ng c4)).setCell ⟨ga, 2, none⟩ (.slice Af' j cf')).setCell ⟨ga, 3, none⟩ (.slice Ae ne ce)) := set4 HB6.out (by have := HGG.out; omega) _ _ _ _
          refine ⟨A, c, A4, c4, Af', cf', ?_, ⟨?_, ?_, ?_, ?_⟩, hbf⟩
          · unfold renM
            dsimp only
            rw [List.length_append, rot_len, List.length_map, List.length_map, ← HL.out.2.2.2.2, ← HL.out.2.1, ← HL.out.2.2.1, ← HL.out.2.2.2.1]
          · have h8 := own_old HO5.out hB.out
            have h9 := own_blocks h8 (fun q hq => hfar q (by have := (h8.lt q hq.symm).1; have := HZa.out; omega) (by have := (h8.lt q hq.symm).1; have := HZa.out; omega))
            have h10 := (RdS.own h9).below (S' := fun _ => True) (fun _ _ => trivial)
            unfold renM
            dsimp only
            rwa [List.length_append, rot_len, ← HL.out.2.2.2.2]
          · have h8 := own_old HG5.out hB.out
            have h9 := own_blocks h8 (fun q hq => hfar q (by have := (h8.lt q hq.symm).1; have := HZa.out; have := HZ5.out; omega) (by have := (h8.lt q hq.symm).1; have := HZa.out; have := HZ5.out; omega))
            have h10 := (RdS.own h9).below (S' := fun _ => True) (fun _ _ => trivial)
            unfold renM
            dsimp only
            rwa [List.length_map, ← HL.out.2.1]
          · exact (HR1.out.kept (X' := fun _ => True) (fun q hq => hfar q (by have := (HR1.out.blk q hq).1; have := HZa.out; have := HZ5.out; omega) (by have := (HR1.out.blk q hq).1; have := HZa.out; have := HZ5.out; omega)) (fun q hq _ => hfar q (by have := HGG.out; have := HZa.out; have := HZ5.out; omega) (by have := HGG.out; have := HZa.out; have := HZ5.out; omega)) (fun _ _ _ => trivial)).fns
          · have h8 := HE.out.old hbf (by omega)
            unfold renM
            dsimp only
            rwa [← HL.out.2.2.2.1]
end Go.Proofs.Ytpdebnecfknohaa
namespace Go.Proofs.Ytpdebnecfknohaa
open Go.RowKit
set_option linter.unusedVariables false
set_option linter.unusedSimpArgs false
set_option maxRecDepth 20000
theorem room_cnt2 : ∀ (t : Bd) (d : Nat) (m : Int), 0 ≤ m → (d : Int) + m ≤ 1000 → (roomF t m < 0 ∧ m < (t.cnt d : Int)) ∨ (roomF t m = m - (t.cnt d : Int) ∧ (t.cnt d : Int) ≤ m)
  | .nil, d, m, h0, h1 => by simp [roomF, Bd.cnt]; omega
  | .cons k a1 a2 b1 b2 xs sub rest, d, m, h0, h1 => by
    have hc : ((Bd.cons k a1 a2 b1 b2 xs sub rest).cnt d : Int) = 1 + (if k = 7 ∧ d < 1000 then (sub.cnt (d + 1) : Int) else 0) + (rest.cnt d : Int) := by
      simp only [Bd.cnt]; split <;> simp <;> omega
    rw [hc]
    simp only [roomF]
    by_cases hm : 0 ≤ m - 1
    · by_cases hk : k = 7
      · rw [if_pos (show 0 ≤ m - 1 ∧ k = 7 from ⟨hm, hk⟩), if_pos (show k = 7 ∧ d < 1000 from ⟨hk, by omega⟩)]
        rcases room_cnt2 sub (d + 1) (m - 1) hm (by omega) with ⟨h2, h3⟩ | ⟨h2, h3⟩
        · rw [if_pos h2]; left; exact ⟨h2, by omega⟩
        · rw [if_neg (by omega)]
          rcases room_cnt2 rest d (roomF sub (m - 1)) (by omega) (by omega) with ⟨h4, h5⟩ | ⟨h4, h5⟩
          · left; exact ⟨h4, by omega⟩
          · right; exact ⟨by omega, by omega⟩
      · rw [if_neg (show ¬ (0 ≤ m - 1 ∧ k = 7) from fun h => hk h.2), if_neg (show ¬ (k = 7 ∧ d < 1000) from fun h => hk h.1)]
        rw [if_neg (by omega)]
        rcases room_cnt2 rest d (m - 1) (by omega) (by omega) with ⟨h4, h5⟩ | ⟨h4, h5⟩
        · left; exact ⟨h4, by omega⟩
        · right; exact ⟨by omega, by omega⟩
    · rw [if_neg (show ¬ (0 ≤ m - 1 ∧ k = 7) from fun h => hm h.1), if_pos (by omega)]
      left
      refine ⟨by omega, ?_⟩
      split <;> omega
theorem room_flat2 (t : Bd) : roomF t 400 < 0 ↔ 400 < (t.flat 0).length := by
  rw [Bd.flat_len]
  rcases room_cnt2 t 0 400 (by omega) (by omega) with ⟨h1, h2⟩ | ⟨h1, h2⟩ <;> omega
/-- A function without its body. -/
def noB (f : Fn) : Fn := ⟨f.name, f.params, f.locals, f.sites, .nil⟩
theorem usedF_noB (g : List Int) (L : List Fn) (n : Int) : usedF g (L.map noB) n = usedF g L n := by
  simp [usedF, List.any_map, Function.comp_def, noB]
theorem canL_noB (g : List Int) (L : List Fn) (S : List (List UInt8)) (i : Nat) : canL g (L.map noB) S i = canL g L S i := by
  induction i with
  | zero => rfl
  | succ i ih => rw [canL, canL, ih, usedF_noB]
theorem mkL_noB (g0 : List (List UInt8)) (F n : Nat) : (mkL g0 F n).map noB = mkL g0 F n := by
  induction n with
  | zero => rfl
  | succ n ih => rw [mkL, List.map_append, ih]; rfl
theorem fillB_noB : ∀ (L : List Fn) (Ts : List (List St7)), Ts.length = L.length → (fillB L Ts).map noB = L.map noB
  | [], _, _ => by simp [fillB]
  | f :: L, [], h => by simp at h
  | f :: L, T :: Ts, h => by
    have := fillB_noB L Ts (by simpa using h)
    simp only [fillB, List.zipWith_cons_cons, List.map_cons] at this ⊢
    rw [this]; rfl
/-- The module without its bodies and entries. -/
def skelM (gs : List (List UInt8)) (gl : List Int) (F n : Nat) : Md := canM ⟨mkS gs F n, gl, mkL gs F n, []⟩
theorem canl_fill (gs : List (List UInt8)) (gl : List Int) (F n : Nat) (Ts : List (List St7)) (En : List Int) (hT : Ts.length = n) : canl ⟨mkS gs F n, gl, fillB (mkL gs F n) Ts, En⟩ = (skelM gs gl F n).strs := by
  unfold skelM canM canl
  dsimp only
  rw [← canL_noB gl (fillB (mkL gs F n) Ts), fillB_noB _ _ (by rw [hT, mkL_len]), canL_noB]
theorem can_fill (gs : List (List UInt8)) (gl : List Int) (F n : Nat) (Ts : List (List St7)) (En : List Int) (hT : Ts.length = n) :
    ∃ L, canM ⟨mkS gs F n, gl, fillB (mkL gs F n) Ts, En⟩ = ⟨(skelM gs gl F n).strs, (skelM gs gl F n).globs, L, En⟩ ∧ L.map noB = (skelM gs gl F n).funcs ∧ ∀ i (hi : i < L.length) (hj : i < Ts.length), L[i].body = bdOf Ts[i] := by
  have hl := canl_fill gs gl F n Ts En hT
  have hlen : Ts.length = (mkL gs F n).length := by rw [hT, mkL_len]
  refine ⟨(fillB (mkL gs F n) Ts).map (canFn (skelM gs gl F n).strs (mkS gs F n)), ?_, ?_, ?_⟩
  · unfold canM
    rw [hl]
    rfl
  · rw [List.map_map, show noB ∘ canFn (skelM gs gl F n).strs (mkS gs F n) = canFn (skelM gs gl F n).strs (mkS gs F n) ∘ noB from rfl, ← List.map_map, fillB_noB _ _ hlen, mkL_noB]
    rfl
  · intro i hi hj
    simp only [List.getElem_map, canFn, fillB, List.getElem_zipWith]
theorem pF_mod (F i : Nat) : pF F i = pF (F % 16) i := by unfold pF; omega
theorem nlF_mod (F i : Nat) : nlF F i = nlF (F % 16) i := by unfold nlF; rw [pF_mod]
theorem mkS_mod (gs : List (List UInt8)) (F n : Nat) : mkS gs F n = mkS gs (F % 16) n := by
  induction n with
  | zero => rfl
  | succ n ih => rw [mkS, mkS, ih, nlF_mod]
theorem mkL_mod (gs : List (List UInt8)) (F n : Nat) : mkL gs F n = mkL gs (F % 16) n := by
  induction n with
  | zero => rfl
  | succ n ih => rw [mkL, mkL, ih, nlF_mod, mkS_mod, pF_mod]
/-- All that is asked of names. -/
def namesOk (C : Md) (ng n F : Nat) : Bool :=
  C.globs.length == ng && C.funcs.length == n && nmF C.strs [] C.globs == 0 && nmF C.strs [] (namesL C.funcs) == 0 && risF C.strs 1 && (markF C.strs.length (usedI C.globs C.funcs C.funcs.length)).all id &&
  (List.range n).all fun i => match C.funcs[i]? with
    | none => false
    | some f => f.locals.length == nlF F i && f.sites.length == nsF i && f.params == (pF F i : Int) && nmF C.strs [] f.locals == 0 && nmF C.strs [] f.sites == 0
set_option maxRecDepth 100000 in
theorem names_all : ∀ s, s < 3 → ∀ g, g < 4 → ∀ F, F < 16 → namesOk (skelM (gnames (1 + s) g) (ints g) F (1 + F % 4)) g (1 + F % 4) F = true := by decide +kernel
theorem entsF_mod (E : Nat) : ∀ n, n ≤ 4 → entsF E n = entsF (E % 16) n := by
  intro n hn
  induction n with
  | zero => rfl
  | succ n ih =>
    rw [entsF, entsF, ih (by omega)]
    have h : E / 2 ^ n % 2 = E % 16 / 2 ^ n % 2 := by
      rcases (show n = 0 ∨ n = 1 ∨ n = 2 ∨ n = 3 by omega) with rfl | rfl | rfl | rfl <;> simp <;> omega
    rw [h]
theorem ents_all : ∀ E, E < 16 → ∀ n, n < 5 → entF n [] (entsF E n) = 0 := by decide +kernel
/-- Whose statement is it? -/
theorem mkT_stm (F ng n na : Nat) (acts : List Ac) (k : Nat) : ∀ i (hi : i < (mkT F ng n na acts k).length), ∀ s ∈ (mkT F ng n na acts k)[i], ∃ K A B C, s = stm (nlF F i) ng n (nsF i) (pF F) K A B C := by
  induction k with
  | zero => intro i hi s hs; simp [mkT] at hs
  | succ k ih =>
    intro i hi s hs
    simp only [mkT] at hs
    rw [List.getElem_set] at hs
    split at hs
    · rename_i hj
      rcases List.mem_append.1 hs with h | h
      · have hjl : i < (mkT F ng n na acts k).length := by simpa [mkT] using hi
        rw [hj, List.getD_eq_getElem?_getD, List.getElem?_eq_getElem hjl] at h
        exact ih i hjl s h
      · simp only [List.mem_singleton] at h
        rw [h, hj]
        exact ⟨_, _, _, _, rfl⟩
    · have hjl : i < (mkT F ng n na acts k).length := by simpa [mkT] using hi
      exact ih i hjl s hs
theorem varF_ok (nl ng nf ns n : Nat) (h : 0 < nl + ng) : varB (varF nl ng n).1 = true ∧ thereF nl ng nf ns (varF nl ng n).1 (varF nl ng n).2 = true := by
  have hlt : n % (nl + ng) < nl + ng := Nat.mod_lt _ h
  unfold varF
  generalize n % (nl + ng) = m at *
  split
  · rename_i h1
    simp [varB, thereF, withF]
    omega
  · rename_i h1
    simp [varB, thereF, withF]
    omega
theorem there0 (nl ng nf ns : Nat) : thereF nl ng nf ns 0 0 = true := by simp [thereF]
theorem obj_of_var {k : Int} (h : varB k = true) : objB k = true := by simp [objB, h]
/-- The item of a statement. -/
def St7.it (s : St7) (d : Nat) : It := ⟨d, s.k, s.a.1, s.a.2, s.b.1, s.b.2, s.xs, s.sub⟩
theorem args_ok (nl ng nf ns A C : Nat) (h : 0 < nl + ng) (n : Nat) : allVar ((List.range n).map fun i => varF nl ng ((A + C + i) % 256)) = true ∧ (((List.range n).map fun i => varF nl ng ((A + C + i) % 256)).all fun x => thereF nl ng nf ns x.1 x.2) = true := by
  simp only [allVar, List.all_map, List.all_eq_true, Function.comp_apply]
  exact ⟨fun x _ => (varF_ok nl ng nf ns _ h).1, fun x _ => (varF_ok nl ng nf ns _ h).2⟩
theorem stmtF_zero {L : List Fn} {nl ng ns : Nat} {x : It} (h1 : x.deep ≤ 8) (h2 : kindF x.k x.a1 x.a2 x.b1 x.b2 x.xs x.sub.len = true) (h3 : refsF nl ng L.length ns x.a1 x.a2 x.b1 x.b2 x.xs = true) (h4 : arityF L x.k x.b1 x.b2 x.xs.length = true) : stmtF L nl ng ns x = 0 := by
  unfold stmtF
  rw [if_neg (by omega), h2, h3, h4]
  simp
theorem stm0_ok (L : List Fn) (nl ng ns : Nat) (par : Nat → Nat) (K A B C d : Nat) (hd : d ≤ 8) (hl : 0 < nl + ng) (hs : 0 < ns) (hf : 0 < L.length) (hp : ∀ j (hj : j < L.length), L[j].params = (par j : Int)) (h3 : ∀ j, par j ≤ 3) : stmtF L nl ng ns ((stm0 nl ng L.length ns par K A B C).it d) = 0 ∧ (stm0 nl ng L.length ns par K A B C).k ≠ 7 := by
  obtain ⟨a1, a2⟩ := varF_ok nl ng L.length ns A hl
  obtain ⟨b1, b2⟩ := varF_ok nl ng L.length ns B hl
  have hBf : B % L.length < L.length := Nat.mod_lt _ hf
  have hBs : B % ns < ns := Nat.mod_lt _ hs
  have hpr := hp _ hBf
  unfold stm0
  generalize B % L.length = bf at *
  generalize B % ns = bn at *
  have t3 : thereF nl ng L.length ns 3 (bf : Int) = true := by simp [thereF, withF]; omega
  have t4 : thereF nl ng L.length ns 4 (bn : Int) = true := by simp [thereF, withF]; omega
  have t0 := there0 nl ng L.length ns
  have hkb : ∀ k : Int, varB k = true → (k == 3) = false := fun k hk => by
    simp [varB] at hk; rcases hk with rfl | rfl <;> rfl
  generalize hva : varF nl ng A = va at *
  generalize hvb : varF nl ng B = vb at *
  obtain ⟨va1, va2⟩ := va
  obtain ⟨vb1, vb2⟩ := vb
  dsimp only at a1 a2 b1 b2
  have ho := obj_of_var b1
  have n3 := hkb _ b1
  split
  · refine ⟨stmtF_zero hd ?_ ?_ ?_, by simp⟩
    · simp only [St7.it]
      split
      · simp [kindF, a1, objB, Bd.len]
      · split
        · simp [kindF, a1, ho, Bd.len]
        · simp [kindF, a1, objB, Bd.len]
    · simp only [St7.it]
      split
      · simp [refsF, a2, t3]
      · split
        · simp [refsF, a2, b2]
        · simp [refsF, a2, t4]
    · simp [St7.it, arityF]
  split
  · exact ⟨stmtF_zero hd (by simp [St7.it, kindF, a1, b1, Bd.len]) (by simp [St7.it, refsF, a2, b2]) (by simp [St7.it, arityF]), by simp⟩
  split
  · exact ⟨stmtF_zero hd (by simp [St7.it, kindF, a1, b1, Bd.len]) (by simp [St7.it, refsF, a2, b2]) (by simp [St7.it, arityF]), by simp⟩
  split
  · obtain ⟨g1, g2⟩ := args_ok nl ng L.length ns A C hl (par bf)
    have h33 := h3 bf
    refine ⟨stmtF_zero hd ?_ ?_ ?_, by simp⟩
    · simp only [St7.it, kindF]
      rw [g1]
      by_cases hC : C % 3 = 0 <;> simp [hC, zeroB, a1, Bd.len]
    · simp only [St7.it, refsF]
      rw [g2, t3]
      split <;> simp [t0, a2]
    · simp only [St7.it, arityF, List.length_map, List.length_range]
      rw [if_neg (by omega)]
      simp only [Int.toNat_natCast, List.getElem?_eq_getElem hBf, Option.map_some, Option.getD_some, hpr]
      simp
  split
  · obtain ⟨g1, g2⟩ := args_ok nl ng L.length ns A C hl (C / 4 % 4)
    have h33 : C / 4 % 4 ≤ 3 := by omega
    refine ⟨stmtF_zero hd ?_ ?_ ?_, by simp⟩
    · simp only [St7.it, kindF]
      rw [g1]
      by_cases hC : C % 3 = 0 <;> simp [hC, zeroB, a1, b1, Bd.len]
    · simp only [St7.it, refsF]
      rw [g2, b2]
      split <;> simp [t0, a2]
    · simp only [St7.it, arityF, List.length_map, List.length_range]
      rw [if_neg (by omega)]
      simp [bne, n3]
  split
  · exact ⟨stmtF_zero hd (by simp [St7.it, kindF, b1, zeroB, Bd.len]) (by simp [St7.it, refsF, t0, b2]) (by simp [St7.it, arityF]), by simp⟩
  · exact ⟨stmtF_zero hd (by simp [St7.it, kindF, a1, b1, Bd.len]) (by simp [St7.it, refsF, a2, b2]) (by simp [St7.it, arityF]), by simp⟩
theorem ahead_flat (s : St7) (r : Bd) (d : Nat) : (s.ahead r).flat d = s.it d :: ((if s.k = 7 ∧ d < 1000 then s.sub.flat (d + 1) else []) ++ r.flat d) := rfl
theorem stm_ok (L : List Fn) (nl ng ns : Nat) (par : Nat → Nat) (K A B C : Nat) (hl : 0 < nl + ng) (hs : 0 < ns) (hf : 0 < L.length) (hp : ∀ j (hj : j < L.length), L[j].params = (par j : Int)) (h3 : ∀ j, par j ≤ 3) : ∀ x ∈ ((stm nl ng L.length ns par K A B C).ahead .nil).flat 0, stmtF L nl ng ns x = 0 := by
  intro x hx
  rw [ahead_flat] at hx
  unfold stm at hx
  have t0 := there0 nl ng L.length ns
  split at hx
  · split at hx
    · simp [Bd.flat, St7.it] at hx
      subst hx
      exact stmtF_zero (by simp) (by simp [kindF, zeroB]) (by simp [refsF, t0]) (by simp [arityF])
    · obtain ⟨g1, g2⟩ := stm0_ok L nl ng ns par (C % 8) A B C 1 (by omega) hl hs hf hp h3
      obtain ⟨a1, a2⟩ := varF_ok nl ng L.length ns A hl
      obtain ⟨b1, b2⟩ := varF_ok nl ng L.length ns B hl
      simp only [true_and, Nat.zero_lt_succ, if_true, ahead_flat, if_neg (show ¬((stm0 nl ng L.length ns par (C % 8) A B C).k = 7 ∧ 0 + 1 < 1000) from fun h => g2 h.1), List.nil_append, Bd.flat, List.append_nil] at hx
      simp only [List.mem_cons] at hx
      rcases hx with rfl | rfl | hx
      · exact stmtF_zero (by simp [St7.it]) (by simp [St7.it, kindF, zeroB]) (by simp [St7.it, refsF, t0]) (by simp [St7.it, arityF])
      · exact g1
      · simp at hx
        subst hx
        exact stmtF_zero (by simp [St7.it]) (by simp [St7.it, kindF, a1, b1, Bd.len]) (by simp [St7.it, refsF, a2, b2]) (by simp [St7.it, arityF])
  · obtain ⟨g1, g2⟩ := stm0_ok L nl ng ns par K A B C 0 (by omega) hl hs hf hp h3
    rw [if_neg (fun h => g2 h.1)] at hx
    simp [Bd.flat] at hx
    subst hx
    exact g1
theorem bdOf_flat : ∀ (T : List St7) (x : It), x ∈ (bdOf T).flat 0 → ∃ s ∈ T, x ∈ (s.ahead .nil).flat 0
  | [], x, h => by simp [bdOf, Bd.flat] at h
  | s :: T, x, h => by
    rw [bdOf, ahead_flat] at h
    simp only [List.mem_cons, List.mem_append] at h
    rcases h with h | h | h
    · exact ⟨s, List.mem_cons_self, by rw [ahead_flat, h]; exact List.mem_cons_self⟩
    · exact ⟨s, List.mem_cons_self, by rw [ahead_flat]; exact List.mem_cons_of_mem _ (List.mem_append_left _ h)⟩
    · obtain ⟨s', h1, h2⟩ := bdOf_flat T x h
      exact ⟨s', List.mem_cons_of_mem _ h1, h2⟩
theorem stmtsF_zero (L : List Fn) (nl ng ns : Nat) : ∀ (l : List It) (i : Nat), (∀ x ∈ l, stmtF L nl ng ns x = 0) → (stmtsF L nl ng ns i l).1 = 0
  | [], _, _ => rfl
  | x :: l, i, h => by
    rw [stmtsF, if_neg (by simp [h x List.mem_cons_self])]
    exact stmtsF_zero L nl ng ns l (i + 1) fun y hy => h y (List.mem_cons_of_mem _ hy)
theorem funcsF_zero (M : Md) : ∀ (L : List Fn) (i : Nat), (∀ f ∈ L, funcF M.strs f = 0 ∧ ∀ x ∈ f.body.flat 0, stmtF M.funcs f.locals.length M.globs.length f.sites.length x = 0) → funcsF M i L = (0, -1, -1)
  | [], _, _ => rfl
  | f :: L, i, h => by
    obtain ⟨h1, h2⟩ := h f List.mem_cons_self
    rw [funcsF, if_neg (by simp [h1]), if_neg (by simp [stmtsF_zero _ _ _ _ _ 0 h2])]
    exact funcsF_zero M L (i + 1) fun y hy => h y (List.mem_cons_of_mem _ hy)
/-- No rule is broken. -/
theorem made_ok (G F E : Nat) (acts : List Ac) : treeF (canM (mkM (gnames (1 + G / 4 % 3) (G % 4)) (ints (G % 4)) F E acts)) = (0, -1, -1) ∧ checkF (canM (mkM (gnames (1 + G / 4 % 3) (G % 4)) (ints (G % 4)) F E acts)) = (0, -1, -1) := by
  obtain ⟨n, hn⟩ : ∃ n, n = 1 + F % 4 := ⟨_, rfl⟩
  obtain ⟨g, hg⟩ : ∃ g, g = G % 4 := ⟨_, rfl⟩
  have hsk := names_all (G / 4 % 3) (by omega) g (by omega) (F % 16) (by omega)
  rw [show 1 + F % 16 % 4 = n from by omega] at hsk
  have hskF : skelM (gnames (1 + G / 4 % 3) g) (ints g) (F % 16) n = skelM (gnames (1 + G / 4 % 3) g) (ints g) F n := by
    unfold skelM; rw [← mkS_mod, ← mkL_mod]
  rw [hskF] at hsk
  have hTl := mkT_len F (ints g).length n acts.length acts (min acts.length 60)
  obtain ⟨L, hM, hL, hB⟩ := can_fill (gnames (1 + G / 4 % 3) g) (ints g) F n (mkT F (ints g).length n acts.length acts (min acts.length 60)) (entsF E n) hTl
  have hst := mkT_stm F (ints g).length n acts.length acts (min acts.length 60)
  have hmk : mkM (gnames (1 + G / 4 % 3) (G % 4)) (ints (G % 4)) F E acts = ⟨mkS (gnames (1 + G / 4 % 3) g) F n, ints g, fillB (mkL (gnames (1 + G / 4 % 3) g) F n) (mkT F (ints g).length n acts.length acts (min acts.length 60)), entsF E n⟩ := by
    unfold mkM; rw [← hn, ← hg]
  have hsm := (mk_small (gnames (1 + G / 4 % 3) (G % 4)) (ints (G % 4)) F E acts).body
  have hle := mkT_le F (ints g).length n acts.length acts (min acts.length 60)
  have hsml := mkT_small F (ints g).length n acts.length acts (min acts.length 60)
  rw [hmk, hM] at hsm ⊢
  generalize mkT F (ints g).length n acts.length acts (min acts.length 60) = Ts at *
  generalize skelM (gnames (1 + G / 4 % 3) g) (ints g) F n = C at *
  rw [ints_len] at hst
  have hEn : entF n [] (entsF E n) = 0 := by rw [entsF_mod E n (by omega)]; exact ents_all _ (by omega) n (by omega)
  have hEl := entsF_len E n
  simp only [namesOk, Bool.and_eq_true, beq_iff_eq, List.all_eq_true, List.mem_range] at hsk
  obtain ⟨⟨⟨⟨⟨⟨q1, q2⟩, q3⟩, q4⟩, q5⟩, q6⟩, q7⟩ := hsk
  have hLl : L.length = n := by rw [← q2, ← hL, List.length_map]
  have hnm : namesL L = namesL C.funcs := by rw [← hL]; simp [namesL, Function.comp_def, noB]
  have hus : usedI C.globs L L.length = usedI C.globs C.funcs C.funcs.length := by
    rw [← hL]; simp [usedI, Function.comp_def, noB, List.take_of_length_le, List.map_take]
  have hfn : ∀ i (hi : i < L.length), L[i].locals.length = nlF F i ∧ L[i].sites.length = nsF i ∧ L[i].params = (pF F i : Int) ∧ nmF C.strs [] L[i].locals = 0 ∧ nmF C.strs [] L[i].sites = 0 := fun i hi => by
    have h1 := q7 i (by omega)
    have h2 : C.funcs[i]? = some (noB L[i]) := by rw [← hL, List.getElem?_map, List.getElem?_eq_getElem hi]; rfl
    rw [h2] at h1
    simp only [Bool.and_eq_true, beq_iff_eq] at h1
    obtain ⟨⟨⟨⟨u1, u2⟩, u3⟩, u4⟩, u5⟩ := h1
    rw [nlF_mod, pF_mod]
    exact ⟨u1, u2, u3, u4, u5⟩
  have hmod : modF ⟨C.strs, C.globs, L, entsF E n⟩ = 0 := by
    unfold modF
    dsimp only
    rw [if_neg (by omega), hnm, q3, q4, hLl]
    simp [hEn]
  have htree : treeF ⟨C.strs, C.globs, L, entsF E n⟩ = (0, -1, -1) := by
    unfold treeF
    rw [if_neg (by simp [hmod])]
    refine funcsF_zero _ _ 0 fun f hf => ?_
    obtain ⟨i, hi, rfl⟩ := List.getElem_of_mem hf
    dsimp only at hi ⊢
    obtain ⟨u1, u2, u3, u4, u5⟩ := hfn i hi
    have hb := hB i hi (by omega)
    have hp := pF_le F i
    have hnl : nlF F i ≤ 6 ∧ pF F i ≤ nlF F i ∧ 0 < nlF F i := by unfold nlF; omega
    have hns : nsF i ≤ 2 ∧ 0 < nsF i := by unfold nsF; omega
    refine ⟨?_, fun x hx => ?_⟩
    · have hroom : ¬ roomF L[i].body 400 < 0 := by
        rw [room_flat2, Bd.flat_len, hb]
        have h1 := bdOf_small Ts[i] (hsml _ (List.getElem_mem (by omega)))
        have h2 := hle _ (List.getElem_mem (show i < Ts.length by omega))
        have h3 := Bd.cnt_le (bdOf Ts[i]) 0
        omega
      unfold funcF
      rw [if_neg (by omega), if_neg (by omega), u4, u5]
      simp
    · rw [hb] at hx
      obtain ⟨s, hs, hx⟩ := bdOf_flat _ x hx
      obtain ⟨K, A, B, Cc, rfl⟩ := hst i (by omega) s hs
      rw [u1, u2, q1]
      rw [← hLl] at hx
      exact stm_ok L (nlF F i) g (nsF i) (pF F) K A B Cc (by omega) (by omega) (by omega) (fun j hj => (hfn j hj).2.2.1) (pF_le F) x hx
  refine ⟨htree, ?_⟩
  unfold checkF
  rw [htree]
  dsimp only
  rw [hus, q5]
  have : (markF C.strs.length (usedI C.globs C.funcs C.funcs.length)).all id = true := by simpa using q6
  rw [this]
  rfl
end Go.Proofs.Ytpdebnecfknohaa
