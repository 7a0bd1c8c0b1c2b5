/-
  Parts: Tw Xd Xf Xo.
-/
import Derived.Test.YtpdebnecfknohaaPr00
import Derived.Test.YtpdebnecfknohaaPr01
import Derived.Test.YtpdebnecfknohaaPr02
import Derived.Test.YtpdebnecfknohaaPr03
import Derived.Test.YtpdebnecfknohaaPr04
import Derived.Test.YtpdebnecfknohaaPr05
import Derived.Test.YtpdebnecfknohaaPr06
import Derived.Test.YtpdebnecfknohaaPr07
import Derived.Test.YtpdebnecfknohaaPr08
import Derived.Laws.OwnMore
import Derived.Deep.LoopGhost
import Derived.Deep.RegionHeld
namespace Go.Proofs.Ytpdebnecfknohaa
open Go.RowKit
set_option linter.unusedVariables false
set_option linter.unusedSimpArgs false
set_option maxRecDepth 20000
theorem append_none_any {base n c : Nat} {v : Value} {xs : List Value} {w : World} (hown : w.ownsRow base 3 1 v n xs) : (Builtin.append_ #[27, 27] 27 #[v, .slice none 0 c]).run Try.prog w = .ok v w := by
  obtain ⟨i0, hi0, hz0, hz1, hz2⟩ := info_parts info3
  rcases hown.2 with ⟨rfl, rfl⟩ | ⟨g, cap, cur, rfl, _, _, hnc, _⟩
  · simp [Builtin.append_, run_underlying Try.underlying27, sizeOf, typeInfo, hi0, Builtin.lenOf, Builtin.firstCells]
  · simp [Builtin.append_, run_underlying Try.underlying27, sizeOf, typeInfo, hi0, Builtin.lenOf, Builtin.firstCells, hnc, storeCells]
/-- Numbers that are read, behind a row of numbers. -/
theorem pushL {base n m c : Nat} {v : Value} {l xs : List Int} {A : Option Addr} {w : World} (hn : n = l.length) (hm : m = xs.length) (h : w.ownsRow base 3 1 v n (intV l)) (hr : RdS (fun _ => True) w A m 1 (intV xs)) (hl : n ≤ 100000000) (hx : m ≤ 1000000) (hb : base ≤ w.heap.size) :
    ∃ A' c' w', (Builtin.append_ #[27, 27] 27 #[v, .slice A m c]).run Try.prog w = .ok (.slice A' (n + m) c') w' ∧ w'.ownsRow base 3 1 (.slice A' (n + m) c') (n + m) (intV (l ++ xs)) ∧ w.grownBy w' v.ownBlock := by
  obtain ⟨i0, hi0, hz0, hz1, hz2⟩ := info_parts info3
  cases A with
  | none =>
    have h0 : m = 0 := by
      rcases Nat.eq_zero_or_pos m with h0 | h0
      · exact h0
      · obtain ⟨b, o, hA, _⟩ := hr.2 h0; cases hA
    subst h0
    have hxs : xs = [] := List.eq_nil_of_length_eq_zero hm.symm
    subst hxs
    obtain ⟨A', c', rfl⟩ := own_slice h
    exact ⟨A', c', w, append_none_any h, by simpa using h, World.grownBy.refl _ _⟩
  | some a =>
    have hc : ∀ j u, (intV xs)[j]? = some u → w.cell? (a.add j) = some u := by
      intro j u hu
      have hp : 0 < m := by
        rcases Nat.eq_zero_or_pos m with h0 | h0
        · have : xs = [] := List.eq_nil_of_length_eq_zero (by omega)
          subst this; simp [intV] at hu
        · exact h0
      obtain ⟨b, o, hA, _, hc⟩ := hr.2 hp
      injection hA with hA
      subst hA
      rw [Go.WideShapes.add_plain]
      exact hc j u hu
    obtain ⟨v5, w5, hr5, hO5, hg5, _, _⟩ := run_append_own_at (P := Try.prog) w base 27 27 3 i0 (.int .i64 0) 1 8 Try.underlying27 hi0 hz0 hz1 hz2 rfl (by decide) v n _ h a m c (intV xs) hr.1 hc (by intro u hu; simp [intV] at hu; obtain ⟨x, _, rfl⟩ := hu; rfl) (by unfold maxLen; omega) (by omega) hb
    obtain ⟨A', c', rfl⟩ := own_slice hO5
    exact ⟨A', c', w5, hr5, by rw [show intV (l ++ xs) = intV l ++ intV xs from by simp [intV]]; exact hO5, hg5⟩
/-- The numbers of the strings that are used. -/
def usedL (M : Md) : List Int := M.globs ++ (M.funcs.map fun f => f.name :: (f.locals ++ f.sites)).flatten
def usedI (G : List Int) (L : List Fn) (i : Nat) : List Int := G ++ ((L.take i).map fun f => f.name :: (f.locals ++ f.sites)).flatten
theorem usedI_succ (G : List Int) (L : List Fn) (i : Nat) (h : i < L.length) : usedI G L (i + 1) = ((usedI G L i ++ [L[i].name]) ++ L[i].locals) ++ L[i].sites := by
  have e : L.take (i + 1) = L.take i ++ [L[i]] := List.take_succ_eq_append_getElem h
  unfold usedI
  rw [e, List.map_append, List.flatten_append]
  simp only [List.map_cons, List.map_nil, List.flatten_cons, List.flatten_nil, List.append_nil, List.append_assoc, List.cons_append, List.nil_append]
theorem usedI_le (G : List Int) (L : List Fn) (i : Nat) : (usedI G L i).length ≤ (usedI G L L.length).length := by
  have e : (usedI G L L.length) = usedI G L i ++ ((L.drop i).map fun f => f.name :: (f.locals ++ f.sites)).flatten := by
    unfold usedI
    rw [List.take_length, List.append_assoc, ← List.flatten_append, ← List.map_append, List.take_append_drop]
  rw [e, List.length_append]
  omega
set_option maxHeartbeats 4000000 in
theorem used2_any (As Ag Af Ae : Option Addr) (ls cs cg cf ne ce : Nat) (G : List Int) (L : List Fn) (w : World) (hG : RdS (fun _ => True) w Ag G.length 1 (intV G)) (hF : FnsS (fun _ => True) w Af L) (hg : G.length ≤ 1000000) (hl : L.length ≤ 1000000) (hlo : ∀ f ∈ L, f.locals.length ≤ 1000000 ∧ f.sites.length ≤ 1000000) (hU : (usedI G L L.length).length ≤ 90000000) :
    Calls Try.prog 23 #[.agg #[.slice As ls cs, .slice Ag G.length cg, .slice Af L.length cf, .slice Ae ne ce]] w (IntsPost w (usedI G L L.length)) := by
  have HF := Lib.hid hF
  have HG := Lib.hid hG
  have HLo := Lib.hid hlo
  have hUl := usedI_le G L
  obtain ⟨U, hUe⟩ : ∃ U, U = usedI G L := ⟨_, rfl⟩
  have HUs : Hid (∀ i (h : i < L.length), U (i + 1) = ((U i ++ [L[i].name]) ++ L[i].locals) ++ L[i].sites) := by rw [hUe]; exact fun i h => usedI_succ G L i h
  have HU0 : Hid (U 0 = G) := by show _ = _; rw [hUe]; simp [usedI]
  rw [← hUe] at hUl hU ⊢
  have HUl : Hid (∀ i, (U i).length ≤ 90000000) := fun i => Nat.le_trans (hUl i) hU
  obtain ⟨nf, hnf⟩ : ∃ n, n = L.length := ⟨_, rfl⟩
  obtain ⟨ng, hng⟩ : ∃ n, n = G.length := ⟨_, rfl⟩
  have HNF := Lib.hid hnf
  have HNG := Lib.hid hng
  rw [← hnf] at hl ⊢
  rw [← hng] at hg hG ⊢
  obtain ⟨w1, hw1⟩ : ∃ w1, w1 = w.alloc (.cells #[.slice As ls cs, .slice Ag ng cg, .slice Af nf cf, .slice Ae ne ce] 30) := ⟨_, rfl⟩
  have HB1 : Hid (Below w.heap.size w w1) := by rw [hw1]; exact (Below.refl _ _).alloc (Nat.le_refl _) _
  have K1 : Hid (Blk w1 w.heap.size 30 #[.slice As ls cs, .slice Ag ng cg, .slice Af nf cf, .slice Ae ne ce]) := by rw [hw1]; exact Blk.new w 30 _
  obtain ⟨A0, c0, w2, hr2, hO2, hg2⟩ := pushL (base := w.heap.size) (n := 0) (m := ng) (c := cg) (v := .slice none 0 0) (l := []) (xs := G) (A := Ag) (w := w1) rfl hng (World.ownsRow_nil _ _ _ _) (hG.old HB1.out (by omega)) (by omega) hg HB1.out.size
  simp only [Nat.zero_add, List.nil_append] at hr2 hO2
  have HB2 : Hid (Below w.heap.size w w2) := HB1.out.grown hg2 HB1.out.size (fun k hk => by simp [Value.ownBlock] at hk)
  have K2 : Hid (Blk w2 w.heap.size 30 #[.slice As ls cs, .slice Ag ng cg, .slice Af nf cf, .slice Ae ne ce]) := K1.out.grown hg2 (by simp [Value.ownBlock])
  have HO2 : Hid (w2.ownsRow w.heap.size 3 1 (.slice A0 ng c0) ng (intV (U 0))) := by
    show World.ownsRow _ _ _ _ _ _ _
    rw [HU0.out]; exact hO2
  have HN0 : Hid (ng = (U 0).length) := by show _ = _; rw [HU0.out]; exact HNG.out
  clear hF hG hlo hUl hU hUe hnf hng hO2 hg2
  go_enter Try.func23, Try.ntmps23
  go_upto_region 2 with (fail)
  rw [← hw1]
  clear hw1
  obtain ⟨m0, m1, m2, m3⟩ := K1.out.c4
  have z1 : w.heap.size < w1.heap.size := K1.out.lt
  obtain ⟨k0, k1, k2, k3⟩ := K2.out.c4
  have z2 : w.heap.size < w2.heap.size := K2.out.lt
  go_wp2_with (at_builtin; refine Lib.wpList_append_run _ rfl _ _ 27 27 rfl _ _ rfl rfl _ _ hr2 ?_)
  clear hr2 m0 m1 m2 m3 z1 k0 k1 k2 k3 z2
  go_loopw [3, 13] (fun s3 s13 wr => ∃ (i n : Nat) (A : Option Addr) (c : Nat), i ≤ nf ∧ s13 = .int .i64 (i : Int) ∧ s3 = .slice A n c ∧ Hid (n = (U i).length) ∧ Hid (wr.ownsRow w.heap.size 3 1 (.slice A n c) n (intV (U i))) ∧ Hid (Below w.heap.size w wr)) (fun _ s13 _ => nf - (intOf s13).toNat)
  case atStart => exact ⟨0, ng, A0, c0, Nat.zero_le _, rfl, rfl, HN0, HO2, HB2⟩
  case round =>
    clear HO2 HB2 HN0 HU0 HG K1 K2 HB1
    obtain ⟨i, n, A, c, hi, rfl, rfl, hn, hO, hB⟩ := hrel
    by_cases hlt : i < nf
    · have hiL : i < L.length := by rw [← HNF.out]; exact hlt
      have hli : (i : Int) < (nf : Int) := by omega
      obtain ⟨b, o, rfl, _, hc⟩ := HF.out (by omega)
      obtain ⟨fs, ⟨Al, cl, At, ct, Ab, cb, rfl, r1, r2, _⟩, hcc⟩ := hc i hiL
      have hbl : b < w.heap.size := World.block_lt_of_cell? w _ (hcc 0 _ rfl)
      have e0 := cell_old hB.out hbl (hcc 0 _ rfl)
      have e1 := cell_old hB.out hbl (hcc 1 _ rfl)
      have e2 := cell_old hB.out hbl (hcc 2 _ rfl)
      have e3 := cell_old hB.out hbl (hcc 3 _ rfl)
      have e4 := cell_old hB.out hbl (hcc 4 _ rfl)
      simp only [Nat.add_zero] at e0
      obtain ⟨hlo1, hlo2⟩ := HLo.out _ (List.getElem_mem hiL)
      have hus := HUs.out i hiL
      have hul := HUl.out (i + 1)
      generalize L[i] = f at *
      obtain ⟨fn, fp, fl, ft, fb⟩ := f
      dsimp only at *
      obtain ⟨nl, hnl⟩ : ∃ x, x = fl.length := ⟨_, rfl⟩
      obtain ⟨nt, hnt⟩ : ∃ x, x = ft.length := ⟨_, rfl⟩
      obtain ⟨nb, hnb⟩ : ∃ x, x = fb.len := ⟨_, rfl⟩
      rw [← hnl] at e2 r1 hlo1
      rw [← hnt] at e3 r2 hlo2
      rw [← hnb] at e4
      have hub : n + 1 + nl + nt ≤ 90000000 := by
        rw [hus] at hul
        simp only [List.length_append, List.length_cons, List.length_nil] at hul
        have := hn.out
        omega
      have HBA : Below w.heap.size w (wr.alloc (.cells #[.int .i64 fn, .int .i64 fp, .slice Al nl cl, .slice At nt ct, .slice Ab nb cb] 40)) := hB.out.alloc hB.out.size _
      have hOA := hO.out.alloc (.cells #[.int .i64 fn, .int .i64 fp, .slice Al nl cl, .slice At nt ct, .slice Ab nb cb] 40)
      have KA : Blk (wr.alloc (.cells #[.int .i64 fn, .int .i64 fp, .slice Al nl cl, .slice At nt ct, .slice Ab nb cb] 40)) wr.heap.size 40 #[.int .i64 fn, .int .i64 fp, .slice Al nl cl, .slice At nt ct, .slice Ab nb cb] := Blk.new wr 40 _
      -- the name
      have hr1c : RdS (fun _ => True) ((wr.alloc (.cells #[.int .i64 fn, .int .i64 fp, .slice Al nl cl, .slice At nt ct, .slice Ab nb cb] 40)).alloc (.cells #[.int .i64 fn] 3)) (some ⟨wr.heap.size + 1, 0, none⟩) 1 1 (intV [fn]) := ⟨rfl, fun _ => ⟨_, 0, rfl, trivial, fun j u hj => by
        have hk : Blk ((wr.alloc (.cells #[.int .i64 fn, .int .i64 fp, .slice Al nl cl, .slice At nt ct, .slice Ab nb cb] 40)).alloc (.cells #[.int .i64 fn] 3)) (wr.heap.size + 1) 3 #[.int .i64 fn] := Blk.new' _ 3 _ _ (by simp)
        rw [Nat.zero_add, hk.cell]
        simpa [intV] using hj⟩⟩
      obtain ⟨A3, c3, w3, q3, hO3, hg3⟩ := pushL (base := w.heap.size) (m := 1) (c := 1) hn.out (xs := [fn]) rfl (hOA.alloc (.cells #[.int .i64 fn] 3)) hr1c (by omega) (by omega) (by have := hB.out.size; simp; omega)
      have hB3 : Below w.heap.size w w3 := (HBA.alloc HBA.size (.cells #[.int .i64 fn] 3)).grown hg3 (by have := hB.out.size; simp; omega) (fun k hk => (hOA.lt k hk).1)
      have hK3 : Blk w3 wr.heap.size 40 #[.int .i64 fn, .int .i64 fp, .slice Al nl cl, .slice At nt ct, .slice Ab nb cb] := (KA.alloc _).grown hg3 (own_ne (hOA.alloc (.cells #[.int .i64 fn] 3)) (KA.alloc _) (by decide))
      -- locals
      obtain ⟨A4, c4, w4, q4, hO4, hg4⟩ := pushL (base := w.heap.size) (m := nl) (c := cl) (l := U i ++ [fn]) (xs := fl) (n := n + 1) (by have := hn.out; simp; omega) hnl hO3 (r1.old hB3 (by omega)) (by omega) hlo1 hB3.size
      have hB4 : Below w.heap.size w w4 := hB3.grown hg4 hB3.size (fun k hk => (hO3.lt k hk).1)
      have hK4 : Blk w4 wr.heap.size 40 #[.int .i64 fn, .int .i64 fp, .slice Al nl cl, .slice At nt ct, .slice Ab nb cb] := hK3.grown hg4 (own_ne hO3 hK3 (by decide))
      -- sites
      obtain ⟨A5, c5, w5, q5, hO5, hg5⟩ := pushL (base := w.heap.size) (m := nt) (c := ct) (l := (U i ++ [fn]) ++ fl) (xs := ft) (n := n + 1 + nl) (by have := hn.out; simp; omega) hnt hO4 (r2.old hB4 (by omega)) (by omega) hlo2 hB4.size
      have HB5 : Hid (Below w.heap.size w w5) := hB4.grown hg5 hB4.size (fun k hk => (hO4.lt k hk).1)
      have HO5 : Hid (w5.ownsRow w.heap.size 3 1 (.slice A5 (n + 1 + nl + nt) c5) (n + 1 + nl + nt) (intV (U (i + 1)))) := by
        show World.ownsRow _ _ _ _ _ _ _
        rw [hus]; exact hO5
      have HN5 : Hid (n + 1 + nl + nt = (U (i + 1)).length) := by
        show _ = _
        rw [hus]
        simp only [List.length_append, List.length_cons, List.length_nil]
        have := hn.out
        omega
      have KA' := Lib.hid KA
      have K3 := Lib.hid hK3
      have K4 := Lib.hid hK4
      obtain ⟨wa, hwa⟩ : ∃ wa, wa = wr.alloc (.cells #[.int .i64 fn, .int .i64 fp, .slice Al nl cl, .slice At nt ct, .slice Ab nb cb] 40) := ⟨_, rfl⟩
      clear hc hcc r1 r2 hlo1 hlo2 hus hul hnl hnt hnb hub HBA hOA KA hr1c hO3 hg3 hB3 hK3 hO4 hg4 hB4 hK4 hO5 hg5 hn hO hB hwa
      go_upto_region 6 with (fail)
      go_upto_region 7 with (at_builtin; refine Lib.wpList_append_run _ rfl _ _ 27 27 rfl _ _ rfl rfl _ _ q3 ?_)
      clear q3 e0 e1 e2 e3 e4 KA'
      obtain ⟨c0', c1', c2', c3', c4'⟩ := K3.out.c5
      have y1 : wr.heap.size < w3.heap.size := K3.out.lt
      go_upto_region 8 with (at_builtin; refine Lib.wpList_append_run _ rfl _ _ 27 27 rfl _ _ rfl rfl _ _ q4 ?_)
      clear q4 c0' c1' c2' c3' c4' y1 K3
      obtain ⟨c0', c1', c2', c3', c4'⟩ := K4.out.c5
      have y1 : wr.heap.size < w4.heap.size := K4.out.lt
      go_wp2_with (at_builtin; refine Lib.wpList_append_run _ rfl _ _ 27 27 rfl _ _ rfl rfl _ _ q5 ?_)
      clear q5 c0' c1' c2' c3' c4' y1 K4
      go_roundw
      case rel => exact ⟨i + 1, n + 1 + nl + nt, A5, c5, by omega, by go_num, rfl, HN5, HO5, HB5⟩
      case measure => simp [intOf]; omega
    · obtain rfl : i = nf := by omega
      have HN2 := hn
      clear hn
      go_wp2
      go_ret
      exact ⟨A, c, by rw [← HN2.out]; rfl, by rw [← HN2.out]; exact hO.out, hB.out⟩
end Go.Proofs.Ytpdebnecfknohaa
namespace Go.Proofs.Ytpdebnecfknohaa
open Go.RowKit Go.Maps
set_option linter.unusedVariables false
set_option linter.unusedSimpArgs false
set_option maxRecDepth 20000
/-- The strings of these numbers, each once, sorted. -/
def usS (strs : List (List UInt8)) (U : List Int) : List (List UInt8) := srtF (addsF [] (U.map (strF strs)))
theorem set_same_at {α : Type} {l : List α} {j : Nat} {u : α} (h : l[j]? = some u) : l.set j u = l := by
  apply List.ext_getElem?
  intro i
  rw [List.getElem?_set]
  split
  · rename_i e
    subst e
    split
    · exact h.symm
    · rename_i h2; rw [List.getElem?_eq_none (by omega)]
  · rfl
theorem addsF_len : ∀ (xs l : List (List UInt8)), (addsF l xs).length ≤ l.length + xs.length
  | [], l => by simp [addsF]
  | x :: xs, l => by
    have h1 := addsF_len xs (addF l x)
    have h2 := addF_len l x
    rw [addsF]
    simp only [List.length_cons]
    omega
set_option maxHeartbeats 8000000 in
theorem us_any (M : Md) (As Ag Af Ae : Option Addr) (cs cg cf ce : Nat) (w : World) (hM : M.Wf) (h : MdR w As Ag Af Ae M) (hU : (usedI M.globs M.funcs M.funcs.length).length ≤ 90000) (hr : ∀ n ∈ usedI M.globs M.funcs M.funcs.length, 0 ≤ n ∧ n < (M.strs.length : Int)) (hs : ∀ n ∈ usedI M.globs M.funcs M.funcs.length, (strF M.strs n).length ≤ 100000) :
    Calls Try.prog 45 #[.agg #[.slice As M.strs.length cs, .slice Ag M.globs.length cg, .slice Af M.funcs.length cf, .slice Ae M.ents.length ce]] w fun e w' => ∃ A c, e = .returned (.slice A (usS M.strs (usedI M.globs M.funcs M.funcs.length)).length c) ∧ w'.ownsRow w.heap.size 9 1 (.slice A (usS M.strs (usedI M.globs M.funcs M.funcs.length)).length c) (usS M.strs (usedI M.globs M.funcs M.funcs.length)).length (strV (usS M.strs (usedI M.globs M.funcs M.funcs.length))) ∧ Below w.heap.size w w' := by
  have hm1 := hM.strs
  have hUs := fun wx (hx : Below w.heap.size w wx) => used2_any As Ag Af Ae M.strs.length cs cg cf M.ents.length ce M.globs M.funcs wx ((h.old hx).globs) ((h.old hx).funcs) hM.globs.1 hM.funcs (fun f hf => by have := hM.fns f hf; exact ⟨this.2.2.1, this.2.2.2.1⟩) (by omega)
  have hSt := fun wx (hx : Below w.heap.size w wx) (n : Int) (hn1 : -9223372036854775808 ≤ n) (hn2 : n ≤ 9223372036854775807) => str_any M.strs As Ag Af Ae cs M.globs.length cg M.funcs.length cf M.ents.length ce n wx hn1 hn2 (h.old hx).strs hm1
  obtain ⟨U, hUe⟩ : ∃ U, U = usedI M.globs M.funcs M.funcs.length := ⟨_, rfl⟩
  rw [← hUe] at hU hr hs ⊢
  simp only [← hUe] at hUs
  obtain ⟨ls, hls⟩ : ∃ n, n = M.strs.length := ⟨_, rfl⟩
  obtain ⟨lg, hlg⟩ : ∃ n, n = M.globs.length := ⟨_, rfl⟩
  obtain ⟨lf, hlf⟩ : ∃ n, n = M.funcs.length := ⟨_, rfl⟩
  obtain ⟨le, hle⟩ : ∃ n, n = M.ents.length := ⟨_, rfl⟩
  rw [← hls, ← hlg, ← hlf, ← hle] at hUs hSt ⊢
  rw [← hls] at hm1
  have HUs := Lib.hid hUs
  have HSt := Lib.hid hSt
  have HR : Hid (∀ n ∈ U, 0 ≤ n ∧ n < (ls : Int)) := by rw [hls]; exact hr
  have HS := Lib.hid hs
  obtain ⟨X, hX⟩ : ∃ X : List Int → List (List UInt8), X = fun U => addsF [] (U.map (strF M.strs)) := ⟨_, rfl⟩
  obtain ⟨sF, hsF⟩ : ∃ sF, sF = strF M.strs := ⟨_, rfl⟩
  have HXs : Hid (∀ l n, X (l ++ [n]) = addF (X l) (sF n)) := fun l n => by rw [hX, hsF]; simp only [List.map_append, List.map_cons, List.map_nil]; exact addsF_snoc _ _ _
  have HX0 : Hid (X [] = []) := by rw [hX]; rfl
  have HXl : Hid (∀ l, (X l).length ≤ l.length) := fun l => by rw [hX]; have := addsF_len (l.map (strF M.strs)) []; simpa using this
  have hgoal : usS M.strs U = srtF (X U) := by rw [hX]; rfl
  have HSL : Hid (∀ x ∈ srtF (X U), x.length ≤ 100000) := fun x hx => by
    have h1 := (srt_mem _ _).1 hx
    rw [hX] at h1
    rcases (addsF_mem _ _ _).1 h1 with h2 | h2
    · simp at h2
    · obtain ⟨n, hn, rfl⟩ := List.mem_map.1 h2
      exact hs n hn
  rw [hgoal]
  rw [← hsF] at HSt HS
  obtain ⟨Z, hZ⟩ : ∃ Z, Z = srtF (X U) := ⟨_, rfl⟩
  have hZl : (X U).length = Z.length := by rw [hZ, srt_len]
  rw [← hZ] at HSL ⊢
  obtain ⟨m, hm⟩ : ∃ m, m = Z.length := ⟨_, rfl⟩
  rw [← hm] at hZl ⊢
  have HZ := Lib.hid hZ
  have HM := Lib.hid hm
  have HZl : Hid (m = (X U).length) := hZl.symm
  clear hZ hm hZl
  obtain ⟨nu, hnu⟩ : ∃ n, n = U.length := ⟨_, rfl⟩
  rw [← hnu] at hU
  have HNU := Lib.hid hnu
  clear hM h hr hs hUe hls hlg hlf hle hUs hSt hX hsF hgoal hnu
  obtain ⟨gm, hgm⟩ : ∃ g, g = w.heap.size := ⟨_, rfl⟩
  obtain ⟨q, hq⟩ : ∃ g, g = w.heap.size + 1 := ⟨_, rfl⟩
  obtain ⟨w1, hw1⟩ : ∃ w1, w1 = (w.alloc (.cells #[.slice As ls cs, .slice Ag lg cg, .slice Af lf cf, .slice Ae le ce] 30)).alloc (.cells #[.slice none 0 0, .map none] 68) := ⟨_, rfl⟩
  have HB1 : Hid (Below w.heap.size w w1) := by rw [hw1]; exact ((Below.refl _ _).alloc (Nat.le_refl _) _).alloc (by simp) _
  have K1 : Hid (Blk w1 gm 30 #[.slice As ls cs, .slice Ag lg cg, .slice Af lf cf, .slice Ae le ce]) := by rw [hw1, hgm]; exact (Blk.new w 30 _).alloc _
  have T1 : Hid (Tab w.heap.size w1 q (X (U.take 0))) := by
    have := Tab.new (w.alloc (.cells #[.slice As ls cs, .slice Ag lg cg, .slice Af lf cf, .slice Ae le ce] 30)) w.heap.size
    show Tab _ _ _ _
    rw [List.take_zero, HX0.out, hw1, hq]
    simpa using this
  have HQ : Hid (w.heap.size ≤ q) := by show _ ≤ _; omega
  go_enter Try.func45, Try.ntmps45
  go_upto_region 2 with (fail)
  rw [← hw1, ← hq, ← hgm]
  clear hw1 hq hgm
  obtain ⟨m0, m1, m2, m3⟩ := K1.out.c4
  have z1 : gm < w1.heap.size := K1.out.lt
  go_wp2_with fail
  refine (HUs.out w1 HB1.out).mono ?_
  rintro e w2 ⟨A3, c3, rfl, hO3, hb3⟩
  have HB2 := Lib.hid (HB1.out.trans (hb3.mono HB1.out.size))
  have K2 := Lib.hid (K1.out.old hb3)
  have T2 := Lib.hid (T1.out.old hb3)
  rw [← HNU.out] at hO3 ⊢
  have HI2 : Hid (0 < nu → ∃ g cur, A3 = some ⟨g, 0, none⟩ ∧ nu ≤ c3 ∧ Blk w2 g 3 cur ∧ ∀ i (h : i < U.length), cur[i]? = some (.int .i64 U[i])) := fun hp => by
    rcases hO3.2 with ⟨_, h0⟩ | ⟨g, cap, cur, hv, _, hk, h3, h4, h5, h6⟩
    · omega
    · injection hv with e1 e2 e3
      subst e1 e3
      refine ⟨g, cur, rfl, h3, hk, fun i hi => ?_⟩
      have h7 : (intV U)[i]? = some (.int .i64 U[i]) := intV_get U i hi
      rw [← h6, List.getElem?_take] at h7
      split at h7
      · rw [← Array.getElem?_toList]; exact h7
      · cases h7
  clear hO3 hb3 K1 T1 HB1 m0 m1 m2 m3 z1 HUs
  go_wp2_with fail
  go_loopg [12] (nu + 1) (fun f s12 wr => ∃ (k : Nat), s12 = .int .i64 (k : Int) ∧ k ≤ nu ∧ nu - k < f ∧ Hid (Tab w.heap.size wr q (X (U.take k))) ∧ Hid (Blk wr gm 30 #[.slice As ls cs, .slice Ag lg cg, .slice Af lf cf, .slice Ae le ce]) ∧ Hid (0 < nu → ∃ g cur, A3 = some ⟨g, 0, none⟩ ∧ nu ≤ c3 ∧ Blk wr g 3 cur ∧ ∀ i (h : i < U.length), cur[i]? = some (.int .i64 U[i])) ∧ Hid (Below w.heap.size w wr))
  case atStart => exact ⟨0, rfl, Nat.zero_le _, by omega, T2, K2, HI2, HB2⟩
  case round =>
    clear T2 K2 HI2 HB2
    obtain ⟨k, rfl, hk, hkf, hT, hK, hI, hB⟩ := hrel
    obtain ⟨f, rfl⟩ : ∃ g, gk = g + 1 := ⟨gk - 1, by omega⟩
    by_cases hlt : k < nu
    · have hki : (k : Int) < (nu : Int) := by omega
      have hkl : k < U.length := by rw [← HNU.out]; exact hlt
      obtain ⟨g, cur, rfl, hnc, hBg, hcur⟩ := hI.out (by omega)
      obtain ⟨n, hn⟩ : ∃ n, n = U[k] := ⟨_, rfl⟩
      have e0 : wr.cell? ⟨g, k, none⟩ = some (.int .i64 n) := by rw [hBg.cell, hcur k hkl, hn]
      have hgl : g < wr.heap.size := hBg.lt
      have hnU : n ∈ U := by rw [hn]; exact List.getElem_mem hkl
      have hrn := HR.out n hnU
      have htk : U.take (k + 1) = U.take k ++ [n] := by rw [hn]; exact List.take_succ_eq_append_getElem hkl
      have hXt : X (U.take (k + 1)) = addF (X (U.take k)) (sF n) := by rw [htk, HXs.out]
      have hxl : (X (U.take k)).length ≤ 90000 := by
        have h1 := HXl.out (U.take k)
        rw [List.length_take] at h1
        omega
      have hsl := HS.out n hnU
      have hSt := HSt.out wr hB.out n (by omega) (by omega)
      have HCur := Lib.hid hcur
      have HBg := Lib.hid hBg
      have HXt := Lib.hid hXt
      have HSt2 := Lib.hid hSt
      have hkc : k < c3 := by omega
      obtain ⟨m0, m1, m2, m3⟩ := hK.out.c4
      have z1 : gm < wr.heap.size := hK.out.lt
      clear hcur hBg hXt hSt htk hn hrn hnU
      go_wp2_with fail
      refine HSt2.out.mono ?_
      rintro e w4 ⟨rfl, hb4⟩
      have hB4 := hB.out.trans (hb4.mono hB.out.size)
      have HA := Lib.hid (add_any w.heap.size q (X (U.take k)) (sF n) w4 (hT.out.old hb4) HQ.out (by omega) (by unfold maxLen; omega))
      have HB4 := Lib.hid hB4
      have HK4 := Lib.hid (hK.out.old hb4)
      have HBg4 := Lib.hid (HBg.out.old hb4)
      clear hb4 hB4 e0 hgl m0 m1 m2 m3 z1 HSt2 HBg hK hB hT hI
      generalize bs (sF n) = S at *
      go_wp2_with fail
      refine HA.out.mono ?_
      rintro e w5 ⟨rfl, hT5, hb5, hk5⟩
      have HT5 : Hid (Tab w.heap.size w5 q (X (U.take (k + 1)))) := by show Tab _ _ _ _; rw [HXt.out]; exact hT5
      have HB5 := Lib.hid (HB4.out.trans (by exact hb5))
      have HK5 := Lib.hid (hk5 _ _ _ HK4.out (by decide) (by decide))
      have HBg5 := Lib.hid (hk5 _ _ _ HBg4.out (by decide) (by decide))
      have HI5 : Hid (0 < nu → ∃ g' cur, (some ⟨g, 0, none⟩ : Option Addr) = some ⟨g', 0, none⟩ ∧ nu ≤ c3 ∧ Blk w5 g' 3 cur ∧ ∀ i (h : i < U.length), cur[i]? = some (.int .i64 U[i])) := fun _ => ⟨g, cur, rfl, hnc, HBg5.out, HCur.out⟩
      clear hT5 hb5 hk5 HB4 HK4 HBg4 HA
      go_wp2
      go_roundg f
      case measure => omega
      case rel => exact ⟨k + 1, by go_num, by omega, by omega, HT5, HK5, HI5, HB5⟩
    · obtain rfl : k = nu := by omega
      have hT2 := hT.out
      rw [List.take_of_length_le (by rw [← HNU.out]; exact Nat.le_refl _)] at hT2
      have hxl : (X U).length ≤ 90000 := by have h1 := HXl.out U; rw [← HNU.out] at h1; omega
      have HAll := Lib.hid (all_any w.heap.size q (X U) wr hT2 (by omega))
      have hml : m ≤ 90000 := by have := HZl.out; omega
      rw [← HZl.out] at HAll
      clear hT hT2 hI hK
      go_wp2_with fail
      refine HAll.out.mono ?_
      rintro e w3 ⟨A6, c6, rfl, hO6, hb6⟩
      have HB6 := Lib.hid (hB.out.trans (hb6.mono hB.out.size))
      have hS := ssort_any w.heap.size m c6 A6 (X U) w3 HZl.out (own_mono hO6 hB.out.size) (by omega)
      rw [← HZ.out] at hS
      have HO6 := Lib.hid (own_mono hO6 hB.out.size)
      have HS6 := Lib.hid hS
      clear hO6 hb6 hS HAll hB
      go_wp2_with fail
      refine HS6.out.mono ?_
      rintro e w4 ⟨rfl, hO7, hg7⟩
      have HO7 := Lib.hid hO7
      have HB7 := Lib.hid (HB6.out.grown hg7 HB6.out.size (fun k hk => (HO6.out.lt k hk).1))
      clear hO7 hg7 HS6 HO6 HB6
      go_wp2_with fail
      go_loopg [26] (m + 1) (fun f s26 wr => ∃ (j : Nat), s26 = .int .i64 (j : Int) ∧ j ≤ m ∧ m - j < f ∧ Hid (wr.ownsRow w.heap.size 9 1 (.slice A6 m c6) m (strV Z)) ∧ Hid (Below w.heap.size w wr))
      case atStart => exact ⟨0, rfl, Nat.zero_le _, by omega, HO7, HB7⟩
      case round =>
        clear HO7 HB7
        obtain ⟨j, rfl, hj, hjf, hO, hB⟩ := hrel
        obtain ⟨f2, rfl⟩ : ∃ g, gk = g + 1 := ⟨gk - 1, by omega⟩
        by_cases hjl : j < m
        · have hji : (j : Int) < (m : Int) := by omega
          have hjZ : j < Z.length := by rw [← HM.out]; exact hjl
          obtain ⟨g6, rfl⟩ : ∃ g, A6 = some ⟨g, 0, none⟩ := by
            rcases hO.out.2 with ⟨_, h0⟩ | ⟨g, cap, cur, hv, _⟩
            · omega
            · injection hv with e1; exact ⟨g, e1⟩
          obtain ⟨hmc, hgb, hgl, hcf, _⟩ := own_at hO.out (by omega)
          obtain ⟨s, hs⟩ : ∃ s, s = Z[j] := ⟨_, rfl⟩
          have hZj : (strV Z)[j]? = some (.string (bs s)) := by rw [hs]; simp [strV, hjZ]
          obtain ⟨e0, _⟩ := hcf j _ hZj
          have hsm : s ∈ Z := by rw [hs]; exact List.getElem_mem hjZ
          have hC := strclone_any s wr (by have := HSL.out s hsm; omega)
          have HC := Lib.hid hC
          have HZj := Lib.hid hZj
          have hjc : j < c6 := by omega
          clear hcf hC hZj hs hsm
          obtain ⟨S, hS⟩ : ∃ S, S = bs s := ⟨_, rfl⟩
          rw [← hS] at e0 HC HZj
          clear hS
          go_wp2_with fail
          refine HC.out.mono ?_
          rintro e w5 ⟨rfl, hb5⟩
          have hO5 := own_old hO.out hb5
          obtain ⟨_, hgb5, hgl5, hcf5, hst5⟩ := own_at hO5 (by omega)
          obtain ⟨e5, f5⟩ := hcf5 j _ HZj.out
          have hO6 := hst5 j (.string S) hjl
          rw [set_same_at HZj.out] at hO6
          have HO6 := Lib.hid hO6
          have HB6 := Lib.hid ((hB.out.trans (hb5.mono hB.out.size)).setCell (p := ⟨g6, j, none⟩) hgb5 (.string S))
          clear hb5 hO5 hcf5 hst5 hO6 hO hB HC e0 hgl
          go_wp2
          go_roundg f2
          case measure => omega
          case rel => exact ⟨j + 1, by go_num, by omega, by omega, HO6, HB6⟩
        · obtain rfl : j = m := by omega
          go_wp2
          go_ret
          exact ⟨A6, c6, rfl, hO.out, hB.out⟩
end Go.Proofs.Ytpdebnecfknohaa
namespace Go.Proofs.Ytpdebnecfknohaa
open Go.RowKit Go.Maps
set_option linter.unusedVariables false
set_option linter.unusedSimpArgs false
set_option maxRecDepth 20000
theorem bs_num (Z : List (List UInt8)) (x : List UInt8) (hr : Rising Z) (hx : x ∈ Z) : ((Lib.bsGo (fun t => Op.bytesLess (bs (Z.getD t x)).toList (bs x).toList) Z.length 0 Z.length : Nat) : Int) = numF Z x 0 := by
  obtain ⟨k, hk, rfl⟩ := List.getElem_of_mem hx
  have h1 : Lib.bsGo (fun t => Op.bytesLess (bs (Z.getD t Z[k])).toList (bs Z[k]).toList) Z.length 0 Z.length = k := by
    refine Lib.bsGo_spec _ k (fun t ht => ?_) (fun t ht => ?_) Z.length 0 Z.length (by omega) (by omega) (by omega)
    · have htl : t < Z.length := by omega
      rw [show Z.getD t Z[k] = Z[t] from by rw [List.getD_eq_getElem?_getD, List.getElem?_eq_getElem htl]; rfl]
      rw [bytesLess_eq, bs_toList, bs_toList]
      simpa using (List.pairwise_iff_getElem.1 hr) t k htl hk ht
    · rw [bytesLess_eq, bs_toList, bs_toList]
      by_cases htl : t < Z.length
      · rw [show Z.getD t Z[k] = Z[t] from by rw [List.getD_eq_getElem?_getD, List.getElem?_eq_getElem htl]; rfl]
        by_cases htk : t = k
        · subst htk; simp
        · have := (List.pairwise_iff_getElem.1 hr) k t hk htl (by omega)
          simpa using List.le_of_lt this
      · rw [show Z.getD t Z[k] = Z[k] from by rw [List.getD_eq_getElem?_getD, List.getElem?_eq_none (by omega)]; rfl]
        simp
  rw [h1, numF_at Z k 0 hk (rising_nodup hr)]
  simp
/-- What the call of number reads: the strings that are used, and the module. -/
structure NumE (w : World) (gu gm : Nat) (Au : Option Addr) (m cu : Nat) (Z : List (List UInt8)) (As Ag Af Ae : Option Addr) (ls cs lg cg lf cf le ce : Nat) (strs : List (List UInt8)) : Prop where
  bu : Blk w gu 26 #[.slice Au m cu]
  bm : Blk w gm 30 #[.slice As ls cs, .slice Ag lg cg, .slice Af lf cf, .slice Ae le ce]
  ru : RdS (fun _ => True) w Au m 1 (strV Z)
  rs : RdS (fun _ => True) w As ls 1 (strV strs)
theorem NumE.old {w w' : World} {gu gm : Nat} {Au : Option Addr} {m cu : Nat} {Z : List (List UInt8)} {As Ag Af Ae : Option Addr} {ls cs lg cg lf cf le ce : Nat} {strs : List (List UInt8)} (h : NumE w gu gm Au m cu Z As Ag Af Ae ls cs lg cg lf cf le ce strs) (hb : Below w.heap.size w w') : NumE w' gu gm Au m cu Z As Ag Af Ae ls cs lg cg lf cf le ce strs :=
  ⟨h.bu.old hb, h.bm.old hb, h.ru.old hb (by omega), h.rs.old hb (by omega)⟩
set_option maxHeartbeats 4000000 in
theorem num_any (w : World) (gu gm : Nat) (Au : Option Addr) (m cu : Nat) (Z : List (List UInt8)) (As Ag Af Ae : Option Addr) (ls cs lg cg lf cf le ce : Nat) (strs : List (List UInt8)) (n : Int) (h : NumE w gu gm Au m cu Z As Ag Af Ae ls cs lg cg lf cf le ce strs) (hls : ls = strs.length) (hl : ls ≤ 1000000) (hm : m = Z.length) (hml : m ≤ 1000000) (hn : 0 ≤ n ∧ n < (ls : Int)) (hr : Rising Z) (hx : strF strs n ∈ Z) :
    Calls Try.prog 46 #[.int .i64 n, .pointer (some ⟨gu, 0, none⟩), .pointer (some ⟨gm, 0, none⟩)] w fun e w' => e = .returned (.int .i64 (numF Z (strF strs n) 0)) ∧ Below w.heap.size w w' := by
  have hS := fun wx (hb : Below w.heap.size w wx) => str_any strs As Ag Af Ae cs lg cg lf cf le ce n wx (by omega) (by omega) (by have := (h.old hb).rs; rwa [hls] at this) (by omega)
  simp only [← hls] at hS
  obtain ⟨x, hxe⟩ : ∃ x, x = strF strs n := ⟨_, rfl⟩
  rw [← hxe] at hS hx ⊢
  have hmp : 0 < m := by
    obtain ⟨k, hk, _⟩ := List.getElem_of_mem hx
    omega
  obtain ⟨b, o, rfl, _, hc⟩ := h.ru.2 hmp
  have hB := fun wx (hb : Below w.heap.size w wx) => Try.slices_BinarySearch_string b o m cu (fun t => bs (Z.getD t x)) (bs x) wx (by omega) (fun j hj => by
    have hjl : j < Z.length := by omega
    rw [show Z.getD j x = Z[j] from by rw [List.getD_eq_getElem?_getD, List.getElem?_eq_getElem hjl]; rfl]
    have h1 := hc j (.string (bs Z[j])) (by simp [strV, hjl])
    exact cell_old hb (World.block_lt_of_cell? w _ h1) h1)
  have hnum := bs_num Z x hr hx
  rw [← hm] at hnum
  simp only [hnum] at hB
  have hB2 : ∀ wx, Below w.heap.size w wx → Calls Try.prog 47 #[.slice (some ⟨b, o, none⟩) m cu, .string (bs x)] wx fun e w' => ∃ bv : Bool, e = .returned (.tuple #[.int .i64 (numF Z x 0), .bool bv]) ∧ ∃ q, w' = wx.drewN q := fun wx hb => (hB wx hb).mono (fun e w' h => ⟨_, h.1, h.2⟩)
  have HB := Lib.hid hB2
  have HS := Lib.hid hS
  have e8 : w.cell? ⟨gu, 0, none⟩ = some (.slice (some ⟨b, o, none⟩) m cu) := h.bu.cell 0
  obtain ⟨m0, m1, m2, m3⟩ := h.bm.c4
  have zu : gu < w.heap.size := h.bu.lt
  have zm : gm < w.heap.size := h.bm.lt
  clear hc hB hB2 hS hnum hr hx hxe h hls hm hn hl hml
  generalize numF Z x 0 = r at *
  generalize bs x = S at *
  go_enter Try.func46, Try.ntmps46
  go_upto_region 1 with (fail)
  refine wp_region_held_drew (S := (fun W => Below w.heap.size w W)) (by kernel_rfl) (Below.refl _ _).drew (fun hHeld => ?_)
  try simp only [Act.put, List.setIfInBounds_toArray, List.set_cons_zero, List.set_cons_succ]
  refine wpAnyH_take (i := 0) (oi := ⟨_, _, _, _, _, _⟩) (v := ?_) rfl (by kernel_rfl) (by kernel_rfl) (by kernel_rfl) (fun _ _ _ h => h) (Or.inl ⟨by rfl, ?_⟩) (by assumption) ?_
  rotate_left
  · (intro W hSW; (try dsimp only at hSW); (have e8 := cell_old hSW zu e8); (have m0 := cell_old hSW zm m0); (have m1 := cell_old hSW zm m1); (have m2 := cell_old hSW zm m2); (have m3 := cell_old hSW zm m3); go_simp; first | done | with_reducible rfl)
  try simp only [Act.put, List.setIfInBounds_toArray, List.set_cons_zero, List.set_cons_succ]
  refine wpAnyH_take (i := 1) (oi := ⟨_, _, _, _, _, _⟩) (v := ?_) rfl (by kernel_rfl) (by kernel_rfl) (by kernel_rfl) (fun _ _ _ h => h) (Or.inl ⟨by rfl, ?_⟩) (by assumption) ?_
  rotate_left
  · (intro W hSW; (try dsimp only at hSW); (have e8 := cell_old hSW zu e8); (have m0 := cell_old hSW zm m0); (have m1 := cell_old hSW zm m1); (have m2 := cell_old hSW zm m2); (have m3 := cell_old hSW zm m3); go_simp; first | done | with_reducible rfl)
  try simp only [Act.put, List.setIfInBounds_toArray, List.set_cons_zero, List.set_cons_succ]
  refine wpAnyH_take (i := 2) (oi := ⟨_, _, _, _, _, _⟩) (v := ?_) rfl (by kernel_rfl) (by kernel_rfl) (by kernel_rfl) (fun _ _ _ h => h) (Or.inl ⟨by rfl, ?_⟩) (by assumption) ?_
  rotate_left
  · (intro W hSW; (try dsimp only at hSW); (have e8 := cell_old hSW zu e8); (have m0 := cell_old hSW zm m0); (have m1 := cell_old hSW zm m1); (have m2 := cell_old hSW zm m2); (have m3 := cell_old hSW zm m3); go_simp; first | done | with_reducible rfl)
  try simp only [Act.put, List.setIfInBounds_toArray, List.set_cons_zero, List.set_cons_succ]
  clear e8 m0 m1 m2 m3
  refine wpAnyH_ready (rs := [3]) (by kernel_rfl) (by simp) ?_
  refine AllReadyH.cons (o := ⟨_, _, _, _, _, _⟩) rfl (fun KQ hKQ => ?_) AllReadyH.nil
  go_simp
  go_at_call 48
  refine (HS.out _ hHeld).mono ?_
  rintro e w2 ⟨rfl, hb2⟩
  have hB2 : Below w.heap.size w w2 := hHeld.trans (hb2.mono hHeld.size)
  refine hKQ.out _ _ hB2 (fun _ => ?_)
  clear hKQ KQ hb2
  try simp only [Act.put, List.setIfInBounds_toArray, List.set_cons_zero, List.set_cons_succ]
  refine wpAnyH_ready (rs := [4]) (by kernel_rfl) (by simp) ?_
  refine AllReadyH.cons (o := ⟨_, _, _, _, _, _⟩) rfl (fun KQ hKQ => ?_) AllReadyH.nil
  go_simp
  go_at_call 47
  refine (HB.out _ hB2).mono ?_
  rintro e w3 ⟨bv, rfl, nq, rfl⟩
  have hB3 : Below w.heap.size w (w2.drewN nq) := hB2.trans (below_dN w2 nq w.heap.size)
  refine hKQ.out _ _ hB3 (fun _ => ?_)
  clear hKQ KQ
  try simp only [Act.put, List.setIfInBounds_toArray, List.set_cons_zero, List.set_cons_succ]
  refine wpAnyH_take (i := 5) (oi := ⟨_, _, _, _, _, _⟩) (v := ?_) rfl (by kernel_rfl) (by kernel_rfl) (by kernel_rfl) (fun _ _ _ h => h) (Or.inl ⟨by rfl, ?_⟩) (by assumption) ?_
  rotate_left
  · (intro W hSW; (try dsimp only at hSW); go_simp; first | done | with_reducible rfl)
  try simp only [Act.put, List.setIfInBounds_toArray, List.set_cons_zero, List.set_cons_succ]
  refine wpAnyH_take (i := 6) (oi := ⟨_, _, _, _, _, _⟩) (v := ?_) rfl (by kernel_rfl) (by kernel_rfl) (by kernel_rfl) (fun _ _ _ h => h) (Or.inl ⟨by rfl, ?_⟩) (by assumption) ?_
  rotate_left
  · (intro W hSW; (try dsimp only at hSW); go_simp; first | done | with_reducible rfl)
  try simp only [Act.put, List.setIfInBounds_toArray, List.set_cons_zero, List.set_cons_succ]
  refine wpAnyH_take (i := 7) (oi := ⟨_, _, _, _, _, _⟩) (v := ?_) rfl (by kernel_rfl) (by kernel_rfl) (by kernel_rfl) (fun _ _ _ h => h) (Or.inl ⟨by rfl, ?_⟩) (by assumption) ?_
  rotate_left
  · (intro W hSW; (try dsimp only at hSW); go_simp; first | done | with_reducible rfl)
  try simp only [Act.put, List.setIfInBounds_toArray, List.set_cons_zero, List.set_cons_succ]
  refine wpAnyH_take (i := 8) (oi := ⟨_, _, _, _, _, _⟩) (v := ?_) rfl (by kernel_rfl) (by kernel_rfl) (by kernel_rfl) (fun _ _ _ h => h) (Or.inl ⟨by rfl, ?_⟩) (by assumption) ?_
  rotate_left
  · (intro W hSW; (try dsimp only at hSW); go_simp; first | done | with_reducible rfl)
  try simp only [Act.put, List.setIfInBounds_toArray, List.set_cons_zero, List.set_cons_succ]
  refine wpAnyH_take (i := 9) (oi := ⟨_, _, _, _, _, _⟩) (v := ?_) rfl (by kernel_rfl) (by kernel_rfl) (by kernel_rfl) (fun _ _ _ h => h) (Or.inl ⟨by rfl, ?_⟩) (by assumption) ?_
  rotate_left
  · (intro W hSW; (try dsimp only at hSW); go_simp; first | done | with_reducible rfl)
  try simp only [Act.put, List.setIfInBounds_toArray, List.set_cons_zero, List.set_cons_succ]
  refine wpAnyH_done (by kernel_rfl) ?_ _
  have HB3 := Lib.hid hB3
  clear hB3 hB2 hHeld
  go_wp2
  go_ret
  exact ⟨rfl, HB3.out⟩
end Go.Proofs.Ytpdebnecfknohaa
namespace Go.Proofs.Ytpdebnecfknohaa
open Go.RowKit Go.Maps
set_option linter.unusedVariables false
set_option linter.unusedSimpArgs false
set_option maxRecDepth 20000
/-- The first k are new. -/
def renK (F : Int → Int) (xs : List Int) (k : Nat) : List Int := (xs.take k).map F ++ xs.drop k
theorem renK_get (F : Int → Int) (xs : List Int) (k : Nat) (h : k < xs.length) : (renK F xs k)[k]? = some xs[k] := by
  unfold renK
  rw [List.getElem?_append_right (by simp; omega)]
  simp [Nat.min_eq_left (Nat.le_of_lt h), h]
theorem renK_set (F : Int → Int) (xs : List Int) (k : Nat) (h : k < xs.length) : (renK F xs k).set k (F xs[k]) = renK F xs (k + 1) := by
  unfold renK
  have hl : ((xs.take k).map F).length = k := by simp; omega
  rw [List.set_append_right _ _ (by omega), hl, Nat.sub_self, List.drop_eq_getElem_cons h, List.set_cons_zero, List.take_succ_eq_append_getElem h, List.map_append]
  simp only [List.map_cons, List.map_nil, List.append_assoc, List.cons_append, List.nil_append]
theorem intV_set (l : List Int) (k : Nat) (x : Int) : (intV l).set k (.int .i64 x) = intV (l.set k x) := by simp [intV, List.map_set]
/-- What renumber leaves. -/
def RenB (B : Nat) (wB w : World) (F : Int → Int) (A : Option Addr) (n c : Nat) (xs : List Int) (e : Ending) (w' : World) : Prop :=
  e = .returned (.tuple #[]) ∧ w'.ownsRow B 3 1 (.slice A n c) n (intV (xs.map F)) ∧ Below B wB w' ∧ w.heap.size ≤ w'.heap.size ∧ ∀ k, k < w.heap.size → some k ≠ (Value.slice A n c).ownBlock → w'.heap[k]? = w.heap[k]?
set_option maxHeartbeats 4000000 in
theorem ren_any (B : Nat) (wB w : World) (F : Int → Int) (gu gm : Nat) (A : Option Addr) (n c : Nat) (xs : List Int) (hb : Below B wB w) (hBs : B ≤ wB.heap.size) (hO : w.ownsRow B 3 1 (.slice A n c) n (intV xs)) (hn : n = xs.length) (hl : n ≤ 1000000)
    (hC : ∀ wx, Below B wB wx → ∀ i ∈ xs, Calls Try.prog 46 #[.int .i64 i, .pointer (some ⟨gu, 0, none⟩), .pointer (some ⟨gm, 0, none⟩)] wx fun e w' => e = .returned (.int .i64 (F i)) ∧ Below wx.heap.size wx w') :
    Calls Try.prog 50 #[.slice A n c, .func (.func 46) #[] #[.pointer (some ⟨gu, 0, none⟩), .pointer (some ⟨gm, 0, none⟩)]] w (RenB B wB w F A n c xs) := by
  have HC := Lib.hid hC
  have HN := Lib.hid hn
  have HO0 : Hid (w.ownsRow B 3 1 (.slice A n c) n (intV (renK F xs 0))) := hO
  have HB0 := Lib.hid hb
  have HBs := Lib.hid hBs
  have HE : Hid (renK F xs n = xs.map F) := by show _ = _; rw [hn]; simp [renK]
  clear hC hn hO hb hBs
  go_enter Try.func50, Try.ntmps50
  go_wp2_with fail
  go_loopg [8] (n + 1) (fun f s8 wr => ∃ (k : Nat), s8 = .int .i64 (k : Int) ∧ k ≤ n ∧ n - k < f ∧ Hid (wr.ownsRow B 3 1 (.slice A n c) n (intV (renK F xs k))) ∧ Hid (Below B wB wr) ∧ Hid (w.heap.size ≤ wr.heap.size) ∧ Hid (∀ j, j < w.heap.size → some j ≠ (Value.slice A n c).ownBlock → wr.heap[j]? = w.heap[j]?))
  case atStart => exact ⟨0, rfl, Nat.zero_le _, by omega, HO0, HB0, Nat.le_refl _, fun _ _ _ => rfl⟩
  case round =>
    clear HO0 HB0
    obtain ⟨k, rfl, hk, hkf, hO, hB, hSz, hK⟩ := hrel
    obtain ⟨f, rfl⟩ : ∃ g, gk = g + 1 := ⟨gk - 1, by omega⟩
    by_cases hlt : k < n
    · have hki : (k : Int) < (n : Int) := by omega
      have hkx : k < xs.length := by rw [← HN.out]; exact hlt
      obtain ⟨g, rfl⟩ : ∃ g, A = some ⟨g, 0, none⟩ := by
        rcases hO.out.2 with ⟨_, h0⟩ | ⟨g, cap, cur, hv, _⟩
        · omega
        · injection hv with e1; exact ⟨g, e1⟩
      obtain ⟨hnc, hgb, hgl, hcf, _⟩ := own_at hO.out (by omega)
      obtain ⟨i, hi⟩ : ∃ i, i = xs[k] := ⟨_, rfl⟩
      have hgk : (intV (renK F xs k))[k]? = some (.int .i64 i) := by simp [intV, renK_get F xs k hkx, hi]
      obtain ⟨e0, _⟩ := hcf k _ hgk
      have hCl := HC.out wr hB.out i (by rw [hi]; exact List.getElem_mem hkx)
      have HCl := Lib.hid hCl
      have hset : (renK F xs k).set k (F i) = renK F xs (k + 1) := by rw [hi]; exact renK_set F xs k hkx
      have HSet := Lib.hid hset
      have HGk := Lib.hid hgk
      have hkc : k < c := by omega
      clear hcf hCl hset hgk hi hkx
      go_wp2_with fail
      refine HCl.out.mono ?_
      rintro e w5 ⟨rfl, hb5⟩
      have hO5 := own_old hO.out hb5
      obtain ⟨_, _, hgl5, hcf5, hst5⟩ := own_at hO5 (by omega)
      obtain ⟨e5, f5⟩ := hcf5 k _ HGk.out
      have hO6 := hst5 k (.int .i64 (F i)) hlt
      rw [intV_set, HSet.out] at hO6
      have HO6 := Lib.hid hO6
      have hbs : B ≤ wr.heap.size := Nat.le_trans HBs.out hB.out.size
      have HB6 := Lib.hid ((hB.out.trans (hb5.mono hbs)).setCell (p := ⟨g, k, none⟩) hgb (.int .i64 (F i)))
      have HSz6 : Hid (w.heap.size ≤ (w5.setCell ⟨g, k, none⟩ (.int .i64 (F i))).heap.size) := by
        show _ ≤ _
        have h1 := hSz.out
        have h2 := hb5.size
        simp
        omega
      have HK6 : Hid (∀ j, j < w.heap.size → some j ≠ (Value.slice (some ⟨g, 0, none⟩) n c).ownBlock → (w5.setCell ⟨g, k, none⟩ (.int .i64 (F i))).heap[j]? = w.heap[j]?) := fun j hj hne => by
        have hjg : j ≠ g := fun e => hne (by rw [e]; rfl)
        rw [Below.heap_setCell _ _ _ _ hjg, hb5.block j (by have := hSz.out; omega)]
        exact hK.out j hj hne
      clear hb5 hO5 hcf5 hst5 hO6 hO hB HCl e0 hgl hSz hK hbs
      go_wp2
      go_roundg f
      case measure => omega
      case rel => exact ⟨k + 1, by go_num, by omega, by omega, HO6, HB6, HSz6, HK6⟩
    · obtain rfl : k = n := by omega
      have hO2 := hO.out
      rw [HE.out] at hO2
      have HO2 := Lib.hid hO2
      clear hO2 hO
      go_wp2
      refine bodyPost_end (results_none rfl _ _ _) rfl ?_
      exact ⟨rfl, HO2.out, hB.out, hSz.out, hK.out⟩
end Go.Proofs.Ytpdebnecfknohaa
namespace Go.Proofs.Ytpdebnecfknohaa
open Go.RowKit
set_option linter.unusedVariables false
set_option linter.unusedSimpArgs false
set_option maxRecDepth 20000
theorem mono_up {T : Nat → Nat} (h : ∀ j, T j ≤ T (j + 1)) (i : Nat) : ∀ d, T i ≤ T (i + d)
  | 0 => Nat.le_refl _
  | d + 1 => Nat.le_trans (mono_up h i d) (h (i + d))
theorem FnG.keptc {w0 : Nat} {W W' : World} {qf j a d : Nat} {f : Fn} (h : FnG w0 W qf j f a d) (hc : ∀ t, t < 5 → W'.cell? ⟨qf, j * 5 + t, none⟩ = W.cell? ⟨qf, j * 5 + t, none⟩) (hk : ∀ k, (k < w0 ∨ (a ≤ k ∧ k < d)) → k < W.heap.size → W'.heap[k]? = W.heap[k]?) : FnG w0 W' qf j f a d := by
  obtain ⟨Al, cl, As, cs', Ab, cb, b, c, h1, h2, h3, h4, h5, h6, h7, h8, h9⟩ := h
  refine ⟨Al, cl, As, cs', Ab, cb, b, c, h1, h2, h3, fun t u ht => ?_, own_blocks h5 (fun k hk' => ?_), h6, own_blocks h7 (fun k hk' => ?_), h8, h9.kept (fun k hk' hlt => hk k ?_ hlt) (fun _ h _ => h)⟩
  · have htl : t < 5 := by
      rcases Nat.lt_or_ge t 5 with h | h
      · exact h
      · rw [List.getElem?_eq_none (by simpa using h)] at ht; cases ht
    exact (hc t htl).trans (h4 t u ht)
  · have h10 := h5.lt k hk'.symm
    have h11 := h6 k hk'
    exact hk k (.inr ⟨h10.1, by omega⟩) h10.2
  · have h10 := h7.lt k hk'.symm
    have h11 := h8 k hk'
    exact hk k (.inr ⟨by omega, by omega⟩) h10.2
  · rcases hk' with h | h
    · exact .inl h
    · exact .inr ⟨by omega, h.2⟩
/-- All functions copied: their rows, between the bounds T. -/
structure CpT (w0 lo : Nat) (T : Nat → Nat) (W : World) (q : Nat) (L : List Fn) : Prop where
  row : ∃ cs, Blk W q 40 cs ∧ L.length * 5 ≤ cs.size
  qb : w0 ≤ q ∧ q < lo
  t0 : lo ≤ T 0
  t1 : ∀ j, T j ≤ T (j + 1)
  t2 : T L.length ≤ W.heap.size
  fns : ∀ j (h : j < L.length), FnG w0 W q j L[j] (T j) (T (j + 1))
theorem CpG.all {w0 lo : Nat} {W : World} {q : Nat} {L : List Fn} (h : CpG w0 lo W q L L.length) : ∃ T, CpT w0 lo T W q L := by
  obtain ⟨T, t0, t1, t2, t3⟩ := h.done
  exact ⟨T, h.row, h.qb, t0, t1, t2, fun j hj => t3 j hj hj⟩
theorem CpT.back {w0 lo : Nat} {T : Nat → Nat} {W : World} {q : Nat} {L : List Fn} (h : CpT w0 lo T W q L) : CpG w0 lo W q L L.length :=
  ⟨h.row, h.qb, fun j hj hij => by omega, T, h.t0, h.t1, h.t2, fun j hj _ => h.fns j hj⟩
theorem CpT.kept {w0 lo : Nat} {T : Nat → Nat} {W W' : World} {q : Nat} {L : List Fn} (h : CpT w0 lo T W q L) (hs : W.heap.size ≤ W'.heap.size) (hk : ∀ k, (k < w0 ∨ lo ≤ k ∨ k = q) → k < W.heap.size → W'.heap[k]? = W.heap[k]?) : CpT w0 lo T W' q L := by
  obtain ⟨cs, h1, h2⟩ := h.row
  have hq := hk q (.inr (.inr rfl)) h1.lt
  refine ⟨⟨cs, hq.trans h1, h2⟩, h.qb, h.t0, h.t1, Nat.le_trans h.t2 hs, fun j hj => (h.fns j hj).kept hq (fun k hk' hlt => hk k ?_ hlt)⟩
  rcases hk' with h3 | h3
  · exact .inl h3
  · have h4 := mono_le h.t1 j
    have h5 := h.t0
    exact .inr (.inl (by omega))
theorem CpT.keptT {w0 lo : Nat} {T : Nat → Nat} {W W' : World} {q : Nat} {L : List Fn} (h : CpT w0 lo T W q L) (hs : W.heap.size ≤ W'.heap.size) (hk : ∀ k, (k < w0 ∨ (lo ≤ k ∧ k < T L.length) ∨ k = q) → k < W.heap.size → W'.heap[k]? = W.heap[k]?) : CpT w0 lo T W' q L := by
  obtain ⟨cs, h1, h2⟩ := h.row
  have hq := hk q (.inr (.inr rfl)) h1.lt
  refine ⟨⟨cs, hq.trans h1, h2⟩, h.qb, h.t0, h.t1, Nat.le_trans h.t2 hs, fun j hj => (h.fns j hj).kept hq (fun k hk' hlt => hk k ?_ hlt)⟩
  rcases hk' with h3 | h3
  · exact .inl h3
  · have h4 := mono_le h.t1 j
    have h5 := h.t0
    have h6 := mono_up h.t1 (j + 1) (L.length - (j + 1))
    rw [show j + 1 + (L.length - (j + 1)) = L.length by omega] at h6
    exact .inr (.inl ⟨by omega, by omega⟩)
theorem CpT.old {w0 lo : Nat} {T : Nat → Nat} {W W' : World} {q : Nat} {L : List Fn} (h : CpT w0 lo T W q L) (hb : Below W.heap.size W W') : CpT w0 lo T W' q L :=
  h.kept hb.size (fun k _ hlt => hb.block k hlt)
theorem mono_lt {T : Nat → Nat} (h : ∀ j, T j ≤ T (j + 1)) (i : Nat) : ∀ d, T i ≤ T (i + d)
  | 0 => Nat.le_refl _
  | d + 1 => Nat.le_trans (mono_lt h i d) (h (i + d))
/-- One function changes, between its bounds and in its five cells. -/
theorem CpT.upd {w0 lo : Nat} {T : Nat → Nat} {W W' : World} {q : Nat} {L : List Fn} (h : CpT w0 lo T W q L) (i : Nat) (hi : i < L.length) (f' : Fn) (hsz : W.heap.size ≤ W'.heap.size) (hrow : ∃ cs, Blk W' q 40 cs ∧ L.length * 5 ≤ cs.size) (hcell : ∀ j, j ≠ i → ∀ t, t < 5 → W'.cell? ⟨q, j * 5 + t, none⟩ = W.cell? ⟨q, j * 5 + t, none⟩)
    (hk : ∀ k, k < W.heap.size → k ≠ q → ¬ (T i ≤ k ∧ k < T (i + 1)) → W'.heap[k]? = W.heap[k]?) (hG : FnG w0 W' q i f' (T i) (T (i + 1))) : CpT w0 lo T W' q (L.set i f') := by
  have hqb := h.qb
  have ht0 := h.t0
  refine ⟨by rw [List.length_set]; exact hrow, h.qb, h.t0, h.t1, by rw [List.length_set]; exact Nat.le_trans h.t2 hsz, fun j hj => ?_⟩
  rw [List.length_set] at hj
  by_cases hji : j = i
  · subst hji
    rw [List.getElem_set_self]
    exact hG
  · rw [List.getElem_set_ne (fun e => hji e.symm)]
    refine (h.fns j hj).keptc (hcell j hji) (fun k hk' hlt => hk k hlt ?_ ?_)
    · have := mono_le h.t1 j
      rcases hk' with h3 | h3 <;> omega
    · have h5 := mono_le h.t1 i
      rcases hk' with h3 | h3
      · omega
      · rcases Nat.lt_or_ge j i with h4 | h4
        · have h6 := mono_lt h.t1 (j + 1) (i - (j + 1))
          rw [show j + 1 + (i - (j + 1)) = i by omega] at h6
          omega
        · have h6 := mono_lt h.t1 (i + 1) (j - (i + 1))
          rw [show i + 1 + (j - (i + 1)) = j by omega] at h6
          omega
/-- An own row whose block stands higher. -/
theorem own_up {w : World} {B a e size n : Nat} {v : Value} {xs : List Value} (h : w.ownsRow B e size v n xs) (ha : ∀ k, some k = v.ownBlock → a ≤ k) : w.ownsRow a e size v n xs := by
  refine ⟨h.1, ?_⟩
  rcases h.2 with h1 | ⟨k, cap, cur, hv, h2, rest⟩
  · exact .inl h1
  · exact .inr ⟨k, cap, cur, hv, ha k (by rw [hv]; rfl), rest⟩
/-- One round of Of's loop: a name, the locals, the sites. -/
theorem CpT.round {w0 lo : Nat} {T : Nat → Nat} {wr wa wc wd : World} {q i : Nat} {L : List Fn} (h : CpT w0 lo T wr q L) (hi : i < L.length) {Al As Ab : Option Addr} {cl cs' cb b c : Nat} {v : Int} {xs ys : List Int} (ha : Below wr.heap.size wr wa)
    (x1 : b ≤ c) (x2 : c ≤ T (i + 1)) (x3 : T i ≤ b) (x4 : ∀ t u, ([.int .i64 L[i].name, .int .i64 L[i].params, .slice Al L[i].locals.length cl, .slice As L[i].sites.length cs', .slice Ab L[i].body.len cb] : List Value)[t]? = some u → wr.cell? ⟨q, i * 5 + t, none⟩ = some u)
    (x5 : wr.ownsRow (T i) 3 1 (.slice Al L[i].locals.length cl) L[i].locals.length (intV L[i].locals)) (x6 : ∀ k, some k = (Value.slice Al L[i].locals.length cl).ownBlock → k < b)
    (x7 : wr.ownsRow b 3 1 (.slice As L[i].sites.length cs') L[i].sites.length (intV L[i].sites)) (x8 : ∀ k, some k = (Value.slice As L[i].sites.length cs').ownBlock → k < c) (x9 : BodyS (fun k => k < w0 ∨ (c ≤ k ∧ k < T (i + 1))) wr Ab L[i].body)
    (hx : xs.length = L[i].locals.length) (hy : ys.length = L[i].sites.length)
    (c1 : wc.ownsRow w0 3 1 (.slice Al L[i].locals.length cl) L[i].locals.length (intV xs)) (c2 : (wa.setCell ⟨q, i * 5, none⟩ (.int .i64 v)).heap.size ≤ wc.heap.size) (c3 : ∀ k, k < (wa.setCell ⟨q, i * 5, none⟩ (.int .i64 v)).heap.size → some k ≠ (Value.slice Al L[i].locals.length cl).ownBlock → wc.heap[k]? = (wa.setCell ⟨q, i * 5, none⟩ (.int .i64 v)).heap[k]?)
    (d1 : wd.ownsRow w0 3 1 (.slice As L[i].sites.length cs') L[i].sites.length (intV ys)) (d2 : wc.heap.size ≤ wd.heap.size) (d3 : ∀ k, k < wc.heap.size → some k ≠ (Value.slice As L[i].sites.length cs').ownBlock → wd.heap[k]? = wc.heap[k]?) :
    CpT w0 lo T wd q (L.set i ⟨v, L[i].params, xs, ys, L[i].body⟩) ∧ ∀ k, k < wr.heap.size → k ≠ q → some k ≠ (Value.slice Al L[i].locals.length cl).ownBlock → some k ≠ (Value.slice As L[i].sites.length cs').ownBlock → wd.heap[k]? = wr.heap[k]? := by
  obtain ⟨csr, hR, hRs⟩ := h.row
  have hqb := h.qb
  have ht0 := h.t0
  have hti := mono_le h.t1 i
  have hqA : some q ≠ (Value.slice Al L[i].locals.length cl).ownBlock := fun e => by have := (x5.lt q e.symm).1; omega
  have hqS : some q ≠ (Value.slice As L[i].sites.length cs').ownBlock := fun e => by have := (x7.lt q e.symm).1; omega
  have hsz : (wa.setCell ⟨q, i * 5, none⟩ (.int .i64 v)).heap.size = wa.heap.size := by simp [World.setCell]
  have hsa := ha.size
  have hRa := hR.old ha
  have hRb := hRa.set_ (i * 5) (.int .i64 v)
  have hqd : wd.heap[q]? = (wa.setCell ⟨q, i * 5, none⟩ (.int .i64 v)).heap[q]? := (d3 q (by have := hRb.lt; omega) hqS).trans (c3 q hRb.lt hqA)
  have hcd : ∀ o, wd.cell? ⟨q, o, none⟩ = (wa.setCell ⟨q, i * 5, none⟩ (.int .i64 v)).cell? ⟨q, o, none⟩ := fun o => World.cell?_of_block hqd
  have hco : ∀ o, o ≠ i * 5 → wd.cell? ⟨q, o, none⟩ = wr.cell? ⟨q, o, none⟩ := fun o ho => by
    rw [hcd o, World.cell?_setCell_other _ _ _ _ (fun e => by injection e with _ e2; exact ho e2.symm)]
    exact World.cell?_of_block (ha.block q hR.lt)
  have hall : ∀ k, k < wr.heap.size → k ≠ q → some k ≠ (Value.slice Al L[i].locals.length cl).ownBlock → some k ≠ (Value.slice As L[i].sites.length cs').ownBlock → wd.heap[k]? = wr.heap[k]? := fun k hk h1 h2 h3 => by
    rw [d3 k (by omega) h3, c3 k (by omega) h2, Below.heap_setCell _ _ _ _ h1, ha.block k hk]
  refine ⟨?_, hall⟩
  refine h.upd i hi _ (by omega) ⟨_, hqd.trans hRb, by simp; exact hRs⟩ (fun j hj t ht => hco _ (by omega)) (fun k hk hkq hkT => hall k hk hkq (fun e => hkT ?_) (fun e => hkT ?_)) ?_
  · have := (x5.lt k e.symm).1; have := x6 k e; exact ⟨by omega, by omega⟩
  · have := (x7.lt k e.symm).1; have := x8 k e; exact ⟨by omega, by omega⟩
  · have hcx : wd.ownsRow (T i) 3 1 (.slice Al L[i].locals.length cl) L[i].locals.length (intV xs) :=
      own_blocks (own_up c1 (fun k hk => (x5.lt k hk.symm).1)) (fun k hk => d3 k (c1.lt k hk.symm).2 (fun e => by have := x6 k hk; have := (x7.lt k e.symm).1; omega))
    have hdx : wd.ownsRow b 3 1 (.slice As L[i].sites.length cs') L[i].sites.length (intV ys) := own_up d1 (fun k hk => (x7.lt k hk.symm).1)
    refine ⟨Al, cl, As, cs', Ab, cb, b, c, x1, x2, x3, fun t u ht => ?_, by rw [hx]; exact hcx, by rw [hx]; exact x6, by rw [hy]; exact hdx, by rw [hy]; exact x8, x9.kept (fun k hk hlt => hall k hlt ?_ (fun e => ?_) (fun e => ?_)) (fun _ h _ => h)⟩
    · simp only [hx, hy] at ht
      match t, ht with
      | 0, ht =>
        simp at ht; subst ht
        rw [Nat.add_zero, hcd, hRb.cell]
        have h0 := x4 0 _ rfl
        rw [Nat.add_zero, hR.cell] at h0
        have h1 : i * 5 < csr.size := (Array.getElem?_eq_some_iff.1 h0).1
        simp [Array.getElem?_setIfInBounds, h1]
      | 1, ht => rw [hco _ (by omega)]; exact x4 1 u ht
      | 2, ht => rw [hco _ (by omega)]; exact x4 2 u ht
      | 3, ht => rw [hco _ (by omega)]; exact x4 3 u ht
      | 4, ht => rw [hco _ (by omega)]; exact x4 4 u ht
      | t + 5, ht => simp at ht
    · rcases hk with hk | hk <;> omega
    · have := (x5.lt k e.symm).1
      have := x6 k e
      rcases hk with hk | hk <;> omega
    · have := (x7.lt k e.symm).1
      have := x8 k e
      rcases hk with hk | hk <;> omega
end Go.Proofs.Ytpdebnecfknohaa
