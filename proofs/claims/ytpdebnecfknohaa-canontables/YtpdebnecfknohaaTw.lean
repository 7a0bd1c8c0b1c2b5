/-
  What Used, rising and allUsed leave.
-/
import Derived.Test.YtpdebnecfknohaaTv
import Derived.Laws.OwnMore
namespace Go.Proofs.Ytpdebnecfknohaa
open Go.RowKit
set_option linter.unusedVariables false
set_option linter.unusedSimpArgs false
set_option maxRecDepth 20000

theorem append_none_any {base n c : Nat} {v : Value} {xs : List Value} {w : World} (hown : w.ownsRow base 3 1 v n xs) : (Builtin.append_ #[27, 27] 27 #[v, .slice none 0 c]).run Try.prog w = .ok v w := by
  obtain ⟨i0, hi0, hz0, hz1, hz2⟩ := info_parts info3
  rcases hown.2 with ⟨rfl, rfl⟩ | ⟨g, cap, cur, rfl, _, _, hnc, _⟩
  · simp [Builtin.append_, run_underlying Try.underlying27, sizeOf, typeInfo, hi0, Builtin.lenOf, Builtin.firstCells]
  · simp [Builtin.append_, run_underlying Try.underlying27, sizeOf, typeInfo, hi0, Builtin.lenOf, Builtin.firstCells, hnc, storeCells]
/-- Numbers that are read, behind a row of numbers. -/
theorem pushL {base n m c : Nat} {v : Value} {l xs : List Int} {A : Option Addr} {w : World} (hn : n = l.length) (hm : m = xs.length) (h : w.ownsRow base 3 1 v n (intV l)) (hr : RdS (fun _ => True) w A m 1 (intV xs)) (hl : n ≤ 100000000) (hx : m ≤ 1000000) (hb : base ≤ w.heap.size) :
    ∃ A' c' w', (Builtin.append_ #[27, 27] 27 #[v, .slice A m c]).run Try.prog w = .ok (.slice A' (n + m) c') w' ∧ w'.ownsRow base 3 1 (.slice A' (n + m) c') (n + m) (intV (l ++ xs)) ∧ w.grownBy w' v.ownBlock := by
  obtain ⟨i0, hi0, hz0, hz1, hz2⟩ := info_parts info3
  cases A with
  | none =>
    have h0 : m = 0 := by
      rcases Nat.eq_zero_or_pos m with h0 | h0
      · exact h0
      · obtain ⟨b, o, hA, _⟩ := hr.2 h0; cases hA
    subst h0
    have hxs : xs = [] := List.eq_nil_of_length_eq_zero hm.symm
    subst hxs
    obtain ⟨A', c', rfl⟩ := own_slice h
    exact ⟨A', c', w, append_none_any h, by simpa using h, World.grownBy.refl _ _⟩
  | some a =>
    have hc : ∀ j u, (intV xs)[j]? = some u → w.cell? (a.add j) = some u := by
      intro j u hu
      have hp : 0 < m := by
        rcases Nat.eq_zero_or_pos m with h0 | h0
        · have : xs = [] := List.eq_nil_of_length_eq_zero (by omega)
          subst this; simp [intV] at hu
        · exact h0
      obtain ⟨b, o, hA, _, hc⟩ := hr.2 hp
      injection hA with hA
      subst hA
      rw [Go.WideShapes.add_plain]
      exact hc j u hu
    obtain ⟨v5, w5, hr5, hO5, hg5, _, _⟩ := run_append_own_at (P := Try.prog) w base 27 27 3 i0 (.int .i64 0) 1 8 Try.underlying27 hi0 hz0 hz1 hz2 rfl (by decide) v n _ h a m c (intV xs) hr.1 hc (by intro u hu; simp [intV] at hu; obtain ⟨x, _, rfl⟩ := hu; rfl) (by unfold maxLen; omega) (by omega) hb
    obtain ⟨A', c', rfl⟩ := own_slice hO5
    exact ⟨A', c', w5, hr5, by rw [show intV (l ++ xs) = intV l ++ intV xs from by simp [intV]]; exact hO5, hg5⟩
/-- The numbers of the strings that are used. -/
def usedL (M : Md) : List Int := M.globs ++ (M.funcs.map fun f => f.name :: (f.locals ++ f.sites)).flatten
def usedI (G : List Int) (L : List Fn) (i : Nat) : List Int := G ++ ((L.take i).map fun f => f.name :: (f.locals ++ f.sites)).flatten
theorem usedI_succ (G : List Int) (L : List Fn) (i : Nat) (h : i < L.length) : usedI G L (i + 1) = ((usedI G L i ++ [L[i].name]) ++ L[i].locals) ++ L[i].sites := by
  have e : L.take (i + 1) = L.take i ++ [L[i]] := List.take_succ_eq_append_getElem h
  unfold usedI
  rw [e, List.map_append, List.flatten_append]
  simp only [List.map_cons, List.map_nil, List.flatten_cons, List.flatten_nil, List.append_nil, List.append_assoc, List.cons_append, List.nil_append]
theorem usedI_le (G : List Int) (L : List Fn) (i : Nat) : (usedI G L i).length ≤ (usedI G L L.length).length := by
  have e : (usedI G L L.length) = usedI G L i ++ ((L.drop i).map fun f => f.name :: (f.locals ++ f.sites)).flatten := by
    unfold usedI
    rw [List.take_length, List.append_assoc, ← List.flatten_append, ← List.map_append, List.take_append_drop]
  rw [e, List.length_append]
  omega
set_option maxHeartbeats 4000000 in
theorem used2_any (As Ag Af Ae : Option Addr) (ls cs cg cf ne ce : Nat) (G : List Int) (L : List Fn) (w : World) (hG : RdS (fun _ => True) w Ag G.length 1 (intV G)) (hF : FnsS (fun _ => True) w Af L) (hg : G.length ≤ 1000000) (hl : L.length ≤ 1000000) (hlo : ∀ f ∈ L, f.locals.length ≤ 1000000 ∧ f.sites.length ≤ 1000000) (hU : (usedI G L L.length).length ≤ 90000000) :
    Calls Try.prog 23 #[.agg #[.slice As ls cs, .slice Ag G.length cg, .slice Af L.length cf, .slice Ae ne ce]] w (IntsPost w (usedI G L L.length)) := by
  have HF := Lib.hid hF
  have HG := Lib.hid hG
  have HLo := Lib.hid hlo
  have hUl := usedI_le G L
  obtain ⟨U, hUe⟩ : ∃ U, U = usedI G L := ⟨_, rfl⟩
  have HUs : Hid (∀ i (h : i < L.length), U (i + 1) = ((U i ++ [L[i].name]) ++ L[i].locals) ++ L[i].sites) := by rw [hUe]; exact fun i h => usedI_succ G L i h
  have HU0 : Hid (U 0 = G) := by show _ = _; rw [hUe]; simp [usedI]
  rw [← hUe] at hUl hU ⊢
  have HUl : Hid (∀ i, (U i).length ≤ 90000000) := fun i => Nat.le_trans (hUl i) hU
  obtain ⟨nf, hnf⟩ : ∃ n, n = L.length := ⟨_, rfl⟩
  obtain ⟨ng, hng⟩ : ∃ n, n = G.length := ⟨_, rfl⟩
  have HNF := Lib.hid hnf
  have HNG := Lib.hid hng
  rw [← hnf] at hl ⊢
  rw [← hng] at hg hG ⊢
  obtain ⟨w1, hw1⟩ : ∃ w1, w1 = w.alloc (.cells #[.slice As ls cs, .slice Ag ng cg, .slice Af nf cf, .slice Ae ne ce] 30) := ⟨_, rfl⟩
  have HB1 : Hid (Below w.heap.size w w1) := by rw [hw1]; exact (Below.refl _ _).alloc (Nat.le_refl _) _
  have K1 : Hid (Blk w1 w.heap.size 30 #[.slice As ls cs, .slice Ag ng cg, .slice Af nf cf, .slice Ae ne ce]) := by rw [hw1]; exact Blk.new w 30 _
  obtain ⟨A0, c0, w2, hr2, hO2, hg2⟩ := pushL (base := w.heap.size) (n := 0) (m := ng) (c := cg) (v := .slice none 0 0) (l := []) (xs := G) (A := Ag) (w := w1) rfl hng (World.ownsRow_nil _ _ _ _) (hG.old HB1.out (by omega)) (by omega) hg HB1.out.size
  simp only [Nat.zero_add, List.nil_append] at hr2 hO2
  have HB2 : Hid (Below w.heap.size w w2) := HB1.out.grown hg2 HB1.out.size (fun k hk => by simp [Value.ownBlock] at hk)
  have K2 : Hid (Blk w2 w.heap.size 30 #[.slice As ls cs, .slice Ag ng cg, .slice Af nf cf, .slice Ae ne ce]) := K1.out.grown hg2 (by simp [Value.ownBlock])
  have HO2 : Hid (w2.ownsRow w.heap.size 3 1 (.slice A0 ng c0) ng (intV (U 0))) := by
    show World.ownsRow _ _ _ _ _ _ _
    rw [HU0.out]; exact hO2
  have HN0 : Hid (ng = (U 0).length) := by show _ = _; rw [HU0.out]; exact HNG.out
  clear hF hG hlo hUl hU hUe hnf hng hO2 hg2
  go_enter Try.func23, Try.ntmps23
  go_upto_region 2 with (fail)
  rw [← hw1]
  clear hw1
  obtain ⟨m0, m1, m2, m3⟩ := K1.out.c4
  have z1 : w.heap.size < w1.heap.size := K1.out.lt
  obtain ⟨k0, k1, k2, k3⟩ := K2.out.c4
  have z2 : w.heap.size < w2.heap.size := K2.out.lt
  go_wp2_with (at_builtin; refine Lib.wpList_append_run _ rfl _ _ 27 27 rfl _ _ rfl rfl _ _ hr2 ?_)
  clear hr2 m0 m1 m2 m3 z1 k0 k1 k2 k3 z2
  go_loopw [3, 13] (fun s3 s13 wr => ∃ (i n : Nat) (A : Option Addr) (c : Nat), i ≤ nf ∧ s13 = .int .i64 (i : Int) ∧ s3 = .slice A n c ∧ Hid (n = (U i).length) ∧ Hid (wr.ownsRow w.heap.size 3 1 (.slice A n c) n (intV (U i))) ∧ Hid (Below w.heap.size w wr)) (fun _ s13 _ => nf - (intOf s13).toNat)
  case atStart => exact ⟨0, ng, A0, c0, Nat.zero_le _, rfl, rfl, HN0, HO2, HB2⟩
  case round =>
    clear HO2 HB2 HN0 HU0 HG K1 K2 HB1
    obtain ⟨i, n, A, c, hi, rfl, rfl, hn, hO, hB⟩ := hrel
    by_cases hlt : i < nf
    · have hiL : i < L.length := by rw [← HNF.out]; exact hlt
      have hli : (i : Int) < (nf : Int) := by omega
      obtain ⟨b, o, rfl, _, hc⟩ := HF.out (by omega)
      obtain ⟨fs, ⟨Al, cl, At, ct, Ab, cb, rfl, r1, r2, _⟩, hcc⟩ := hc i hiL
      have hbl : b < w.heap.size := World.block_lt_of_cell? w _ (hcc 0 _ rfl)
      have e0 := cell_old hB.out hbl (hcc 0 _ rfl)
      have e1 := cell_old hB.out hbl (hcc 1 _ rfl)
      have e2 := cell_old hB.out hbl (hcc 2 _ rfl)
      have e3 := cell_old hB.out hbl (hcc 3 _ rfl)
      have e4 := cell_old hB.out hbl (hcc 4 _ rfl)
      simp only [Nat.add_zero] at e0
      obtain ⟨hlo1, hlo2⟩ := HLo.out _ (List.getElem_mem hiL)
      have hus := HUs.out i hiL
      have hul := HUl.out (i + 1)
      generalize L[i] = f at *
      obtain ⟨fn, fp, fl, ft, fb⟩ := f
      dsimp only at *
      obtain ⟨nl, hnl⟩ : ∃ x, x = fl.length := ⟨_, rfl⟩
      obtain ⟨nt, hnt⟩ : ∃ x, x = ft.length := ⟨_, rfl⟩
      obtain ⟨nb, hnb⟩ : ∃ x, x = fb.len := ⟨_, rfl⟩
      rw [← hnl] at e2 r1 hlo1
      rw [← hnt] at e3 r2 hlo2
      rw [← hnb] at e4
      have hub : n + 1 + nl + nt ≤ 90000000 := by
        rw [hus] at hul
        simp only [List.length_append, List.length_cons, List.length_nil] at hul
        have := hn.out
        omega
      have HBA : Below w.heap.size w (wr.alloc (.cells #[.int .i64 fn, .int .i64 fp, .slice Al nl cl, .slice At nt ct, .slice Ab nb cb] 40)) := hB.out.alloc hB.out.size _
      have hOA := hO.out.alloc (.cells #[.int .i64 fn, .int .i64 fp, .slice Al nl cl, .slice At nt ct, .slice Ab nb cb] 40)
      have KA : Blk (wr.alloc (.cells #[.int .i64 fn, .int .i64 fp, .slice Al nl cl, .slice At nt ct, .slice Ab nb cb] 40)) wr.heap.size 40 #[.int .i64 fn, .int .i64 fp, .slice Al nl cl, .slice At nt ct, .slice Ab nb cb] := Blk.new wr 40 _
      -- the name
      have hr1c : RdS (fun _ => True) ((wr.alloc (.cells #[.int .i64 fn, .int .i64 fp, .slice Al nl cl, .slice At nt ct, .slice Ab nb cb] 40)).alloc (.cells #[.int .i64 fn] 3)) (some ⟨wr.heap.size + 1, 0, none⟩) 1 1 (intV [fn]) := ⟨rfl, fun _ => ⟨_, 0, rfl, trivial, fun j u hj => by
        have hk : Blk ((wr.alloc (.cells #[.int .i64 fn, .int .i64 fp, .slice Al nl cl, .slice At nt ct, .slice Ab nb cb] 40)).alloc (.cells #[.int .i64 fn] 3)) (wr.heap.size + 1) 3 #[.int .i64 fn] := Blk.new' _ 3 _ _ (by simp)
        rw [Nat.zero_add, hk.cell]
        simpa [intV] using hj⟩⟩
      obtain ⟨A3, c3, w3, q3, hO3, hg3⟩ := pushL (base := w.heap.size) (m := 1) (c := 1) hn.out (xs := [fn]) rfl (hOA.alloc (.cells #[.int .i64 fn] 3)) hr1c (by omega) (by omega) (by have := hB.out.size; simp; omega)
      have hB3 : Below w.heap.size w w3 := (HBA.alloc HBA.size (.cells #[.int .i64 fn] 3)).grown hg3 (by have := hB.out.size; simp; omega) (fun k hk => (hOA.lt k hk).1)
      have hK3 : Blk w3 wr.heap.size 40 #[.int .i64 fn, .int .i64 fp, .slice Al nl cl, .slice At nt ct, .slice Ab nb cb] := (KA.alloc _).grown hg3 (own_ne (hOA.alloc (.cells #[.int .i64 fn] 3)) (KA.alloc _) (by decide))
      -- locals
      obtain ⟨A4, c4, w4, q4, hO4, hg4⟩ := pushL (base := w.heap.size) (m := nl) (c := cl) (l := U i ++ [fn]) (xs := fl) (n := n + 1) (by have := hn.out; simp; omega) hnl hO3 (r1.old hB3 (by omega)) (by omega) hlo1 hB3.size
      have hB4 : Below w.heap.size w w4 := hB3.grown hg4 hB3.size (fun k hk => (hO3.lt k hk).1)
      have hK4 : Blk w4 wr.heap.size 40 #[.int .i64 fn, .int .i64 fp, .slice Al nl cl, .slice At nt ct, .slice Ab nb cb] := hK3.grown hg4 (own_ne hO3 hK3 (by decide))
      -- sites
      obtain ⟨A5, c5, w5, q5, hO5, hg5⟩ := pushL (base := w.heap.size) (m := nt) (c := ct) (l := (U i ++ [fn]) ++ fl) (xs := ft) (n := n + 1 + nl) (by have := hn.out; simp; omega) hnt hO4 (r2.old hB4 (by omega)) (by omega) hlo2 hB4.size
      have HB5 : Hid (Below w.heap.size w w5) := hB4.grown hg5 hB4.size (fun k hk => (hO4.lt k hk).1)
      have HO5 : Hid (w5.ownsRow w.heap.size 3 1 (.slice A5 (n + 1 + nl + nt) c5) (n + 1 + nl + nt) (intV (U (i + 1)))) := by
        show World.ownsRow _ _ _ _ _ _ _
        rw [hus]; exact hO5
      have HN5 : Hid (n + 1 + nl + nt = (U (i + 1)).length) := by
        show _ = _
        rw [hus]
        simp only [List.length_append, List.length_cons, List.length_nil]
        have := hn.out
        omega
      have KA' := Lib.hid KA
      have K3 := Lib.hid hK3
      have K4 := Lib.hid hK4
      obtain ⟨wa, hwa⟩ : ∃ wa, wa = wr.alloc (.cells #[.int .i64 fn, .int .i64 fp, .slice Al nl cl, .slice At nt ct, .slice Ab nb cb] 40) := ⟨_, rfl⟩
      clear hc hcc r1 r2 hlo1 hlo2 hus hul hnl hnt hnb hub HBA hOA KA hr1c hO3 hg3 hB3 hK3 hO4 hg4 hB4 hK4 hO5 hg5 hn hO hB hwa
      go_upto_region 6 with (fail)
      go_upto_region 7 with (at_builtin; refine Lib.wpList_append_run _ rfl _ _ 27 27 rfl _ _ rfl rfl _ _ q3 ?_)
      clear q3 e0 e1 e2 e3 e4 KA'
      obtain ⟨c0', c1', c2', c3', c4'⟩ := K3.out.c5
      have y1 : wr.heap.size < w3.heap.size := K3.out.lt
      go_upto_region 8 with (at_builtin; refine Lib.wpList_append_run _ rfl _ _ 27 27 rfl _ _ rfl rfl _ _ q4 ?_)
      clear q4 c0' c1' c2' c3' c4' y1 K3
      obtain ⟨c0', c1', c2', c3', c4'⟩ := K4.out.c5
      have y1 : wr.heap.size < w4.heap.size := K4.out.lt
      go_wp2_with (at_builtin; refine Lib.wpList_append_run _ rfl _ _ 27 27 rfl _ _ rfl rfl _ _ q5 ?_)
      clear q5 c0' c1' c2' c3' c4' y1 K4
      go_roundw
      case rel => exact ⟨i + 1, n + 1 + nl + nt, A5, c5, by omega, by go_num, rfl, HN5, HO5, HB5⟩
      case measure => simp [intOf]; omega
    · obtain rfl : i = nf := by omega
      have HN2 := hn
      clear hn
      go_wp2
      go_ret
      exact ⟨A, c, by rw [← HN2.out]; rfl, by rw [← HN2.out]; exact hO.out, hB.out⟩
end Go.Proofs.Ytpdebnecfknohaa
