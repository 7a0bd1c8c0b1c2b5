/-
  Parts: Tw Xd Xf Xo Xp Xr Xs Tz Xt Qy Qm Zd.
-/
import Derived.Test.YtpdebnecfknohaaRn00
import Derived.Test.YtpdebnecfknohaaRn01
import Derived.Test.YtpdebnecfknohaaRn02
import Derived.Test.YtpdebnecfknohaaRn03
import Derived.Test.YtpdebnecfknohaaRn04
import Derived.Test.YtpdebnecfknohaaRn05
import Derived.Test.YtpdebnecfknohaaRn06
import Derived.Test.YtpdebnecfknohaaRn07
import Derived.Test.YtpdebnecfknohaaRn08
import Derived.Test.YtpdebnecfknohaaRn09
import Derived.Laws.OwnMore
import Derived.Deep.LoopGhost
import Derived.Deep.RegionHeld
namespace Go.Proofs.Ytpdebnecfknohaa
open Go.RowKit
set_option linter.unusedVariables false
set_option linter.unusedSimpArgs false
set_option maxRecDepth 20000
theorem append_none_any {base n c : Nat} {v : Value} {xs : List Value} {w : World} (hown : w.ownsRow base 3 1 v n xs) : (Builtin.append_ #[27, 27] 27 #[v, .slice none 0 c]).run Try.prog w = .ok v w := by
  obtain ⟨i0, hi0, hz0, hz1, hz2⟩ := info_parts info3
  rcases hown.2 with ⟨rfl, rfl⟩ | ⟨g, cap, cur, rfl, _, _, hnc, _⟩
  · simp [Builtin.append_, run_underlying Try.underlying27, sizeOf, typeInfo, hi0, Builtin.lenOf, Builtin.firstCells]
  · simp [Builtin.append_, run_underlying Try.underlying27, sizeOf, typeInfo, hi0, Builtin.lenOf, Builtin.firstCells, hnc, storeCells]
/-- Numbers that are read, behind a row of numbers. -/
theorem pushL {base n m c : Nat} {v : Value} {l xs : List Int} {A : Option Addr} {w : World} (hn : n = l.length) (hm : m = xs.length) (h : w.ownsRow base 3 1 v n (intV l)) (hr : RdS (fun _ => True) w A m 1 (intV xs)) (hl : n ≤ 100000000) (hx : m ≤ 1000000) (hb : base ≤ w.heap.size) :
    ∃ A' c' w', (Builtin.append_ #[27, 27] 27 #[v, .slice A m c]).run Try.prog w = .ok (.slice A' (n + m) c') w' ∧ w'.ownsRow base 3 1 (.slice A' (n + m) c') (n + m) (intV (l ++ xs)) ∧ w.grownBy w' v.ownBlock := by
  obtain ⟨i0, hi0, hz0, hz1, hz2⟩ := info_parts info3
  cases A with
  | none =>
    have h0 : m = 0 := by
      rcases Nat.eq_zero_or_pos m with h0 | h0
      · exact h0
      · obtain ⟨b, o, hA, _⟩ := hr.2 h0; cases hA
    subst h0
    have hxs : xs = [] := List.eq_nil_of_length_eq_zero hm.symm
    subst hxs
    obtain ⟨A', c', rfl⟩ := own_slice h
    exact ⟨A', c', w, append_none_any h, by simpa using h, World.grownBy.refl _ _⟩
  | some a =>
    have hc : ∀ j u, (intV xs)[j]? = some u → w.cell? (a.add j) = some u := by
      intro j u hu
      have hp : 0 < m := by
        rcases Nat.eq_zero_or_pos m with h0 | h0
        · have : xs = [] := List.eq_nil_of_length_eq_zero (by omega)
          subst this; simp [intV] at hu
        · exact h0
      obtain ⟨b, o, hA, _, hc⟩ := hr.2 hp
      injection hA with hA
      subst hA
      rw [Go.WideShapes.add_plain]
      exact hc j u hu
    obtain ⟨v5, w5, hr5, hO5, hg5, _, _⟩ := run_append_own_at (P := Try.prog) w base 27 27 3 i0 (.int .i64 0) 1 8 Try.underlying27 hi0 hz0 hz1 hz2 rfl (by decide) v n _ h a m c (intV xs) hr.1 hc (by intro u hu; simp [intV] at hu; obtain ⟨x, _, rfl⟩ := hu; rfl) (by unfold maxLen; omega) (by omega) hb
    obtain ⟨A', c', rfl⟩ := own_slice hO5
    exact ⟨A', c', w5, hr5, by rw [show intV (l ++ xs) = intV l ++ intV xs from by simp [intV]]; exact hO5, hg5⟩
/-- The numbers of the strings that are used. -/
def usedL (M : Md) : List Int := M.globs ++ (M.funcs.map fun f => f.name :: (f.locals ++ f.sites)).flatten
def usedI (G : List Int) (L : List Fn) (i : Nat) : List Int := G ++ ((L.take i).map fun f => f.name :: (f.locals ++ f.sites)).flatten
theorem usedI_succ (G : List Int) (L : List Fn) (i : Nat) (h : i < L.length) : usedI G L (i + 1) = ((usedI G L i ++ [L[i].name]) ++ L[i].locals) ++ L[i].sites := by
  have e : L.take (i + 1) = L.take i ++ [L[i]] := List.take_succ_eq_append_getElem h
  unfold usedI
  rw [e, List.map_append, List.flatten_append]
  simp only [List.map_cons, List.map_nil, List.flatten_cons, List.flatten_nil, List.append_nil, List.append_assoc, List.cons_append, List.nil_append]
theorem usedI_le (G : List Int) (L : List Fn) (i : Nat) : (usedI G L i).length ≤ (usedI G L L.length).length := by
  have e : (usedI G L L.length) = usedI G L i ++ ((L.drop i).map fun f => f.name :: (f.locals ++ f.sites)).flatten := by
    unfold usedI
    rw [List.take_length, List.append_assoc, ← List.flatten_append, ← List.map_append, List.take_append_drop]
  rw [e, List.length_append]
  omega
set_option maxHeartbeats 4000000 in
theorem used2_any (As Ag Af Ae : Option Addr) (ls cs cg cf ne ce : Nat) (G : List Int) (L : List Fn) (w : World) (hG : RdS (fun _ => True) w Ag G.length 1 (intV G)) (hF : FnsS (fun _ => True) w Af L) (hg : G.length ≤ 1000000) (hl : L.length ≤ 1000000) (hlo : ∀ f ∈ L, f.locals.length ≤ 1000000 ∧ f.sites.length ≤ 1000000) (hU : (usedI G L L.length).length ≤ 90000000) :
    Calls Try.prog 23 #[.agg #[.slice As ls cs, .slice Ag G.length cg, .slice Af L.length cf, .slice Ae ne ce]] w (IntsPost w (usedI G L L.length)) := by
  have HF := Lib.hid hF
  have HG := Lib.hid hG
  have HLo := Lib.hid hlo
  have hUl := usedI_le G L
  obtain ⟨U, hUe⟩ : ∃ U, U = usedI G L := ⟨_, rfl⟩
  have HUs : Hid (∀ i (h : i < L.length), U (i + 1) = ((U i ++ [L[i].name]) ++ L[i].locals) ++ L[i].sites) := by rw [hUe]; exact fun i h => usedI_succ G L i h
  have HU0 : Hid (U 0 = G) := by show _ = _; rw [hUe]; simp [usedI]
  rw [← hUe] at hUl hU ⊢
  have HUl : Hid (∀ i, (U i).length ≤ 90000000) := fun i => Nat.le_trans (hUl i) hU
  obtain ⟨nf, hnf⟩ : ∃ n, n = L.length := ⟨_, rfl⟩
  obtain ⟨ng, hng⟩ : ∃ n, n = G.length := ⟨_, rfl⟩
  have HNF := Lib.hid hnf
  have HNG := Lib.hid hng
  rw [← hnf] at hl ⊢
  rw [← hng] at hg hG ⊢
  obtain ⟨w1, hw1⟩ : ∃ w1, w1 = w.alloc (.cells #[.slice As ls cs, .slice Ag ng cg, .slice Af nf cf, .slice Ae ne ce] 30) := ⟨_, rfl⟩
  have HB1 : Hid (Below w.heap.size w w1) := by rw [hw1]; exact (Below.refl _ _).alloc (Nat.le_refl _) _
  have K1 : Hid (Blk w1 w.heap.size 30 #[.slice As ls cs, .slice Ag ng cg, .slice Af nf cf, .slice Ae ne ce]) := by rw [hw1]; exact Blk.new w 30 _
  obtain ⟨A0, c0, w2, hr2, hO2, hg2⟩ := pushL (base := w.heap.size) (n := 0) (m := ng) (c := cg) (v := .slice none 0 0) (l := []) (xs := G) (A := Ag) (w := w1) rfl hng (World.ownsRow_nil _ _ _ _) (hG.old HB1.out (by omega)) (by omega) hg HB1.out.size
  simp only [Nat.zero_add, List.nil_append] at hr2 hO2
  have HB2 : Hid (Below w.heap.size w w2) := HB1.out.grown hg2 HB1.out.size (fun k hk => by simp [Value.ownBlock] at hk)
  have K2 : Hid (Blk w2 w.heap.size 30 #[.slice As ls cs, .slice Ag ng cg, .slice Af nf cf, .slice Ae ne ce]) := K1.out.grown hg2 (by simp [Value.ownBlock])
  have HO2 : Hid (w2.ownsRow w.heap.size 3 1 (.slice A0 ng c0) ng (intV (U 0))) := by
    show World.ownsRow _ _ _ _ _ _ _
    rw [HU0.out]; exact hO2
  have HN0 : Hid (ng = (U 0).length) := by show _ = _; rw [HU0.out]; exact HNG.out
  clear hF hG hlo hUl hU hUe hnf hng hO2 hg2
  go_enter Try.func23, Try.ntmps23
  go_upto_region 2 with (fail)
  rw [← hw1]
  clear hw1
  obtain ⟨m0, m1, m2, m3⟩ := K1.out.c4
  have z1 : w.heap.size < w1.heap.size := K1.out.lt
  obtain ⟨k0, k1, k2, k3⟩ := K2.out.c4
  have z2 : w.heap.size < w2.heap.size := K2.out.lt
  go_wp2_with (at_builtin; refine Lib.wpList_append_run _ rfl _ _ 27 27 rfl _ _ rfl rfl _ _ hr2 ?_)
  clear hr2 m0 m1 m2 m3 z1 k0 k1 k2 k3 z2
  go_loopw [3, 13] (fun s3 s13 wr => ∃ (i n : Nat) (A : Option Addr) (c : Nat), i ≤ nf ∧ s13 = .int .i64 (i : Int) ∧ s3 = .slice A n c ∧ Hid (n = (U i).length) ∧ Hid (wr.ownsRow w.heap.size 3 1 (.slice A n c) n (intV (U i))) ∧ Hid (Below w.heap.size w wr)) (fun _ s13 _ => nf - (intOf s13).toNat)
  case atStart => exact ⟨0, ng, A0, c0, Nat.zero_le _, rfl, rfl, HN0, HO2, HB2⟩
  case round =>
    clear HO2 HB2 HN0 HU0 HG K1 K2 HB1
    obtain ⟨i, n, A, c, hi, rfl, rfl, hn, hO, hB⟩ := hrel
    by_cases hlt : i < nf
    · have hiL : i < L.length := by rw [← HNF.out]; exact hlt
      have hli : (i : Int) < (nf : Int) := by omega
      obtain ⟨b, o, rfl, _, hc⟩ := HF.out (by omega)
      obtain ⟨fs, ⟨Al, cl, At, ct, Ab, cb, rfl, r1, r2, _⟩, hcc⟩ := hc i hiL
      have hbl : b < w.heap.size := World.block_lt_of_cell? w _ (hcc 0 _ rfl)
      have e0 := cell_old hB.out hbl (hcc 0 _ rfl)
      have e1 := cell_old hB.out hbl (hcc 1 _ rfl)
      have e2 := cell_old hB.out hbl (hcc 2 _ rfl)
      have e3 := cell_old hB.out hbl (hcc 3 _ rfl)
      have e4 := cell_old hB.out hbl (hcc 4 _ rfl)
      simp only [Nat.add_zero] at e0
      obtain ⟨hlo1, hlo2⟩ := HLo.out _ (List.getElem_mem hiL)
      have hus := HUs.out i hiL
      have hul := HUl.out (i + 1)
      generalize L[i] = f at *
      obtain ⟨fn, fp, fl, ft, fb⟩ := f
      dsimp only at *
      obtain ⟨nl, hnl⟩ : ∃ x, x = fl.length := ⟨_, rfl⟩
      obtain ⟨nt, hnt⟩ : ∃ x, x = ft.length := ⟨_, rfl⟩
      obtain ⟨nb, hnb⟩ : ∃ x, x = fb.len := ⟨_, rfl⟩
      rw [← hnl] at e2 r1 hlo1
      rw [← hnt] at e3 r2 hlo2
      rw [← hnb] at e4
      have hub : n + 1 + nl + nt ≤ 90000000 := by
        rw [hus] at hul
        simp only [List.length_append, List.length_cons, List.length_nil] at hul
        have := hn.out
        omega
      have HBA : Below w.heap.size w (wr.alloc (.cells #[.int .i64 fn, .int .i64 fp, .slice Al nl cl, .slice At nt ct, .slice Ab nb cb] 40)) := hB.out.alloc hB.out.size _
      have hOA := hO.out.alloc (.cells #[.int .i64 fn, .int .i64 fp, .slice Al nl cl, .slice At nt ct, .slice Ab nb cb] 40)
      have KA : Blk (wr.alloc (.cells #[.int .i64 fn, .int .i64 fp, .slice Al nl cl, .slice At nt ct, .slice Ab nb cb] 40)) wr.heap.size 40 #[.int .i64 fn, .int .i64 fp, .slice Al nl cl, .slice At nt ct, .slice Ab nb cb] := Blk.new wr 40 _
      -- the name
      have hr1c : RdS (fun _ => True) ((wr.alloc (.cells #[.int .i64 fn, .int .i64 fp, .slice Al nl cl, .slice At nt ct, .slice Ab nb cb] 40)).alloc (.cells #[.int .i64 fn] 3)) (some ⟨wr.heap.size + 1, 0, none⟩) 1 1 (intV [fn]) := ⟨rfl, fun _ => ⟨_, 0, rfl, trivial, fun j u hj => by
        have hk : Blk ((wr.alloc (.cells #[.int .i64 fn, .int .i64 fp, .slice Al nl cl, .slice At nt ct, .slice Ab nb cb] 40)).alloc (.cells #[.int .i64 fn] 3)) (wr.heap.size + 1) 3 #[.int .i64 fn] := Blk.new' _ 3 _ _ (by simp)
        rw [Nat.zero_add, hk.cell]
        simpa [intV] using hj⟩⟩
      obtain ⟨A3, c3, w3, q3, hO3, hg3⟩ := pushL (base := w.heap.size) (m := 1) (c := 1) hn.out (xs := [fn]) rfl (hOA.alloc (.cells #[.int .i64 fn] 3)) hr1c (by omega) (by omega) (by have := hB.out.size; simp; omega)
      have hB3 : Below w.heap.size w w3 := (HBA.alloc HBA.size (.cells #[.int .i64 fn] 3)).grown hg3 (by have := hB.out.size; simp; omega) (fun k hk => (hOA.lt k hk).1)
      have hK3 : Blk w3 wr.heap.size 40 #[.int .i64 fn, .int .i64 fp, .slice Al nl cl, .slice At nt ct, .slice Ab nb cb] := (KA.alloc _).grown hg3 (own_ne (hOA.alloc (.cells #[.int .i64 fn] 3)) (KA.alloc _) (by decide))
      -- locals
      obtain ⟨A4, c4, w4, q4, hO4, hg4⟩ := pushL (base := w.heap.size) (m := nl) (c := cl) (l := U i ++ [fn]) (xs := fl) (n := n + 1) (by have := hn.out; simp; omega) hnl hO3 (r1.old hB3 (by omega)) (by omega) hlo1 hB3.size
      have hB4 : Below w.heap.size w w4 := hB3.grown hg4 hB3.size (fun k hk => (hO3.lt k hk).1)
      have hK4 : Blk w4 wr.heap.size 40 #[.int .i64 fn, .int .i64 fp, .slice Al nl cl, .slice At nt ct, .slice Ab nb cb] := hK3.grown hg4 (own_ne hO3 hK3 (by decide))
      -- sites
      obtain ⟨A5, c5, w5, q5, hO5, hg5⟩ := pushL (base := w.heap.size) (m := nt) (c := ct) (l := (U i ++ [fn]) ++ fl) (xs := ft) (n := n + 1 + nl) (by have := hn.out; simp; omega) hnt hO4 (r2.old hB4 (by omega)) (by omega) hlo2 hB4.size
      have HB5 : Hid (Below w.heap.size w w5) := hB4.grown hg5 hB4.size (fun k hk => (hO4.lt k hk).1)
      have HO5 : Hid (w5.ownsRow w.heap.size 3 1 (.slice A5 (n + 1 + nl + nt) c5) (n + 1 + nl + nt) (intV (U (i + 1)))) := by
        show World.ownsRow _ _ _ _ _ _ _
        rw [hus]; exact hO5
      have HN5 : Hid (n + 1 + nl + nt = (U (i + 1)).length) := by
        show _ = _
        rw [hus]
        simp only [List.length_append, List.length_cons, List.length_nil]
        have := hn.out
        omega
      have KA' := Lib.hid KA
      have K3 := Lib.hid hK3
      have K4 := Lib.hid hK4
      obtain ⟨wa, hwa⟩ : ∃ wa, wa = wr.alloc (.cells #[.int .i64 fn, .int .i64 fp, .slice Al nl cl, .slice At nt ct, .slice Ab nb cb] 40) := ⟨_, rfl⟩
      clear hc hcc r1 r2 hlo1 hlo2 hus hul hnl hnt hnb hub HBA hOA KA hr1c hO3 hg3 hB3 hK3 hO4 hg4 hB4 hK4 hO5 hg5 hn hO hB hwa
      go_upto_region 6 with (fail)
      go_upto_region 7 with (at_builtin; refine Lib.wpList_append_run _ rfl _ _ 27 27 rfl _ _ rfl rfl _ _ q3 ?_)
      clear q3 e0 e1 e2 e3 e4 KA'
      obtain ⟨c0', c1', c2', c3', c4'⟩ := K3.out.c5
      have y1 : wr.heap.size < w3.heap.size := K3.out.lt
      go_upto_region 8 with (at_builtin; refine Lib.wpList_append_run _ rfl _ _ 27 27 rfl _ _ rfl rfl _ _ q4 ?_)
      clear q4 c0' c1' c2' c3' c4' y1 K3
      obtain ⟨c0', c1', c2', c3', c4'⟩ := K4.out.c5
      have y1 : wr.heap.size < w4.heap.size := K4.out.lt
      go_wp2_with (at_builtin; refine Lib.wpList_append_run _ rfl _ _ 27 27 rfl _ _ rfl rfl _ _ q5 ?_)
      clear q5 c0' c1' c2' c3' c4' y1 K4
      go_roundw
      case rel => exact ⟨i + 1, n + 1 + nl + nt, A5, c5, by omega, by go_num, rfl, HN5, HO5, HB5⟩
      case measure => simp [intOf]; omega
    · obtain rfl : i = nf := by omega
      have HN2 := hn
      clear hn
      go_wp2
      go_ret
      exact ⟨A, c, by rw [← HN2.out]; rfl, by rw [← HN2.out]; exact hO.out, hB.out⟩
end Go.Proofs.Ytpdebnecfknohaa
namespace Go.Proofs.Ytpdebnecfknohaa
open Go.RowKit Go.Maps
set_option linter.unusedVariables false
set_option linter.unusedSimpArgs false
set_option maxRecDepth 20000
/-- The strings of these numbers, each once, sorted. -/
def usS (strs : List (List UInt8)) (U : List Int) : List (List UInt8) := srtF (addsF [] (U.map (strF strs)))
end Go.Proofs.Ytpdebnecfknohaa
namespace Go.Proofs.Ytpdebnecfknohaa
open Go.RowKit Go.Maps
set_option linter.unusedVariables false
set_option linter.unusedSimpArgs false
set_option maxRecDepth 20000
/-- What the call of number reads: the strings that are used, and the module. -/
structure NumE (w : World) (gu gm : Nat) (Au : Option Addr) (m cu : Nat) (Z : List (List UInt8)) (As Ag Af Ae : Option Addr) (ls cs lg cg lf cf le ce : Nat) (strs : List (List UInt8)) : Prop where
  bu : Blk w gu 26 #[.slice Au m cu]
  bm : Blk w gm 30 #[.slice As ls cs, .slice Ag lg cg, .slice Af lf cf, .slice Ae le ce]
  ru : RdS (fun _ => True) w Au m 1 (strV Z)
  rs : RdS (fun _ => True) w As ls 1 (strV strs)
theorem NumE.old {w w' : World} {gu gm : Nat} {Au : Option Addr} {m cu : Nat} {Z : List (List UInt8)} {As Ag Af Ae : Option Addr} {ls cs lg cg lf cf le ce : Nat} {strs : List (List UInt8)} (h : NumE w gu gm Au m cu Z As Ag Af Ae ls cs lg cg lf cf le ce strs) (hb : Below w.heap.size w w') : NumE w' gu gm Au m cu Z As Ag Af Ae ls cs lg cg lf cf le ce strs :=
  ⟨h.bu.old hb, h.bm.old hb, h.ru.old hb (by omega), h.rs.old hb (by omega)⟩
end Go.Proofs.Ytpdebnecfknohaa
namespace Go.Proofs.Ytpdebnecfknohaa
open Go.RowKit Go.Maps
set_option linter.unusedVariables false
set_option linter.unusedSimpArgs false
set_option maxRecDepth 20000
/-- The first k are new. -/
def renK (F : Int → Int) (xs : List Int) (k : Nat) : List Int := (xs.take k).map F ++ xs.drop k
/-- What renumber leaves. -/
def RenB (B : Nat) (wB w : World) (F : Int → Int) (A : Option Addr) (n c : Nat) (xs : List Int) (e : Ending) (w' : World) : Prop :=
  e = .returned (.tuple #[]) ∧ w'.ownsRow B 3 1 (.slice A n c) n (intV (xs.map F)) ∧ Below B wB w' ∧ w.heap.size ≤ w'.heap.size ∧ ∀ k, k < w.heap.size → some k ≠ (Value.slice A n c).ownBlock → w'.heap[k]? = w.heap[k]?
end Go.Proofs.Ytpdebnecfknohaa
namespace Go.Proofs.Ytpdebnecfknohaa
open Go.RowKit
set_option linter.unusedVariables false
set_option linter.unusedSimpArgs false
set_option maxRecDepth 20000
theorem FnG.keptc {w0 : Nat} {W W' : World} {qf j a d : Nat} {f : Fn} (h : FnG w0 W qf j f a d) (hc : ∀ t, t < 5 → W'.cell? ⟨qf, j * 5 + t, none⟩ = W.cell? ⟨qf, j * 5 + t, none⟩) (hk : ∀ k, (k < w0 ∨ (a ≤ k ∧ k < d)) → k < W.heap.size → W'.heap[k]? = W.heap[k]?) : FnG w0 W' qf j f a d := by
  obtain ⟨Al, cl, As, cs', Ab, cb, b, c, h1, h2, h3, h4, h5, h6, h7, h8, h9⟩ := h
  refine ⟨Al, cl, As, cs', Ab, cb, b, c, h1, h2, h3, fun t u ht => ?_, own_blocks h5 (fun k hk' => ?_), h6, own_blocks h7 (fun k hk' => ?_), h8, h9.kept (fun k hk' hlt => hk k ?_ hlt) (fun _ h _ => h)⟩
  · have htl : t < 5 := by
      rcases Nat.lt_or_ge t 5 with h | h
      · exact h
      · rw [List.getElem?_eq_none (by simpa using h)] at ht; cases ht
    exact (hc t htl).trans (h4 t u ht)
  · have h10 := h5.lt k hk'.symm
    have h11 := h6 k hk'
    exact hk k (.inr ⟨h10.1, by omega⟩) h10.2
  · have h10 := h7.lt k hk'.symm
    have h11 := h8 k hk'
    exact hk k (.inr ⟨by omega, by omega⟩) h10.2
  · rcases hk' with h | h
    · exact .inl h
    · exact .inr ⟨by omega, h.2⟩
/-- All functions copied: their rows, between the bounds T. -/
structure CpT (w0 lo : Nat) (T : Nat → Nat) (W : World) (q : Nat) (L : List Fn) : Prop where
  row : ∃ cs, Blk W q 40 cs ∧ L.length * 5 ≤ cs.size
  qb : w0 ≤ q ∧ q < lo
  t0 : lo ≤ T 0
  t1 : ∀ j, T j ≤ T (j + 1)
  t2 : T L.length ≤ W.heap.size
  fns : ∀ j (h : j < L.length), FnG w0 W q j L[j] (T j) (T (j + 1))
theorem CpG.all {w0 lo : Nat} {W : World} {q : Nat} {L : List Fn} (h : CpG w0 lo W q L L.length) : ∃ T, CpT w0 lo T W q L := by
  obtain ⟨T, t0, t1, t2, t3⟩ := h.done
  exact ⟨T, h.row, h.qb, t0, t1, t2, fun j hj => t3 j hj hj⟩
theorem CpT.back {w0 lo : Nat} {T : Nat → Nat} {W : World} {q : Nat} {L : List Fn} (h : CpT w0 lo T W q L) : CpG w0 lo W q L L.length :=
  ⟨h.row, h.qb, fun j hj hij => by omega, T, h.t0, h.t1, h.t2, fun j hj _ => h.fns j hj⟩
theorem CpT.kept {w0 lo : Nat} {T : Nat → Nat} {W W' : World} {q : Nat} {L : List Fn} (h : CpT w0 lo T W q L) (hs : W.heap.size ≤ W'.heap.size) (hk : ∀ k, (k < w0 ∨ lo ≤ k ∨ k = q) → k < W.heap.size → W'.heap[k]? = W.heap[k]?) : CpT w0 lo T W' q L := by
  obtain ⟨cs, h1, h2⟩ := h.row
  have hq := hk q (.inr (.inr rfl)) h1.lt
  refine ⟨⟨cs, hq.trans h1, h2⟩, h.qb, h.t0, h.t1, Nat.le_trans h.t2 hs, fun j hj => (h.fns j hj).kept hq (fun k hk' hlt => hk k ?_ hlt)⟩
  rcases hk' with h3 | h3
  · exact .inl h3
  · have h4 := mono_le h.t1 j
    have h5 := h.t0
    exact .inr (.inl (by omega))
theorem CpT.old {w0 lo : Nat} {T : Nat → Nat} {W W' : World} {q : Nat} {L : List Fn} (h : CpT w0 lo T W q L) (hb : Below W.heap.size W W') : CpT w0 lo T W' q L :=
  h.kept hb.size (fun k _ hlt => hb.block k hlt)
theorem mono_lt {T : Nat → Nat} (h : ∀ j, T j ≤ T (j + 1)) (i : Nat) : ∀ d, T i ≤ T (i + d)
  | 0 => Nat.le_refl _
  | d + 1 => Nat.le_trans (mono_lt h i d) (h (i + d))
/-- One function changes, between its bounds and in its five cells. -/
theorem CpT.upd {w0 lo : Nat} {T : Nat → Nat} {W W' : World} {q : Nat} {L : List Fn} (h : CpT w0 lo T W q L) (i : Nat) (hi : i < L.length) (f' : Fn) (hsz : W.heap.size ≤ W'.heap.size) (hrow : ∃ cs, Blk W' q 40 cs ∧ L.length * 5 ≤ cs.size) (hcell : ∀ j, j ≠ i → ∀ t, t < 5 → W'.cell? ⟨q, j * 5 + t, none⟩ = W.cell? ⟨q, j * 5 + t, none⟩)
    (hk : ∀ k, k < W.heap.size → k ≠ q → ¬ (T i ≤ k ∧ k < T (i + 1)) → W'.heap[k]? = W.heap[k]?) (hG : FnG w0 W' q i f' (T i) (T (i + 1))) : CpT w0 lo T W' q (L.set i f') := by
  have hqb := h.qb
  have ht0 := h.t0
  refine ⟨by rw [List.length_set]; exact hrow, h.qb, h.t0, h.t1, by rw [List.length_set]; exact Nat.le_trans h.t2 hsz, fun j hj => ?_⟩
  rw [List.length_set] at hj
  by_cases hji : j = i
  · subst hji
    rw [List.getElem_set_self]
    exact hG
  · rw [List.getElem_set_ne (fun e => hji e.symm)]
    refine (h.fns j hj).keptc (hcell j hji) (fun k hk' hlt => hk k hlt ?_ ?_)
    · have := mono_le h.t1 j
      rcases hk' with h3 | h3 <;> omega
    · have h5 := mono_le h.t1 i
      rcases hk' with h3 | h3
      · omega
      · rcases Nat.lt_or_ge j i with h4 | h4
        · have h6 := mono_lt h.t1 (j + 1) (i - (j + 1))
          rw [show j + 1 + (i - (j + 1)) = i by omega] at h6
          omega
        · have h6 := mono_lt h.t1 (i + 1) (j - (i + 1))
          rw [show i + 1 + (j - (i + 1)) = j by omega] at h6
          omega
/-- An own row whose block stands higher. -/
theorem own_up {w : World} {B a e size n : Nat} {v : Value} {xs : List Value} (h : w.ownsRow B e size v n xs) (ha : ∀ k, some k = v.ownBlock → a ≤ k) : w.ownsRow a e size v n xs := by
  refine ⟨h.1, ?_⟩
  rcases h.2 with h1 | ⟨k, cap, cur, hv, h2, rest⟩
  · exact .inl h1
  · exact .inr ⟨k, cap, cur, hv, ha k (by rw [hv]; rfl), rest⟩
/-- One round of Of's loop: a name, the locals, the sites. -/
theorem CpT.round {w0 lo : Nat} {T : Nat → Nat} {wr wa wc wd : World} {q i : Nat} {L : List Fn} (h : CpT w0 lo T wr q L) (hi : i < L.length) {Al As Ab : Option Addr} {cl cs' cb b c : Nat} {v : Int} {xs ys : List Int} (ha : Below wr.heap.size wr wa)
    (x1 : b ≤ c) (x2 : c ≤ T (i + 1)) (x3 : T i ≤ b) (x4 : ∀ t u, ([.int .i64 L[i].name, .int .i64 L[i].params, .slice Al L[i].locals.length cl, .slice As L[i].sites.length cs', .slice Ab L[i].body.len cb] : List Value)[t]? = some u → wr.cell? ⟨q, i * 5 + t, none⟩ = some u)
    (x5 : wr.ownsRow (T i) 3 1 (.slice Al L[i].locals.length cl) L[i].locals.length (intV L[i].locals)) (x6 : ∀ k, some k = (Value.slice Al L[i].locals.length cl).ownBlock → k < b)
    (x7 : wr.ownsRow b 3 1 (.slice As L[i].sites.length cs') L[i].sites.length (intV L[i].sites)) (x8 : ∀ k, some k = (Value.slice As L[i].sites.length cs').ownBlock → k < c) (x9 : BodyS (fun k => k < w0 ∨ (c ≤ k ∧ k < T (i + 1))) wr Ab L[i].body)
    (hx : xs.length = L[i].locals.length) (hy : ys.length = L[i].sites.length)
    (c1 : wc.ownsRow w0 3 1 (.slice Al L[i].locals.length cl) L[i].locals.length (intV xs)) (c2 : (wa.setCell ⟨q, i * 5, none⟩ (.int .i64 v)).heap.size ≤ wc.heap.size) (c3 : ∀ k, k < (wa.setCell ⟨q, i * 5, none⟩ (.int .i64 v)).heap.size → some k ≠ (Value.slice Al L[i].locals.length cl).ownBlock → wc.heap[k]? = (wa.setCell ⟨q, i * 5, none⟩ (.int .i64 v)).heap[k]?)
    (d1 : wd.ownsRow w0 3 1 (.slice As L[i].sites.length cs') L[i].sites.length (intV ys)) (d2 : wc.heap.size ≤ wd.heap.size) (d3 : ∀ k, k < wc.heap.size → some k ≠ (Value.slice As L[i].sites.length cs').ownBlock → wd.heap[k]? = wc.heap[k]?) :
    CpT w0 lo T wd q (L.set i ⟨v, L[i].params, xs, ys, L[i].body⟩) ∧ ∀ k, k < wr.heap.size → k ≠ q → some k ≠ (Value.slice Al L[i].locals.length cl).ownBlock → some k ≠ (Value.slice As L[i].sites.length cs').ownBlock → wd.heap[k]? = wr.heap[k]? := by
  obtain ⟨csr, hR, hRs⟩ := h.row
  have hqb := h.qb
  have ht0 := h.t0
  have hti := mono_le h.t1 i
  have hqA : some q ≠ (Value.slice Al L[i].locals.length cl).ownBlock := fun e => by have := (x5.lt q e.symm).1; omega
  have hqS : some q ≠ (Value.slice As L[i].sites.length cs').ownBlock := fun e => by have := (x7.lt q e.symm).1; omega
  have hsz : (wa.setCell ⟨q, i * 5, none⟩ (.int .i64 v)).heap.size = wa.heap.size := by simp [World.setCell]
  have hsa := ha.size
  have hRa := hR.old ha
  have hRb := hRa.set_ (i * 5) (.int .i64 v)
  have hqd : wd.heap[q]? = (wa.setCell ⟨q, i * 5, none⟩ (.int .i64 v)).heap[q]? := (d3 q (by have := hRb.lt; omega) hqS).trans (c3 q hRb.lt hqA)
  have hcd : ∀ o, wd.cell? ⟨q, o, none⟩ = (wa.setCell ⟨q, i * 5, none⟩ (.int .i64 v)).cell? ⟨q, o, none⟩ := fun o => World.cell?_of_block hqd
  have hco : ∀ o, o ≠ i * 5 → wd.cell? ⟨q, o, none⟩ = wr.cell? ⟨q, o, none⟩ := fun o ho => by
    rw [hcd o, World.cell?_setCell_other _ _ _ _ (fun e => by injection e with _ e2; exact ho e2.symm)]
    exact World.cell?_of_block (ha.block q hR.lt)
  have hall : ∀ k, k < wr.heap.size → k ≠ q → some k ≠ (Value.slice Al L[i].locals.length cl).ownBlock → some k ≠ (Value.slice As L[i].sites.length cs').ownBlock → wd.heap[k]? = wr.heap[k]? := fun k hk h1 h2 h3 => by
    rw [d3 k (by omega) h3, c3 k (by omega) h2, Below.heap_setCell _ _ _ _ h1, ha.block k hk]
  refine ⟨?_, hall⟩
  refine h.upd i hi _ (by omega) ⟨_, hqd.trans hRb, by simp; exact hRs⟩ (fun j hj t ht => hco _ (by omega)) (fun k hk hkq hkT => hall k hk hkq (fun e => hkT ?_) (fun e => hkT ?_)) ?_
  · have := (x5.lt k e.symm).1; have := x6 k e; exact ⟨by omega, by omega⟩
  · have := (x7.lt k e.symm).1; have := x8 k e; exact ⟨by omega, by omega⟩
  · have hcx : wd.ownsRow (T i) 3 1 (.slice Al L[i].locals.length cl) L[i].locals.length (intV xs) :=
      own_blocks (own_up c1 (fun k hk => (x5.lt k hk.symm).1)) (fun k hk => d3 k (c1.lt k hk.symm).2 (fun e => by have := x6 k hk; have := (x7.lt k e.symm).1; omega))
    have hdx : wd.ownsRow b 3 1 (.slice As L[i].sites.length cs') L[i].sites.length (intV ys) := own_up d1 (fun k hk => (x7.lt k hk.symm).1)
    refine ⟨Al, cl, As, cs', Ab, cb, b, c, x1, x2, x3, fun t u ht => ?_, by rw [hx]; exact hcx, by rw [hx]; exact x6, by rw [hy]; exact hdx, by rw [hy]; exact x8, x9.kept (fun k hk hlt => hall k hlt ?_ (fun e => ?_) (fun e => ?_)) (fun _ h _ => h)⟩
    · simp only [hx, hy] at ht
      match t, ht with
      | 0, ht =>
        simp at ht; subst ht
        rw [Nat.add_zero, hcd, hRb.cell]
        have h0 := x4 0 _ rfl
        rw [Nat.add_zero, hR.cell] at h0
        have h1 : i * 5 < csr.size := (Array.getElem?_eq_some_iff.1 h0).1
        simp [Array.getElem?_setIfInBounds, h1]
      | 1, ht => rw [hco _ (by omega)]; exact x4 1 u ht
      | 2, ht => rw [hco _ (by omega)]; exact x4 2 u ht
      | 3, ht => rw [hco _ (by omega)]; exact x4 3 u ht
      | 4, ht => rw [hco _ (by omega)]; exact x4 4 u ht
      | t + 5, ht => simp at ht
    · rcases hk with hk | hk <;> omega
    · have := (x5.lt k e.symm).1
      have := x6 k e
      rcases hk with hk | hk <;> omega
    · have := (x7.lt k e.symm).1
      have := x8 k e
      rcases hk with hk | hk <;> omega
end Go.Proofs.Ytpdebnecfknohaa
namespace Go.Proofs.Ytpdebnecfknohaa
open Go.RowKit Go.Maps
set_option linter.unusedVariables false
set_option linter.unusedSimpArgs false
set_option maxRecDepth 20000
/-- A name's new number; a function's. -/
def nmG (Z strs : List (List UInt8)) (n : Int) : Int := numF Z (strF strs n) 0
def fnG (F : Int → Int) (f : Fn) : Fn := ⟨F f.name, f.params, f.locals.map F, f.sites.map F, f.body⟩
/-- The first k of the functions have their new numbers. -/
def fnsK (F : Int → Int) (L : List Fn) (k : Nat) : List Fn := (L.take k).map (fnG F) ++ L.drop k
/-- What Of leaves beside no fault. -/
def OfB (w : World) (Z : List (List UInt8)) (F : Int → Int) (M : Md) (e : Ending) (w' : World) : Prop :=
  ∃ A1 c1 A2 c2 A3 c3 A4 c4, e = .returned (.tuple #[.agg #[.slice A1 Z.length c1, .slice A2 M.globs.length c2, .slice A3 M.funcs.length c3, .slice A4 M.ents.length c4], faultV 0 (-1) (-1)]) ∧ RdS (fun _ => True) w' A1 Z.length 1 (strV Z) ∧ RdS (fun _ => True) w' A2 M.globs.length 1 (intV (M.globs.map F)) ∧ RdS (fun _ => True) w' A4 M.ents.length 1 (intV M.ents) ∧
  (0 < M.funcs.length → ∃ lo q T, A3 = some ⟨q, 0, none⟩ ∧ CpT w.heap.size lo T w' q (M.funcs.map (fnG F))) ∧ Below w.heap.size w w'
end Go.Proofs.Ytpdebnecfknohaa
namespace Go.Proofs.Ytpdebnecfknohaa
open Go.RowKit
set_option linter.unusedVariables false
set_option linter.unusedSimpArgs false
/-- What Of leaves beside no fault, told by the reference's module. -/
def OfC (w : World) (M : Md) (e : Ending) (w' : World) : Prop :=
  ∃ A1 c1 A2 c2 A3 c3 A4 c4, e = .returned (.tuple #[.agg #[.slice A1 (canM M).strs.length c1, .slice A2 (canM M).globs.length c2, .slice A3 (canM M).funcs.length c3, .slice A4 (canM M).ents.length c4], faultV 0 (-1) (-1)]) ∧ MdR w' A1 A2 A3 A4 (canM M) ∧
  (0 < (canM M).funcs.length → ∃ lo q T, A3 = some ⟨q, 0, none⟩ ∧ CpT w.heap.size lo T w' q (canM M).funcs) ∧ Below w.heap.size w w'
end Go.Proofs.Ytpdebnecfknohaa
namespace Go.Proofs.Ytpdebnecfknohaa
open Go.RowKit
set_option linter.unusedVariables false
set_option linter.unusedSimpArgs false
theorem nm_ok (L : List (List UInt8)) : ∀ (l : List Int) (seen : List (List UInt8)), nmF L seen l = 0 → ∀ n ∈ l, (0 ≤ n ∧ n < (L.length : Int)) ∧ (strF L n).length ≤ 40
  | [], _, _, n, hn => by simp at hn
  | x :: l, seen, h, n, hn => by
    rw [nmF] at h
    split at h
    · omega
    · rename_i h1
      split at h
      · omega
      · rcases List.mem_cons.1 hn with rfl | hn
        · refine ⟨?_, by omega⟩
          by_cases hr : 0 ≤ n ∧ n < (L.length : Int)
          · exact hr
          · have : strF L n = [] := by unfold strF; rw [if_neg hr]
            rw [this] at h1
            simp at h1
        · exact nm_ok L l _ h n hn
theorem func_ok (S : List (List UInt8)) (f : Fn) (h : funcF S f = 0) : f.locals.length ≤ 40 ∧ f.sites.length ≤ 40 ∧ nmF S [] f.locals = 0 ∧ nmF S [] f.sites = 0 ∧ 0 ≤ roomF f.body 400 := by
  unfold funcF at h
  split at h
  · omega
  · split at h
    · omega
    · split at h
      · omega
      · exact ⟨by omega, by omega, by omega, by omega, by omega⟩
theorem funcs_ok (M : Md) : ∀ (fs : List Fn) (i : Nat), funcsF M i fs = (0, -1, -1) → ∀ f ∈ fs, funcF M.strs f = 0
  | [], _, _, f, hf => by simp at hf
  | x :: fs, i, h, f, hf => by
    rw [funcsF] at h
    split at h
    · rename_i h1
      have := congrArg Prod.fst h
      exact absurd this h1
    · rename_i h1
      split at h
      · rename_i h2
        have := congrArg Prod.fst h
        exact absurd this h2
      · rcases List.mem_cons.1 hf with rfl | hf
        · omega
        · exact funcs_ok M fs _ h f hf
theorem flat_len : ∀ (fs : List Fn), (∀ f ∈ fs, f.locals.length ≤ 40 ∧ f.sites.length ≤ 40) → ((fs.map fun f => f.name :: (f.locals ++ f.sites)).flatten).length ≤ 81 * fs.length
  | [], _ => by simp
  | f :: fs, h => by
    have h1 := flat_len fs (fun g hg => h g (List.mem_cons_of_mem _ hg))
    have h2 := h f (by simp)
    simp only [List.map_cons, List.flatten_cons, List.length_append, List.length_cons] at h1 ⊢
    omega
/-- What the rules of trees say of names. -/
theorem tree_ok (M : Md) (h : treeF M = (0, -1, -1)) : (∀ n ∈ usedI M.globs M.funcs M.funcs.length, (0 ≤ n ∧ n < (M.strs.length : Int)) ∧ (strF M.strs n).length ≤ 40) ∧ (usedI M.globs M.funcs M.funcs.length).length ≤ 3280 ∧ M.globs.length ≤ 40 ∧ M.funcs.length ≤ 40 ∧ M.ents.length ≤ 40 ∧ ∀ f ∈ M.funcs, f.locals.length ≤ 40 ∧ f.sites.length ≤ 40 ∧ 0 ≤ roomF f.body 400 := by
  unfold treeF at h
  split at h
  · rename_i h1
    have := congrArg Prod.fst h
    exact absurd this h1
  · rename_i h1
    have hm : modF M = 0 := by omega
    have hf := funcs_ok M M.funcs 0 h
    unfold modF at hm
    split at hm
    · omega
    · rename_i h2
      split at hm
      · omega
      · rename_i h3
        split at hm
        · omega
        · rename_i h4
          have hF := fun f hfm => func_ok M.strs f (hf f hfm)
          refine ⟨fun n hn => ?_, ?_, by omega, by omega, by omega, fun f hfm => ⟨(hF f hfm).1, (hF f hfm).2.1, (hF f hfm).2.2.2.2⟩⟩
          · unfold usedI at hn
            rw [List.take_length] at hn
            rcases List.mem_append.1 hn with hn | hn
            · exact nm_ok M.strs M.globs [] (by omega) n hn
            · obtain ⟨l, hl, hnl⟩ := List.mem_flatten.1 hn
              obtain ⟨f, hfm, rfl⟩ := List.mem_map.1 hl
              obtain ⟨_, _, h6, h7, _⟩ := hF f hfm
              rcases List.mem_cons.1 hnl with rfl | hnl
              · exact nm_ok M.strs (namesL M.funcs) [] (by omega) _ (List.mem_map.2 ⟨f, hfm, rfl⟩)
              · rcases List.mem_append.1 hnl with hnl | hnl
                · exact nm_ok M.strs f.locals [] h6 n hnl
                · exact nm_ok M.strs f.sites [] h7 n hnl
          · have h5 := flat_len M.funcs (fun f hfm => ⟨(hF f hfm).1, (hF f hfm).2.1⟩)
            unfold usedI
            rw [List.take_length, List.length_append]
            omega
end Go.Proofs.Ytpdebnecfknohaa
namespace Go.Proofs.Ytpdebnecfknohaa
open Go.RowKit
set_option linter.unusedVariables false
set_option linter.unusedSimpArgs false
set_option maxRecDepth 20000
/-- Is each string greater than the one ahead of it, from a place on? -/
def risF (L : List (List UInt8)) (i : Nat) : Bool := (List.range (L.length - i)).all fun j => Op.bytesLess (L.getD (i + j - 1) []) (L.getD (i + j) [])
set_option maxHeartbeats 2000000 in
theorem ris_any (A : Option Addr) (c : Nat) (L : List (List UInt8)) (w : World) (h : RdS (fun _ => True) w A L.length 1 (strV L)) (hl : L.length ≤ 1000000) :
    Calls Try.prog 34 #[.slice A L.length c] w (BlB w (risF L 1)) := by
  obtain ⟨v, hv⟩ : ∃ v, risF L 1 = v := ⟨_, rfl⟩
  have HV0 : Hid (risF L 1 = v) := hv
  have HR := Lib.hid h
  rw [hv]
  have hstep : ∀ i, i < L.length → risF L i = (Op.bytesLess (L.getD (i - 1) []) (L.getD i []) && risF L (i + 1)) := fun i hi => by
    unfold risF
    obtain ⟨n, hn⟩ : ∃ n, L.length - i = n + 1 := ⟨L.length - i - 1, by omega⟩
    rw [hn, List.range_succ_eq_map, List.all_cons, List.all_map, show L.length - (i + 1) = n from by omega]
    refine congrArg (fun z => (_ && z)) (List.all_congr rfl fun j => ?_)
    simp only [Function.comp]
    rw [show i + Nat.succ j - 1 = i + 1 + j - 1 from by omega, show i + Nat.succ j = i + 1 + j from by omega]
  have HStep := Lib.hid hstep
  obtain ⟨n, hn⟩ : ∃ n, n = L.length := ⟨_, rfl⟩
  have HN := Lib.hid hn
  rw [← hn] at hl ⊢
  clear h hv hstep hn
  go_enter Try.func34, Try.ntmps34
  go_wp2_with fail
  go_loopw [3] (fun s wr => ∃ (i : Nat), 1 ≤ i ∧ (i ≤ n ∨ i = 1) ∧ s = .int .i64 (i : Int) ∧ Hid (risF L i = v) ∧ Hid (Below w.heap.size w wr)) (fun s _ => n - (intOf s).toNat)
  case atStart => exact ⟨1, Nat.le_refl _, .inr rfl, rfl, HV0, Below.refl _ _⟩
  case round =>
    clear HV0
    obtain ⟨i, hi1, hi, rfl, hE, hB⟩ := hrel
    by_cases hlt : i < n
    · have hiL : i < L.length := by rw [← HN.out]; exact hlt
      have hli : (i : Int) < (n : Int) := by omega
      obtain ⟨j, rfl⟩ : ∃ j, i = j + 1 := ⟨i - 1, by omega⟩
      obtain ⟨b, o, rfl, _, hc⟩ := HR.out.2 (by omega)
      have d0 := hc j _ (strV_get L j (by omega))
      have d1 := hc (j + 1) _ (strV_get L (j + 1) hiL)
      have hbl : b < w.heap.size := World.block_lt_of_cell? w _ d0
      have e0 := cell_old hB.out hbl d0
      have e1 := cell_old hB.out hbl d1
      have zb : b < wr.heap.size := World.block_lt_of_cell? wr _ e0
      have hE2 := hE.out
      rw [HStep.out (j + 1) hiL] at hE2
      rw [show L.getD (j + 1 - 1) [] = L[j] from by simp [List.getD, show j < L.length from by omega], show L.getD (j + 1) [] = L[j + 1] from by simp [List.getD, hiL]] at hE2
      have hjj : ((j + 1 : Nat) : Int) - 1 = (j : Int) := by omega
      obtain ⟨x, hx⟩ : ∃ x, x = L[j]'(by omega) := ⟨_, rfl⟩
      obtain ⟨y, hy⟩ : ∃ y, y = L[j + 1] := ⟨_, rfl⟩
      rw [← hx, ← hy] at hE2
      rw [← hx] at e0
      rw [← hy] at e1
      have hq1 := bs_toList x
      have hq2 := bs_toList y
      generalize bs x = bx at *
      generalize bs y = by_ at *
      have HE2 := Lib.hid hE2
      clear hE2 hc d0 d1 hx hy hE
      cases hb : Op.bytesLess x y with
      | false =>
        obtain rfl : v = false := by rw [← HE2.out, hb]; rfl
        have hb2 : Op.bytesLess bx.toList by_.toList = false := by rw [hq1, hq2]; exact hb
        clear hq1 hq2 hb HE2
        go_upto_region 4 with (fail)
        go_quiet ((fail))
        go_wp2
        go_ret
        exact ⟨rfl, hB.out.trans ((below_dN _ _ _).mono hB.out.size)⟩
      | true =>
        have HE3 : Hid (risF L (j + 1 + 1) = v) := by show _ = _; rw [← HE2.out, hb]; rfl
        have hb2 : Op.bytesLess bx.toList by_.toList = true := by rw [hq1, hq2]; exact hb
        clear hq1 hq2 hb HE2
        go_upto_region 4 with (fail)
        go_quiet ((fail))
        go_wp2
        go_roundw
        case rel => exact ⟨j + 1 + 1, by omega, by omega, by go_num, HE3, hB.out.trans ((below_dN _ _ _).mono hB.out.size)⟩
        case measure => simp [intOf]; omega
    · have hz : L.length - i = 0 := by have := HN.out; omega
      obtain rfl : v = true := by rw [← hE.out]; unfold risF; rw [hz]; rfl
      have hli : ¬ (i : Int) < (n : Int) := by omega
      go_wp2
      go_ret
      exact ⟨rfl, hB.out⟩
end Go.Proofs.Ytpdebnecfknohaa
namespace Go.Proofs.Ytpdebnecfknohaa
open Go.RowKit
set_option linter.unusedVariables false
set_option linter.unusedSimpArgs false
set_option maxRecDepth 20000
/-- Which strings are used, by the first of these numbers. -/
def markF (n : Nat) (l : List Int) : List Bool := (List.range n).map fun (i : Nat) => l.contains (i : Int)
theorem markF_len (n : Nat) (l : List Int) : (markF n l).length = n := by simp [markF]
theorem markF_nil (n : Nat) : markF n [] = List.replicate n false := by
  apply List.ext_getElem
  · simp [markF]
  · intro i h1 h2
    simp [markF]
theorem markF_snoc (n : Nat) (l : List Int) (x : Nat) (hx : x < n) : markF n (l ++ [(x : Int)]) = (markF n l).set x true := by
  apply List.ext_getElem
  · simp [markF]
  · intro i h1 h2
    rw [List.getElem_set]
    by_cases h : x = i
    · subst h; simp [markF]
    · have h' : ¬ ((i : Int) = (x : Int)) := by omega
      simp [markF, h, h']
theorem made_false (n : Nat) : (madeCells (Value.cells (.bool false)) (n * 1)).toList = (List.replicate n false).map Value.bool := by
  apply List.ext_getElem
  · simp [madeCells]
  · intro i h1 h2
    simp [madeCells, Value.cells, Nat.mod_one]
theorem info4 : (Try.prog.info? 4).map (fun i => (i.zero, i.size, i.bytes)) = some (some (.bool false), 1, 1) := by kernel_rfl
def boolV (l : List Bool) : List Value := l.map Value.bool
set_option maxHeartbeats 4000000 in
theorem allUsed_any (As Ag Af Ae : Option Addr) (ls cs cg cf ne ce : Nat) (G : List Int) (L : List Fn) (w : World) (hG : RdS (fun _ => True) w Ag G.length 1 (intV G)) (hF : FnsS (fun _ => True) w Af L) (hg : G.length ≤ 1000000) (hl : L.length ≤ 1000000) (hlo : ∀ f ∈ L, f.locals.length ≤ 1000000 ∧ f.sites.length ≤ 1000000) (hU : (usedI G L L.length).length ≤ 90000000) (hin : ∀ n ∈ usedI G L L.length, 0 ≤ n ∧ n < ls) (hls : ls ≤ 1000000) :
    Calls Try.prog 35 #[.agg #[.slice As ls cs, .slice Ag G.length cg, .slice Af L.length cf, .slice Ae ne ce]] w (BlB w ((markF ls (usedI G L L.length)).all id)) := by
  have hUs := fun wx (hx : Below w.heap.size w wx) => used2_any As Ag Af Ae ls cs cg cf ne ce G L wx (hG.old hx (by omega)) (hF.old hx) hg hl hlo hU
  obtain ⟨U, hUe⟩ : ∃ U, U = usedI G L L.length := ⟨_, rfl⟩
  rw [← hUe] at hUs hin hU ⊢
  have HIn := Lib.hid hin
  obtain ⟨nf, hnf⟩ : ∃ n, n = L.length := ⟨_, rfl⟩
  obtain ⟨ng, hng⟩ : ∃ n, n = G.length := ⟨_, rfl⟩
  rw [← hnf, ← hng] at hUs ⊢
  have HUs := Lib.hid hUs
  obtain ⟨v, hv⟩ : ∃ v, (markF ls U).all id = v := ⟨_, rfl⟩
  have HV := Lib.hid hv
  rw [hv]
  clear hUs hG hF hg hl hlo hin hUe hnf hng hv
  obtain ⟨w1, hw1⟩ : ∃ w1, w1 = w.alloc (.cells #[.slice As ls cs, .slice Ag ng cg, .slice Af nf cf, .slice Ae ne ce] 30) := ⟨_, rfl⟩
  have HB1 : Hid (Below w.heap.size w w1) := by rw [hw1]; exact (Below.refl _ _).alloc (Nat.le_refl _) _
  have K1 : Hid (Blk w1 w.heap.size 30 #[.slice As ls cs, .slice Ag ng cg, .slice Af nf cf, .slice Ae ne ce]) := by rw [hw1]; exact Blk.new w 30 _
  go_enter Try.func35, Try.ntmps35
  go_upto_region 1 with (fail)
  rw [← hw1]
  clear hw1
  obtain ⟨m0, m1, m2, m3⟩ := K1.out.c4
  have z1 : w.heap.size < w1.heap.size := K1.out.lt
  obtain ⟨i0, hi0, hz0, hz1, hz2⟩ := info_parts info4
  obtain ⟨w2, hr2, hO2, hg2⟩ := run_makeSlice_full (P := Try.prog) w1 w.heap.size 107 4 i0 (.bool false) 1 Try.underlying107 hi0 hz0 hz1 .i64 .i64 ls (by omega) (by rw [hz2]; omega) (by unfold maxLen; omega) HB1.out.size
  have hsl : w1.heap.size < w2.heap.size := by
    by_cases h : w1.heap.size < w2.heap.size
    · exact h
    · exfalso
      rcases hO2.2 with ⟨h0, _⟩ | ⟨k, cap, cur, hv, _, hk, _⟩
      · cases h0
      · injection hv with hv _ _
        injection hv with hv
        injection hv with hv
        subst hv
        exact h (heap_ltM hk)
  rw [made_false, ← markF_nil] at hO2
  obtain ⟨g, hg⟩ : ∃ g, g = w1.heap.size := ⟨_, rfl⟩
  rw [← hg] at hr2 hO2 hsl
  have HB2 : Hid (Below w.heap.size w w2) := HB1.out.grown hg2 HB1.out.size (fun k hk => by cases hk)
  have K2 : Hid (Blk w2 w.heap.size 30 #[.slice As ls cs, .slice Ag ng cg, .slice Af nf cf, .slice Ae ne ce]) := K1.out.grown hg2 (by simp)
  have HO2 : Hid (w2.ownsRow w.heap.size 4 1 (.slice (some ⟨g, 0, none⟩) ls ls) ls (boolV (markF ls []))) := hO2
  clear hO2 hg2 hg
  go_upto_region 2 with (fail)
  clear hr2 m0 m1 m2 m3 z1 K1
  obtain ⟨m0, m1, m2, m3⟩ := K2.out.c4
  have z1 : w.heap.size < w2.heap.size := K2.out.lt
  go_wp2_with fail
  refine (HUs.out _ HB2.out).mono ?_
  rintro e w3 ⟨A3, c3, rfl, hO3, hb3⟩
  obtain ⟨nu, hnu⟩ : ∃ n, n = U.length := ⟨_, rfl⟩
  have HNU := Lib.hid hnu
  rw [← hnu] at hO3 hU ⊢
  have HB3 := Lib.hid (HB2.out.trans (hb3.mono HB2.out.size))
  have HO3 := Lib.hid hO3
  have HM3 := Lib.hid (own_old HO2.out hb3)
  have hg3 : g ≠ 0 ∨ True := .inr trivial
  have HAp : Hid (∀ k, some k = (Value.slice A3 nu c3).ownBlock → k ≠ g) := fun k hk e => by have := own_geB hO3 k hk; omega
  clear hb3 hO3 hnu m0 m1 m2 m3 z1 K2 HB2 HO2 hg3
  go_wp2_with fail
  go_loopw [15] (fun s wr => ∃ (i : Nat), i ≤ nu ∧ s = .int .i64 (i : Int) ∧ Hid (wr.ownsRow w.heap.size 4 1 (.slice (some ⟨g, 0, none⟩) ls ls) ls (boolV (markF ls (U.take i)))) ∧ Hid (wr.ownsRow w2.heap.size 3 1 (.slice A3 nu c3) nu (intV U)) ∧ Hid (Below w.heap.size w wr)) (fun s _ => nu - (intOf s).toNat)
  case atStart => exact ⟨0, Nat.zero_le _, rfl, HM3, HO3, HB3⟩
  case round =>
    clear HM3 HO3 HB3
    obtain ⟨i, hi, rfl, hM, hO, hB⟩ := hrel
    by_cases hlt : i < nu
    · have hiU : i < U.length := by rw [← HNU.out]; exact hlt
      have hli : (i : Int) < (nu : Int) := by omega
      obtain ⟨q3, cap3, hv3, _, hq3⟩ := own_formM hO.out (by omega)
      injection hv3 with hv3 _ hv5
      subst hv3 hv5
      have e0 := own_cellsM hO.out i _ (intV_get U i hiU)
      rw [Nat.zero_add] at e0
      obtain ⟨hx0, hx1⟩ := HIn.out _ (List.getElem_mem hiU)
      have htk : U.take (i + 1) = U.take i ++ [U[i]] := List.take_succ_eq_append_getElem hiU
      obtain ⟨x, hx⟩ : ∃ x : Nat, U[i] = x := ⟨U[i].toNat, by omega⟩
      rw [hx] at e0 hx0 hx1 htk
      have hxl : x < ls := by omega
      obtain ⟨_, cur, hBg⟩ := own_blk hM.out g rfl
      have hst := World.ownsRow.stored hM.out x (.bool true)
      have HM4 : Hid ((wr.setCell ⟨g, x, none⟩ (.bool true)).ownsRow w.heap.size 4 1 (.slice (some ⟨g, 0, none⟩) ls ls) ls (boolV (markF ls (U.take (i + 1))))) := by
        show World.ownsRow _ _ _ _ _ _ _
        rw [htk, markF_snoc _ _ _ hxl, show boolV ((markF ls (U.take i)).set x true) = (boolV (markF ls (U.take i))).set x (.bool true) from by simp [boolV]]
        exact hst.1
      have hgb : w.heap.size ≤ g := own_geB hM.out g rfl
      have HB4 : Hid (Below w.heap.size w (wr.setCell ⟨g, x, none⟩ (.bool true))) := hB.out.setCell (p := ⟨g, x, none⟩) hgb _
      have HO4 : Hid ((wr.setCell ⟨g, x, none⟩ (.bool true)).ownsRow w2.heap.size 3 1 (.slice (some ⟨q3, 0, none⟩) nu c3) nu (intV U)) := own_blocks hO.out (fun k hk => Below.heap_setCell _ _ _ _ (HAp.out k hk))
      have hcx : ∃ u, wr.cell? ⟨g, x, none⟩ = some u := by
        have := own_cellsM hM.out x (.bool ((markF ls (U.take i))[x]'(by rw [markF_len]; exact hxl))) (by simp [boolV, markF_len, hxl])
        rw [Nat.zero_add] at this
        exact ⟨_, this⟩
      obtain ⟨u, hu⟩ := hcx
      have zf := hBg.frozen x
      have zg : g < wr.heap.size := hBg.lt
      have hxi : (x : Int) < (ls : Int) := by omega
      clear hst hBg htk hx hM hO hB hx0 hx1
      go_wp2
      go_roundw
      case rel => exact ⟨i + 1, by omega, by go_num, HM4, HO4, HB4⟩
      case measure => simp [intOf]; omega
    · obtain rfl : i = nu := by omega
      have hM2 := hM.out
      rw [List.take_of_length_le (by rw [← HNU.out]; omega)] at hM2
      have HM2 := Lib.hid hM2
      have HB2 := hB
      clear hM2 hM hO hB
      have HVi : Hid ((markF ls U).all id = ((markF ls U).drop 0).all id) := rfl
      obtain ⟨MK, hMK⟩ : ∃ l, l = markF ls U := ⟨_, rfl⟩
      have hmkl : MK.length = ls := by rw [hMK, markF_len]
      have hmk2 := HM2.out
      have hv2 := HV.out
      rw [← hMK] at hmk2 hv2
      have HM2 := Lib.hid hmk2
      have HV0 : Hid ((MK.drop 0).all id = v) := hv2
      have HMl := Lib.hid hmkl
      clear hMK hmk2 hv2 hmkl HVi HV
      obtain ⟨wo, hwo⟩ : ∃ wo, wo = wr := ⟨wr, rfl⟩
      subst hwo
      go_wp2_with fail
      go_loopw [25] (fun s wr => ∃ (k : Nat), k ≤ ls ∧ s = .int .i64 (k : Int) ∧ Hid ((MK.drop k).all id = v) ∧ wr = wo) (fun s _ => ls - (intOf s).toNat)
      case atStart => exact ⟨0, Nat.zero_le _, rfl, HV0, rfl⟩
      case round =>
        clear HV0
        obtain ⟨k, hk, rfl, hE, rfl⟩ := hrel
        by_cases hkl : k < ls
        · have hkM : k < MK.length := by rw [HMl.out]; exact hkl
          have hki : (k : Int) < (ls : Int) := by omega
          have e0 := own_cellsM HM2.out k (.bool MK[k]) (by simp [boolV, hkM])
          rw [Nat.zero_add] at e0
          have zg : g < wr.heap.size := World.block_lt_of_cell? wr _ e0
          have hE2 := hE.out
          rw [List.drop_eq_getElem_cons hkM, List.all_cons] at hE2
          generalize MK[k] = bk at *
          have HE2 := Lib.hid hE2
          clear hE hE2
          cases bk with
          | false =>
            obtain rfl : v = false := by rw [← HE2.out]; rfl
            go_wp2
            go_ret
            exact ⟨rfl, HB2.out⟩
          | true =>
            have HE3 : Hid ((MK.drop (k + 1)).all id = v) := by show _ = _; rw [← HE2.out]; rfl
            go_wp2
            go_roundw
            case rel => exact ⟨k + 1, by omega, by go_num, HE3, trivial⟩
            case measure => simp [intOf]; omega
        · obtain rfl : k = ls := by omega
          obtain rfl : v = true := by rw [← hE.out, List.drop_of_length_le (by rw [HMl.out]; omega)]; rfl
          go_wp2
          go_ret
          exact ⟨rfl, HB2.out⟩
end Go.Proofs.Ytpdebnecfknohaa
namespace Go.Proofs.Ytpdebnecfknohaa
open Go.RowKit
set_option linter.unusedVariables false
set_option linter.unusedSimpArgs false
set_option maxRecDepth 20000
theorem nmF_in (S : List (List UInt8)) : ∀ (l : List Int) (seen : List (List UInt8)), nmF S seen l = 0 → ∀ n ∈ l, 0 ≤ n ∧ n < (S.length : Int)
  | [], _, _, n, h => by simp at h
  | x :: l, seen, hz, n, h => by
    unfold nmF at hz
    split at hz
    · simp at hz
    · rename_i h1
      split at hz
      · simp at hz
      · rcases List.mem_cons.1 h with rfl | h
        · by_cases hc : 0 ≤ n ∧ n < (S.length : Int)
          · exact hc
          · exfalso; apply h1; left; simp [strF, hc]
        · exact nmF_in S l _ hz n h
/-- What a function that breaks no rule keeps. -/
theorem funcF_in (S : List (List UInt8)) (f : Fn) (h : funcF S f = 0) : f.locals.length ≤ 40 ∧ f.sites.length ≤ 40 ∧ (∀ n ∈ f.locals, 0 ≤ n ∧ n < (S.length : Int)) ∧ ∀ n ∈ f.sites, 0 ≤ n ∧ n < (S.length : Int) := by
  unfold funcF at h
  split at h
  · simp at h
  · split at h
    · simp at h
    · split at h
      · rename_i h3; exact absurd h h3
      · rename_i h1 h2 h3
        exact ⟨by omega, by omega, nmF_in S _ _ (by simpa using h3), nmF_in S _ _ h⟩
theorem funcsF_in (M : Md) : ∀ (L : List Fn) (i : Nat), (funcsF M i L).1 = 0 → funcsF M i L = (0, -1, -1) ∧ ∀ f ∈ L, funcF M.strs f = 0
  | [], i, h => ⟨rfl, by simp⟩
  | f :: L, i, h => by
    unfold funcsF at h ⊢
    by_cases h1 : funcF M.strs f ≠ 0
    · rw [if_pos h1] at h; exact absurd h h1
    · rw [if_neg h1] at h ⊢
      split at h
      · rename_i h2; exact absurd h h2
      · rename_i h2
        rw [if_neg h2]
        obtain ⟨a, b⟩ := funcsF_in M L (i + 1) h
        exact ⟨a, by
          intro g hg
          rcases List.mem_cons.1 hg with rfl | hg
          · simpa using h1
          · exact b g hg⟩
theorem treeF_in (M : Md) (h : (treeF M).1 = 0) : treeF M = (0, -1, -1) ∧ modF M = 0 ∧ ∀ f ∈ M.funcs, funcF M.strs f = 0 := by
  unfold treeF at h ⊢
  split at h
  · rename_i h1; exact absurd h h1
  · rename_i h1
    rw [if_neg h1]
    obtain ⟨a, b⟩ := funcsF_in M M.funcs 0 h
    exact ⟨a, by simpa using h1, b⟩
theorem modF_in (M : Md) (h : modF M = 0) : M.globs.length ≤ 40 ∧ M.funcs.length ≤ 40 ∧ (∀ n ∈ M.globs, 0 ≤ n ∧ n < (M.strs.length : Int)) ∧ ∀ f ∈ M.funcs, 0 ≤ f.name ∧ f.name < (M.strs.length : Int) := by
  unfold modF at h
  split at h
  · simp at h
  · split at h
    · rename_i h2; exact absurd h h2
    · split at h
      · rename_i h3; exact absurd h h3
      · rename_i h1 h2 h3
        exact ⟨by omega, by omega, nmF_in _ _ _ (by simpa using h2), fun f hf => nmF_in _ _ _ (show nmF M.strs [] (namesL M.funcs) = 0 from by simpa using h3) f.name (by simp only [namesL]; exact List.mem_map.2 ⟨f, hf, rfl⟩)⟩
/-- What a tree that breaks no rule uses lies among its strings. -/
theorem used_in (M : Md) (h : (treeF M).1 = 0) : (usedI M.globs M.funcs M.funcs.length).length ≤ 3280 ∧ ∀ n ∈ usedI M.globs M.funcs M.funcs.length, 0 ≤ n ∧ n < (M.strs.length : Int) := by
  obtain ⟨_, hm, hf⟩ := treeF_in M h
  obtain ⟨g1, g2, g3, g4⟩ := modF_in M hm
  have hl := flat_len M.funcs fun f h => ⟨(funcF_in _ f (hf f h)).1, (funcF_in _ f (hf f h)).2.1⟩
  unfold usedI
  rw [List.take_length]
  refine ⟨by rw [List.length_append]; omega, fun n hn => ?_⟩
  rcases List.mem_append.1 hn with hn | hn
  · exact g3 n hn
  · obtain ⟨l, hl, hnl⟩ := List.mem_flatten.1 hn
    obtain ⟨f, hff, rfl⟩ := List.mem_map.1 hl
    obtain ⟨_, _, k1, k2⟩ := funcF_in _ f (hf f hff)
    rcases List.mem_cons.1 hnl with rfl | hnl
    · exact g4 f hff
    · rcases List.mem_append.1 hnl with hnl | hnl
      · exact k1 n hnl
      · exact k2 n hnl
/-- The first rule that a module breaks, of Tree's, then of the strings. -/
def checkF (M : Md) : Int × Int × Int := if (treeF M).1 ≠ 0 then treeF M else if (risF M.strs 1 && (markF M.strs.length (usedI M.globs M.funcs M.funcs.length)).all id) = true then (0, -1, -1) else (10, -1, -1)
theorem fault8 (r f s : Int) (h : r ≠ 0) : faultV r f s = .agg #[.int .i64 8, .int .i64 0, .int .i64 0, .int .i64 0, .int .i64 r, .int .i64 f, .int .i64 s] := by simp [faultV, h]
theorem fault0 (f s : Int) : faultV 0 f s = .agg #[.int .i64 0, .int .i64 0, .int .i64 0, .int .i64 0, .int .i64 0, .int .i64 f, .int .i64 s] := by simp [faultV]
set_option maxHeartbeats 8000000 in
theorem check_any (M : Md) (As Ag Af Ae : Option Addr) (cs cg cf ce : Nat) (w : World) (hM : M.Wf) (h : MdR w As Ag Af Ae M) :
    Calls Try.prog 18 #[.agg #[.slice As M.strs.length cs, .slice Ag M.globs.length cg, .slice Af M.funcs.length cf, .slice Ae M.ents.length ce]] w (FaB w (checkF M)) := by
  obtain ⟨v, hv⟩ : ∃ v, v = checkF M := ⟨_, rfl⟩
  rw [← hv]
  unfold checkF at hv
  have hTr := fun wx (hx : Below w.heap.size w wx) => tree_any M As Ag Af Ae cs cg cf ce wx hM (h.old hx)
  have hRi := fun wx (hx : Below w.heap.size w wx) => ris_any As cs M.strs wx (h.strs.old hx (by omega)) hM.strs
  have hAl := fun (h0 : (treeF M).1 = 0) wx (hx : Below w.heap.size w wx) => allUsed_any As Ag Af Ae M.strs.length cs cg cf M.ents.length ce M.globs M.funcs wx (h.globs.old hx (by omega)) (h.funcs.old hx) hM.globs.1 hM.funcs (fun f hf => ⟨(hM.fns f hf).2.2.1, (hM.fns f hf).2.2.2.1⟩) (by have := (used_in M h0).1; omega) (used_in M h0).2 hM.strs
  obtain ⟨ls, hls⟩ : ∃ n, n = M.strs.length := ⟨_, rfl⟩
  obtain ⟨ng, hng⟩ : ∃ n, n = M.globs.length := ⟨_, rfl⟩
  obtain ⟨nf, hnf⟩ : ∃ n, n = M.funcs.length := ⟨_, rfl⟩
  obtain ⟨ne, hne⟩ : ∃ n, n = M.ents.length := ⟨_, rfl⟩
  rw [← hls, ← hng, ← hnf, ← hne] at hTr hAl ⊢
  rw [← hls] at hRi hv
  have hT0 := fun (h0 : (treeF M).1 = 0) => (treeF_in M h0).1
  generalize treeF M = T at *
  generalize risF M.strs 1 = b1 at *
  rw [← hnf] at hv
  generalize (markF ls (usedI M.globs M.funcs nf)).all id = b2 at *
  clear hls hng hnf hne h hM
  obtain ⟨r, f, s⟩ := T
  dsimp only at hv hAl hT0
  have HTr := Lib.hid hTr
  have HRi := Lib.hid hRi
  have HAl := Lib.hid hAl
  have HT0 := Lib.hid hT0
  have HV := Lib.hid hv
  have HFa := Lib.hid (fun r f s wx => fault_any r f s wx)
  clear hTr hRi hAl hT0 hv
  obtain ⟨w1, hw1⟩ : ∃ w1, w1 = (w.alloc (.cells #[.slice As ls cs, .slice Ag ng cg, .slice Af nf cf, .slice Ae ne ce] 30)).alloc (.cells #[.int .i64 0, .int .i64 0, .int .i64 0, .int .i64 0, .int .i64 0, .int .i64 0, .int .i64 0] 35) := ⟨_, rfl⟩
  have HB1 : Hid (Below w.heap.size w w1) := by rw [hw1]; exact ((Below.refl _ _).alloc (Nat.le_refl _) _).alloc (by simp) _
  have K1 : Hid (Blk w1 w.heap.size 30 #[.slice As ls cs, .slice Ag ng cg, .slice Af nf cf, .slice Ae ne ce]) := by rw [hw1]; exact (Blk.new w 30 _).alloc _
  have K2 : Hid (Blk w1 (w.heap.size + 1) 35 #[.int .i64 0, .int .i64 0, .int .i64 0, .int .i64 0, .int .i64 0, .int .i64 0, .int .i64 0]) := by rw [hw1]; exact Blk.new' _ 35 _ _ (by simp)
  have HFin : Hid (∀ (wx : World) (fe r f s : Int), Below w1.heap.size w1 wx → ∀ wy, wy = (((((((wx.setCell ⟨w.heap.size + 1, 0, none⟩ (.int .i64 fe)).setCell ⟨w.heap.size + 1, 1, none⟩ (.int .i64 0)).setCell ⟨w.heap.size + 1, 2, none⟩ (.int .i64 0)).setCell ⟨w.heap.size + 1, 3, none⟩ (.int .i64 0)).setCell ⟨w.heap.size + 1, 4, none⟩ (.int .i64 r)).setCell ⟨w.heap.size + 1, 5, none⟩ (.int .i64 f)).setCell ⟨w.heap.size + 1, 6, none⟩ (.int .i64 s)) → Below w.heap.size w wy ∧ Blk wy (w.heap.size + 1) 35 #[.int .i64 fe, .int .i64 0, .int .i64 0, .int .i64 0, .int .i64 r, .int .i64 f, .int .i64 s]) := fun wx fe r f s hx wy hy => by
    subst hy
    have hk := K2.out.old hx
    exact ⟨set7 (HB1.out.trans (hx.mono HB1.out.size)) (Nat.le_succ _) _ _ _ _ _ _ _, ((((((hk.set_ 0 _).set_ 1 _).set_ 2 _).set_ 3 _).set_ 4 _).set_ 5 _).set_ 6 _⟩
  go_enter Try.func18, Try.ntmps18
  go_upto_region 1 with (fail)
  rw [← hw1]
  clear hw1
  obtain ⟨m0, m1, m2, m3⟩ := K1.out.c4
  have z1 : w.heap.size < w1.heap.size := K1.out.lt
  go_wp2_with fail
  refine (HTr.out _ HB1.out).mono ?_
  rintro e w2 ⟨rfl, hb2⟩
  have HB2 := Lib.hid hb2
  have M1 := Lib.hid (K1.out.old hb2)
  have M2 := Lib.hid (K2.out.old hb2)
  clear hb2 m0 m1 m2 m3 z1 HTr
  dsimp only
  have hz12 := HB2.out.size
  have HW3 : Hid (∀ (fe r f s : Int), ∀ wy, wy = w2.alloc (.cells #[.int .i64 fe, .int .i64 0, .int .i64 0, .int .i64 0, .int .i64 r, .int .i64 f, .int .i64 s] 35) → Below w1.heap.size w1 wy ∧ Blk wy w2.heap.size 35 #[.int .i64 fe, .int .i64 0, .int .i64 0, .int .i64 0, .int .i64 r, .int .i64 f, .int .i64 s]) := fun fe r f s wy hy => by
    subst hy
    exact ⟨HB2.out.alloc HB2.out.size _, Blk.new w2 35 _⟩
  by_cases hr : r = 0
  · subst hr
    rw [fault0]
    go_upto_region 2 with (fail)
    obtain ⟨w3, hw3⟩ : ∃ w3, w3 = w2.alloc (.cells #[.int .i64 0, .int .i64 0, .int .i64 0, .int .i64 0, .int .i64 0, .int .i64 f, .int .i64 s] 35) := ⟨_, rfl⟩
    rw [← hw3]
    obtain ⟨hB3, hK3⟩ := HW3.out 0 0 f s w3 hw3
    have HB3 := Lib.hid hB3
    have K3 := Lib.hid hK3
    have N1 := Lib.hid (K1.out.old hB3)
    have N2 := Lib.hid (K2.out.old hB3)
    clear hw3 hB3 hK3 HW3
    obtain ⟨g, hg⟩ : ∃ g, g = w2.heap.size := ⟨_, rfl⟩
    rw [← hg] at K3 ⊢
    clear hg
    obtain ⟨k0, k1, k2, k3, k4, k5, k6⟩ := K3.out.c7
    have z3 : g < w3.heap.size := K3.out.lt
    obtain ⟨m0, m1, m2, m3⟩ := N1.out.c4
    have z1 : w.heap.size < w3.heap.size := N1.out.lt
    obtain ⟨rfl, rfl⟩ : f = -1 ∧ s = -1 := by have := HT0.out rfl; simpa using this
    go_upto_region 4 with (fail)
    clear k0 k1 k2 k3 k4 k5 k6 z3 K3
    go_wp2_with fail
    refine (HRi.out _ (HB1.out.trans (HB3.out.mono HB1.out.size))).mono ?_
    rintro e w4 ⟨rfl, hb4⟩
    have HB4 := Lib.hid (HB3.out.trans (hb4.mono HB3.out.size))
    have N4 := Lib.hid (K1.out.old HB4.out)
    clear hb4 m0 m1 m2 m3 z1 HRi
    obtain ⟨m0, m1, m2, m3⟩ := N4.out.c4
    have z1 : w.heap.size < w4.heap.size := N4.out.lt
    cases b1 with
    | false =>
      go_wp2_with fail
      refine (HFa.out 10 (-1) (-1) _).mono ?_
      rintro e w6 ⟨rfl, hb6⟩
      have HB6 := Lib.hid (HB4.out.trans (hb6.mono HB4.out.size))
      have N6 := Lib.hid (K2.out.old HB6.out)
      clear hb6
      rw [fault8 10 (-1) (-1) (by decide)]
      obtain ⟨r0, r1, r2, r3, r4, r5, r6⟩ := N6.out.c7
      have f0 := N6.out.frozen 0
      have f1 := N6.out.frozen 1
      have f2 := N6.out.frozen 2
      have f3 := N6.out.frozen 3
      have f4 := N6.out.frozen 4
      have f5 := N6.out.frozen 5
      have f6 := N6.out.frozen 6
      have z2 : w.heap.size + 1 < w6.heap.size := N6.out.lt
      go_wp2
      obtain ⟨hbf, hKf⟩ := HFin.out w6 8 10 (-1) (-1) HB6.out _ rfl
      obtain ⟨q0, q1, q2, q3, q4, q5, q6⟩ := hKf.c7
      refine bodyPost_ret (v := .agg #[.int .i64 8, .int .i64 0, .int .i64 0, .int .i64 0, .int .i64 10, .int .i64 (-1), .int .i64 (-1)]) (by simp [results, Try.results18, go_sem, q0, q1, q2, q3, q4, q5, q6]) rfl ?_
      have hv := HV.out
      rw [if_neg (by simp)] at hv
      simp at hv
      subst hv
      exact ⟨congrArg Ending.returned (fault8 10 (-1) (-1) (by decide)).symm, hbf⟩
    | true =>
      go_wp2_with fail
      refine (HAl.out trivial _ (HB1.out.trans (HB4.out.mono HB1.out.size))).mono ?_
      rintro e w5 ⟨rfl, hb5⟩
      have HB5 := Lib.hid (HB4.out.trans (hb5.mono HB4.out.size))
      clear hb5 m0 m1 m2 m3 z1 HAl
      cases b2 with
      | false =>
        go_wp2_with fail
        refine (HFa.out 10 (-1) (-1) _).mono ?_
        rintro e w6 ⟨rfl, hb6⟩
        have HB6 := Lib.hid (HB5.out.trans (hb6.mono HB5.out.size))
        have N6 := Lib.hid (K2.out.old HB6.out)
        clear hb6
        rw [fault8 10 (-1) (-1) (by decide)]
        obtain ⟨r0, r1, r2, r3, r4, r5, r6⟩ := N6.out.c7
        have f0 := N6.out.frozen 0
        have f1 := N6.out.frozen 1
        have f2 := N6.out.frozen 2
        have f3 := N6.out.frozen 3
        have f4 := N6.out.frozen 4
        have f5 := N6.out.frozen 5
        have f6 := N6.out.frozen 6
        have z2 : w.heap.size + 1 < w6.heap.size := N6.out.lt
        go_wp2
        obtain ⟨hbf, hKf⟩ := HFin.out w6 8 10 (-1) (-1) HB6.out _ rfl
        obtain ⟨q0, q1, q2, q3, q4, q5, q6⟩ := hKf.c7
        refine bodyPost_ret (v := .agg #[.int .i64 8, .int .i64 0, .int .i64 0, .int .i64 0, .int .i64 10, .int .i64 (-1), .int .i64 (-1)]) (by simp [results, Try.results18, go_sem, q0, q1, q2, q3, q4, q5, q6]) rfl ?_
        have hv := HV.out
        rw [if_neg (by simp)] at hv
        simp at hv
        subst hv
        exact ⟨congrArg Ending.returned (fault8 10 (-1) (-1) (by decide)).symm, hbf⟩
      | true =>
        go_wp2_with fail
        refine (HFa.out 0 (-1) (-1) _).mono ?_
        rintro e w6 ⟨rfl, hb6⟩
        have HB6 := Lib.hid (HB5.out.trans (hb6.mono HB5.out.size))
        have N6 := Lib.hid (K2.out.old HB6.out)
        clear hb6
        rw [fault0]
        obtain ⟨r0, r1, r2, r3, r4, r5, r6⟩ := N6.out.c7
        have f0 := N6.out.frozen 0
        have f1 := N6.out.frozen 1
        have f2 := N6.out.frozen 2
        have f3 := N6.out.frozen 3
        have f4 := N6.out.frozen 4
        have f5 := N6.out.frozen 5
        have f6 := N6.out.frozen 6
        have z2 : w.heap.size + 1 < w6.heap.size := N6.out.lt
        go_wp2
        obtain ⟨hbf, hKf⟩ := HFin.out w6 0 0 (-1) (-1) HB6.out _ rfl
        obtain ⟨q0, q1, q2, q3, q4, q5, q6⟩ := hKf.c7
        refine bodyPost_ret (v := .agg #[.int .i64 0, .int .i64 0, .int .i64 0, .int .i64 0, .int .i64 0, .int .i64 (-1), .int .i64 (-1)]) (by simp [results, Try.results18, go_sem, q0, q1, q2, q3, q4, q5, q6]) rfl ?_
        have hv := HV.out
        rw [if_neg (by simp)] at hv
        simp at hv
        subst hv
        exact ⟨congrArg Ending.returned (fault0 _ _).symm, hbf⟩
  · rw [fault8 _ _ _ hr]
    go_upto_region 2 with (fail)
    obtain ⟨w3, hw3⟩ : ∃ w3, w3 = w2.alloc (.cells #[.int .i64 8, .int .i64 0, .int .i64 0, .int .i64 0, .int .i64 r, .int .i64 f, .int .i64 s] 35) := ⟨_, rfl⟩
    rw [← hw3]
    obtain ⟨hB3, hK3⟩ := HW3.out 8 r f s w3 hw3
    have HB3 := Lib.hid hB3
    have K3 := Lib.hid hK3
    have N1 := Lib.hid (K1.out.old hB3)
    have N2 := Lib.hid (K2.out.old hB3)
    clear hw3 hB3 hK3 HW3
    obtain ⟨g, hg⟩ : ∃ g, g = w2.heap.size := ⟨_, rfl⟩
    rw [← hg] at K3 ⊢
    clear hg
    obtain ⟨k0, k1, k2, k3, k4, k5, k6⟩ := K3.out.c7
    have z3 : g < w3.heap.size := K3.out.lt
    obtain ⟨r0, r1, r2, r3, r4, r5, r6⟩ := N2.out.c7
    have f0 := N2.out.frozen 0
    have f1 := N2.out.frozen 1
    have f2 := N2.out.frozen 2
    have f3 := N2.out.frozen 3
    have f4 := N2.out.frozen 4
    have f5 := N2.out.frozen 5
    have f6 := N2.out.frozen 6
    have z2 : w.heap.size + 1 < w3.heap.size := N2.out.lt
    have hne0 : ¬ ((8 : Int) = 0) := by decide
    go_wp2
    obtain ⟨hbf, hKf⟩ := HFin.out w3 8 r f s HB3.out _ rfl
    obtain ⟨q0, q1, q2, q3, q4, q5, q6⟩ := hKf.c7
    refine bodyPost_ret (v := .agg #[.int .i64 8, .int .i64 0, .int .i64 0, .int .i64 0, .int .i64 r, .int .i64 f, .int .i64 s]) (by simp [results, Try.results18, go_sem, q0, q1, q2, q3, q4, q5, q6]) rfl ?_
    have hv := HV.out
    rw [if_pos hr] at hv
    subst hv
    exact ⟨congrArg Ending.returned (fault8 _ _ _ hr).symm, hbf⟩
end Go.Proofs.Ytpdebnecfknohaa
namespace Go.Proofs.Ytpdebnecfknohaa
open Go.RowKit
set_option linter.unusedVariables false
set_option linter.unusedSimpArgs false
/-- A module whose names' numbers are others. -/
def renM (F : Int → Int) (S' : List (List UInt8)) (M : Md) : Md := ⟨S', M.globs.map F, M.funcs.map (fnG F), M.ents⟩
/-- Names come to the same strings. -/
def SameN (F : Int → Int) (S' : List (List UInt8)) (M : Md) : Prop := ∀ n ∈ usedI M.globs M.funcs M.funcs.length, strF S' (F n) = strF M.strs n
end Go.Proofs.Ytpdebnecfknohaa
namespace Go.Proofs.Ytpdebnecfknohaa
open Go.RowKit
set_option linter.unusedVariables false
set_option maxRecDepth 20000
/-- What a module has that was made. -/
structure Md.Made (M : Md) : Prop where
  small : M.Small
  fit : M.Fit
  strs : 0 < M.strs.length
  locs : ∀ f ∈ M.funcs, 0 < f.locals.length
  nums : ∀ f ∈ M.funcs, -1000000 ≤ f.name ∧ f.name ≤ 1000000 ∧ -1000000 ≤ f.params ∧ f.params ≤ 1000000
theorem canL_mono (g : List Int) (L : List Fn) (strs : List (List UInt8)) (i : Nat) : (canL g L strs i).length ≤ (canL g L strs (i + 1)).length := by
  simp only [canL]
  split
  · rw [bub_len]; simp
  · exact Nat.le_refl _
theorem canL_pos (g : List Int) (L : List Fn) (strs : List (List UInt8)) (i n : Nat) (h : i < n) (hu : usedF g L (i : Int) = true) : 0 < (canL g L strs n).length := by
  induction n with
  | zero => omega
  | succ n ih =>
    by_cases hi : i < n
    · exact Nat.lt_of_lt_of_le (ih hi) (canL_mono _ _ _ _)
    · obtain rfl : i = n := by omega
      simp only [canL]
      split
      · rw [bub_len]; simp
      · rename_i h2
        rcases Nat.eq_zero_or_pos (canL g L strs i).length with h0 | h0
        · exfalso
          apply h2
          refine ⟨hu, ?_⟩
          rw [List.eq_nil_of_length_eq_zero h0]
          simp [numF]
        · exact h0
theorem mkS_ge (g0 : List (List UInt8)) (F n : Nat) (h : 0 < n) : g0.length < (mkS g0 F n).length := by
  have h1 := mkS_mono g0 F 1 n h
  have : (mkS g0 F 1).length = g0.length + 1 + nlF F 0 + nsF 0 := by simp [mkS, namesF_len]; omega
  omega
theorem mk_made (gs : List (List UInt8)) (F E G : Nat) (acts : List Ac) (hg : gs.length = G % 4) : (canM (mkM gs (ints (G % 4)) F E acts)).Made := by
  have hS := mk_small gs (ints (G % 4)) F E acts
  have hlen := mkS_len gs F (1 + F % 4)
  have hcl : (canl (mkM gs (ints (G % 4)) F E acts)).length ≤ 1000 := by
    have := canL_len (mkM gs (ints (G % 4)) F E acts).globs (mkM gs (ints (G % 4)) F E acts).funcs (mkM gs (ints (G % 4)) F E acts).strs (mkM gs (ints (G % 4)) F E acts).strs.length
    have e : (mkM gs (ints (G % 4)) F E acts).strs.length = (mkS gs F (1 + F % 4)).length := rfl
    show (canL _ _ _ _).length ≤ 1000
    omega
  have hfn : ∀ f ∈ (canM (mkM gs (ints (G % 4)) F E acts)).funcs, (0 < f.locals.length ∧ f.locals.length ≤ 1000 ∧ f.sites.length ≤ 1000) ∧ -1000000 ≤ f.name ∧ f.name ≤ 1000000 ∧ -1000000 ≤ f.params ∧ f.params ≤ 1000000 := by
    intro f hf
    simp only [canM, List.mem_map] at hf
    obtain ⟨f0, hf0, rfl⟩ := hf
    simp only [mkM, fillB] at hf0
    obtain ⟨i, hi, rfl⟩ := List.mem_iff_getElem.1 hf0
    have hiL : i < 1 + F % 4 := by simp [mkL_len] at hi; omega
    have hm := mkL_get gs F (1 + F % 4) i hiL
    rw [List.getElem?_eq_getElem (by rw [mkL_len]; exact hiL)] at hm
    injection hm with hm
    simp only [List.getElem_zipWith, canFn, numsF, List.length_map]
    rw [hm]
    have hb := numF_bound (canl (mkM gs (ints (G % 4)) F E acts)) ((mkM gs (ints (G % 4)) F E acts).strs.getD ((((mkS gs F i).length : Nat) : Int)).toNat []) 0
    have h3 := pF_le F i
    dsimp only
    rw [seqI_len, seqI_len]
    have : nlF F i = pF F i + 1 + i % 3 := rfl
    have : nsF i = 1 + i % 2 := rfl
    refine ⟨by omega, by omega, by omega, by omega, by omega⟩
  refine ⟨hS, ⟨by show (canl _).length ≤ _; omega, ?_, by have := hS.fns.2; omega, ?_, fun f hf => ⟨by have := (hfn f hf).1; omega, by have := (hfn f hf).1; omega, by have := (hS.body f hf).1; omega, by have := (hS.body f hf).2; omega⟩⟩, ?_, fun f hf => (hfn f hf).1.1, fun f hf => (hfn f hf).2⟩
  · show (numsF _ _ _).length ≤ _
    simp [numsF, mkM, ints_len]; omega
  · show (entsF E (1 + F % 4)).length ≤ _
    have := entsF_len E (1 + F % 4); omega
  · show 0 < (canL _ _ _ _).length
    refine canL_pos _ _ _ gs.length _ (mkS_ge gs F (1 + F % 4) (by omega)) ?_
    have hl : 0 < (mkM gs (ints (G % 4)) F E acts).funcs.length := by simp only [mkM]; rw [fillB_len _ _ (by rw [mkT_len, mkL_len]), mkL_len]; omega
    have hm := mkL_get gs F (1 + F % 4) 0 (by omega)
    rw [List.getElem?_eq_getElem (by rw [mkL_len]; omega)] at hm
    injection hm with hm
    unfold usedF
    rw [Bool.or_eq_true]
    refine .inr (anyF_of hl ?_)
    have e : (mkM gs (ints (G % 4)) F E acts).funcs[0].name = (gs.length : Int) := by simp only [mkM, fillB, List.getElem_zipWith]; rw [hm]; rfl
    simp [e]
end Go.Proofs.Ytpdebnecfknohaa
namespace Go.Proofs.Ytpdebnecfknohaa
open Go.RowKit
set_option linter.unusedVariables false
set_option maxRecDepth 20000
/-- A module of the call's own, in a box. -/
structure YI (w4 wc : World) (q8 : Nat) (N : Md) (Bs Bg Bf Be : Option Addr) (ds dg df de : Nat) : Prop where
  box : Blk wc q8 30 #[.slice Bs N.strs.length ds, .slice Bg N.globs.length dg, .slice Bf N.funcs.length df, .slice Be N.ents.length de]
  qin : w4.heap.size ≤ q8
  strs : wc.ownsRow w4.heap.size 9 1 (.slice Bs N.strs.length ds) N.strs.length (strV N.strs)
  globs : wc.ownsRow w4.heap.size 3 1 (.slice Bg N.globs.length dg) N.globs.length (intV N.globs)
  fns : FnRow wc w4.heap.size (fun k => w4.heap.size ≤ k ∧ k ≠ q8) (.slice Bf N.funcs.length df) N.funcs
  ents : wc.ownsRow w4.heap.size 3 1 (.slice Be N.ents.length de) N.ents.length (intV N.ents)
  bel : Below w4.heap.size w4 wc
  made : N.Made
/-- A module that is read, in a box. -/
def Yz (w4 wz : World) (q8 : Nat) : Prop := ∃ (N : Md) (Bs Bg Bf Be : Option Addr) (ds dg df de : Nat), Blk wz q8 30 #[.slice Bs N.strs.length ds, .slice Bg N.globs.length dg, .slice Bf N.funcs.length df, .slice Be N.ents.length de] ∧ MdR wz Bs Bg Bf Be N ∧ N.Fit ∧ 0 < N.funcs.length ∧ Below w4.heap.size w4 wz
theorem FnRow.fns {w : World} {base : Nat} {X : Nat → Prop} {A : Option Addr} {n c : Nat} {L : List Fn} (h : FnRow w base X (.slice A n c) L) : FnsS (fun _ => True) w A L := fun hp => by
  obtain ⟨q, rfl, _, _, _, _, _⟩ := h.at_ 0 hp
  refine ⟨q, 0, rfl, trivial, fun i hi => ?_⟩
  obtain ⟨q', hq', _, _, _, _, Al, cl, At, ct, Ab, cb, r1, r2, r3, hc⟩ := h.at_ i hi
  injection hq' with hq'
  injection hq' with hq'
  subst hq'
  refine ⟨[.int .i64 L[i].name, .int .i64 L[i].params, .slice Al L[i].locals.length cl, .slice At L[i].sites.length ct, .slice Ab L[i].body.len cb], ⟨Al, cl, At, ct, Ab, cb, rfl, r1.below (fun _ _ => trivial), r2.below (fun _ _ => trivial), r3.kept (fun _ _ _ => rfl) (fun _ _ _ => trivial)⟩, fun j u hj => by rw [Nat.zero_add]; exact hc j u hj⟩
theorem YI.read {w4 wc : World} {q8 : Nat} {N : Md} {Bs Bg Bf Be : Option Addr} {ds dg df de : Nat} (h : YI w4 wc q8 N Bs Bg Bf Be ds dg df de) : MdR wc Bs Bg Bf Be N :=
  ⟨(RdS.own h.strs).below (fun _ _ => trivial), (RdS.own h.globs).below (fun _ _ => trivial), h.fns.fns, (RdS.own h.ents).below (fun _ _ => trivial)⟩
theorem YI.done {w4 wc : World} {q8 : Nat} {N : Md} {Bs Bg Bf Be : Option Addr} {ds dg df de : Nat} (h : YI w4 wc q8 N Bs Bg Bf Be ds dg df de) : Yz w4 wc q8 :=
  ⟨N, Bs, Bg, Bf, Be, ds, dg, df, de, h.box, h.read, h.made.fit, h.made.small.fns.1, h.bel⟩
theorem MkPost.read {w w' : World} {M : Md} {e : Ending} (h : MkPost w M e w') : ∃ As cs Ag cg Af cf Ae ce, e = .returned (.agg #[.slice As M.strs.length cs, .slice Ag M.globs.length cg, .slice Af M.funcs.length cf, .slice Ae M.ents.length ce]) ∧ MdR w' As Ag Af Ae M ∧ Below w.heap.size w w' := by
  obtain ⟨Al, cl, A2, c2, Ax, cx, Ae, ce, rfl, h1, h2, h3, h4, hb⟩ := h
  exact ⟨Al, cl, A2, c2, Ax, cx, Ae, ce, rfl, ⟨(RdS.own h1).below (fun _ _ => trivial), (RdS.own h2).below (fun _ _ => trivial), h3.fns, (RdS.own h4).below (fun _ _ => trivial)⟩, hb⟩
/-- In a box that was there. -/
theorem MkPost.stored {w4 w6 w7 : World} {q8 : Nat} {N N0 : Md} {e : Ending} {Bs0 Bg0 Bf0 Be0 : Option Addr} {ds0 dg0 df0 de0 : Nat} (h0 : YI w4 w6 q8 N0 Bs0 Bg0 Bf0 Be0 ds0 dg0 df0 de0) (h : MkPost w6 N e w7) (hN : N.Made) : ∃ Bs ds Bg dg Bf df Be de, e = .returned (.agg #[.slice Bs N.strs.length ds, .slice Bg N.globs.length dg, .slice Bf N.funcs.length df, .slice Be N.ents.length de]) ∧ Blk w7 q8 30 #[.slice Bs0 N0.strs.length ds0, .slice Bg0 N0.globs.length dg0, .slice Bf0 N0.funcs.length df0, .slice Be0 N0.ents.length de0] ∧
    YI w4 ((((w7.setCell ⟨q8, 0, none⟩ (.slice Bs N.strs.length ds)).setCell ⟨q8, 1, none⟩ (.slice Bg N.globs.length dg)).setCell ⟨q8, 2, none⟩ (.slice Bf N.funcs.length df)).setCell ⟨q8, 3, none⟩ (.slice Be N.ents.length de)) q8 N Bs Bg Bf Be ds dg df de := by
  obtain ⟨Bs, ds, Bg, dg, Bf, df, Be, de, rfl, h1, h2, h3, h4, hb⟩ := h
  have hq := h0.box.lt
  have hbx := h0.box.old hb
  have hk : ∀ k, k ≠ q8 → ((((w7.setCell ⟨q8, 0, none⟩ (.slice Bs N.strs.length ds)).setCell ⟨q8, 1, none⟩ (.slice Bg N.globs.length dg)).setCell ⟨q8, 2, none⟩ (.slice Bf N.funcs.length df)).setCell ⟨q8, 3, none⟩ (.slice Be N.ents.length de)).heap[k]? = w7.heap[k]? := fun k hk => set4_far _ _ _ _ hk
  have hs := h0.bel.size
  have ho : ∀ {e m c : Nat} {A : Option Addr} {xs : List Value}, w7.ownsRow w6.heap.size e 1 (.slice A m c) m xs → ((((w7.setCell ⟨q8, 0, none⟩ (.slice Bs N.strs.length ds)).setCell ⟨q8, 1, none⟩ (.slice Bg N.globs.length dg)).setCell ⟨q8, 2, none⟩ (.slice Bf N.funcs.length df)).setCell ⟨q8, 3, none⟩ (.slice Be N.ents.length de)).ownsRow w4.heap.size e 1 (.slice A m c) m xs := fun h => own_base (own_blocks h (fun k hk' => hk k (by have := own_ge h k hk'; omega))) hs
  refine ⟨Bs, ds, Bg, dg, Bf, df, Be, de, rfl, hbx, ⟨?_, h0.qin, ho h1, ho h2, ?_, ho h4, set4 (h0.bel.trans (hb.mono h0.bel.size)) h0.qin _ _ _ _, hN⟩⟩
  · exact (((hbx.set_ 0 _).set_ 1 _).set_ 2 _).set_ 3 _
  · exact FnRow.base (h3.kept (fun k hk' => hk k (by have := (h3.blk k hk').1; omega)) (fun k hx _ => hk k (by omega)) (fun k hx _ => ⟨by omega, by omega⟩)) hs
/-- What is read of the first function. -/
theorem YI.first {w4 wc : World} {q8 : Nat} {N : Md} {Bs Bg Bf Be : Option Addr} {ds dg df de : Nat} (h : YI w4 wc q8 N Bs Bg Bf Be ds dg df de) : ∃ (qf : Nat) (f : Fn) (l : List Fn) (Al : Option Addr) (cl : Nat) (At : Option Addr) (ct : Nat) (Ab : Option Addr) (cb : Nat), Bf = some ⟨qf, 0, none⟩ ∧ N.funcs = f :: l ∧ qf < wc.heap.size ∧ w4.heap.size ≤ qf ∧ qf ≠ q8 ∧ (0 < N.funcs.length ∧ N.funcs.length ≤ 4) ∧
    (wc.cell? ⟨qf, 0, none⟩ = some (.int .i64 f.name) ∧ wc.cell? ⟨qf, 1, none⟩ = some (.int .i64 f.params) ∧ wc.cell? ⟨qf, 2, none⟩ = some (.slice Al f.locals.length cl) ∧ wc.cell? ⟨qf, 3, none⟩ = some (.slice At f.sites.length ct) ∧ wc.cell? ⟨qf, 4, none⟩ = some (.slice Ab f.body.len cb)) ∧ (∀ o, wc.frozen? ⟨qf, o, none⟩ = false) ∧
    RdS (fun k => k ≠ qf) wc Al f.locals.length 1 (intV f.locals) ∧ RdS (fun k => k ≠ qf) wc At f.sites.length 1 (intV f.sites) ∧ BodyS (fun k => k ≠ qf) wc Ab f.body ∧ f.Fit ∧ 0 < f.locals.length ∧ (-1000000 ≤ f.name ∧ f.name ≤ 1000000 ∧ -1000000 ≤ f.params ∧ f.params ≤ 1000000) ∧ f.body.size ≤ 1000 ∧ f.body.wide ≤ 1000 := by
  have hp := h.made.small.fns
  obtain ⟨f, l, hfl⟩ : ∃ f l, N.funcs = f :: l := by
    cases hN : N.funcs with
    | nil => rw [hN] at hp; simp at hp
    | cons f l => exact ⟨f, l, rfl⟩
  obtain ⟨q, rfl, hq, hb, _, _, Al, cl, At, ct, Ab, cb, r1, r2, r3, hc⟩ := h.fns.at_ 0 hp.1
  have e0 : N.funcs[0]'hp.1 = f := by simp [hfl]
  rw [e0] at r1 r2 r3 hc
  have hm : f ∈ N.funcs := by rw [hfl]; simp
  obtain ⟨_, _, cur, hB⟩ := h.fns.blk q rfl
  have hne : ∀ k, (some k ≠ some q ∧ (w4.heap.size ≤ k ∧ k ≠ q8)) → k ≠ q := fun k hk e => hk.1 (by rw [e])
  refine ⟨q, f, l, Al, cl, At, ct, Ab, cb, rfl, hfl, hq, hb, fun e => ?_, hp, ⟨by simpa using hc 0 _ rfl, by simpa using hc 1 _ rfl, by simpa using hc 2 _ rfl, by simpa using hc 3 _ rfl, by simpa using hc 4 _ rfl⟩, fun o => hB.frozen o, r1.below hne, r2.below hne, r3.kept (fun _ _ _ => rfl) (fun k hk _ => hne k hk), h.made.fit.fns f hm, h.made.locs f hm, h.made.nums f hm, (h.made.small.body f hm).1, (h.made.small.body f hm).2⟩
  subst e
  exact absurd (hB.uniq h.box) (by decide)
/-- The strings are others. -/
theorem YI.names {w4 wc wA : World} {q8 : Nat} {N : Md} {Bs Bg Bf Be : Option Addr} {ds dg df de : Nat} (h : YI w4 wc q8 N Bs Bg Bf Be ds dg df de) (hb : Below wc.heap.size wc wA) (S : List (List UInt8)) (A : Option Addr) (n c : Nat) (hn : n = S.length) (hS : S.length ≤ 1000000) (hown : wA.ownsRow wc.heap.size 9 1 (.slice A n c) n (strV S)) : Yz w4 (wA.setCell ⟨q8, 0, none⟩ (.slice A n c)) q8 := by
  subst hn
  have hq := h.box.lt
  have hk : ∀ k, k < wc.heap.size → k ≠ q8 → (wA.setCell ⟨q8, 0, none⟩ (.slice A S.length c)).heap[k]? = wc.heap[k]? := fun k hk hne => (Below.heap_setCell wA _ _ k hne).trans (hb.block k hk)
  have own1 : ∀ {e m c' : Nat} {A' : Option Addr} {xs : List Value}, e ≠ 30 → wc.ownsRow w4.heap.size e 1 (.slice A' m c') m xs → RdS (fun _ => True) (wA.setCell ⟨q8, 0, none⟩ (.slice A S.length c)) A' m 1 xs := fun he ho => (RdS.own (own_blocks ho (fun k hk' => hk k (own_lt ho k hk') (fun e2 => by subst e2; exact own_ne ho h.box he hk')))).below (fun _ _ => trivial)
  refine ⟨⟨S, N.globs, N.funcs, N.ents⟩, A, Bg, Bf, Be, c, dg, df, de, ?_, ⟨?_, own1 (by decide) h.globs, ?_, own1 (by decide) h.ents⟩, ⟨hS, h.made.fit.globs, h.made.fit.funcs, h.made.fit.ents, h.made.fit.fns⟩, h.made.small.fns.1, Below.set1 (h.bel.trans (hb.mono h.bel.size)) h.qin _⟩
  · exact (h.box.old hb).set_ 0 _
  · exact (RdS.own (own_blocks hown (fun k hk' => Below.heap_setCell wA _ _ k (by have := own_ge hown k hk'; show k ≠ q8; omega)))).below (fun _ _ => trivial)
  · exact (h.fns.kept (X' := fun _ => True) (fun k hk' => hk k (h.fns.blk k hk').2.1 (fun e => by subst e; obtain ⟨_, _, cur, hB⟩ := h.fns.blk _ hk'; exact absurd (hB.uniq h.box) (by decide))) (fun k hk' hlt => hk k hlt hk'.2) (fun _ _ _ => trivial)).fns
end Go.Proofs.Ytpdebnecfknohaa
namespace Go.Proofs.Ytpdebnecfknohaa
open Go.RowKit
set_option linter.unusedVariables false
set_option linter.unusedSimpArgs false
set_option maxRecDepth 20000
/-- Blocks that have no name. -/
def Zk (g q : Nat) (va vg ve : Value) (Vs : List Value) (k : Nat) : Prop := k ≠ g ∧ k ≠ q ∧ some k ≠ va.ownBlock ∧ some k ≠ vg.ownBlock ∧ some k ≠ ve.ownBlock ∧ ∀ u ∈ Vs, some k ≠ u.ownBlock
structure Nr (w0 : Nat) (W : World) (g q : Nat) (M : Md) (As Ag Ae : Option Addr) (cs cg cf ce : Nat) (Vs : List Value) (Ts : List (List St7)) : Prop where
  box : Blk W g 30 #[.slice As M.strs.length cs, .slice Ag M.globs.length cg, .slice (some ⟨q, 0, none⟩) M.funcs.length cf, .slice Ae M.ents.length ce]
  bel : w0 ≤ g ∧ w0 ≤ q
  strs : W.ownsRow w0 9 1 (.slice As M.strs.length cs) M.strs.length (strV M.strs)
  globs : W.ownsRow w0 3 1 (.slice Ag M.globs.length cg) M.globs.length (intV M.globs)
  ents : W.ownsRow w0 3 1 (.slice Ae M.ents.length ce) M.ents.length (intV M.ents)
  ge : ∀ k, some k = (Value.slice Ag M.globs.length cg).ownBlock → some k ≠ (Value.slice Ae M.ents.length ce).ownBlock
  row : ∃ cs, Blk W q 40 cs ∧ M.funcs.length * 5 ≤ cs.size
  fns : ∀ i (h : i < M.funcs.length), ∃ Al cl At ct Ab cb T, (∀ t u, ([.int .i64 M.funcs[i].name, .int .i64 M.funcs[i].params, .slice Al M.funcs[i].locals.length cl, .slice At M.funcs[i].sites.length ct, .slice Ab M.funcs[i].body.len cb] : List Value)[t]? = some u → W.cell? ⟨q, i * 5 + t, none⟩ = some u) ∧
    RdS (Zk g q (.slice As M.strs.length cs) (.slice Ag M.globs.length cg) (.slice Ae M.ents.length ce) Vs) W Al M.funcs[i].locals.length 1 (intV M.funcs[i].locals) ∧
    RdS (Zk g q (.slice As M.strs.length cs) (.slice Ag M.globs.length cg) (.slice Ae M.ents.length ce) Vs) W At M.funcs[i].sites.length 1 (intV M.funcs[i].sites) ∧
    Vs[i]? = some (.slice Ab M.funcs[i].body.len cb) ∧ Ts[i]? = some T ∧ M.funcs[i].body = bdOf T ∧
    BdRow W w0 (Zk g q (.slice As M.strs.length cs) (.slice Ag M.globs.length cg) (.slice Ae M.ents.length ce) Vs) (.slice Ab M.funcs[i].body.len cb) T
  apart : ∀ (i j : Nat) (v u : Value), i ≠ j → Vs[i]? = some v → Vs[j]? = some u → ∀ k, some k = v.ownBlock → some k ≠ u.ownBlock
theorem MkPostP.near {w w3 : World} {M : Md} {e : Ending} (h : MkPostP w M e w3) (hn : 0 < M.funcs.length) : ∃ As cs Ag cg q cf Ae ce Vs Ts, e = .returned (.agg #[.slice As M.strs.length cs, .slice Ag M.globs.length cg, .slice (some ⟨q, 0, none⟩) M.funcs.length cf, .slice Ae M.ents.length ce]) ∧ Below w.heap.size w w3 ∧
    Nr w.heap.size (w3.alloc (.cells #[.slice As M.strs.length cs, .slice Ag M.globs.length cg, .slice (some ⟨q, 0, none⟩) M.funcs.length cf, .slice Ae M.ents.length ce] 30)) w3.heap.size q M As Ag Ae cs cg cf ce Vs Ts := by
  obtain ⟨Al, cl, A2, c2, Ax, cx, Ae, ce, lo, B, Vs, Ts, rfl, h1, h2, h3, h4, hb, hlo, hlB, hAe, hBd, hTs⟩ := h
  obtain ⟨css, ho, hcl, hfn⟩ := h3.own
  obtain ⟨q, rfl, hq⟩ : ∃ q, Ax = some ⟨q, 0, none⟩ ∧ B ≤ q := by
    rcases ho.2 with ⟨_, h0⟩ | ⟨k, cap, cur, hv, hk, _⟩
    · omega
    · injection hv with hv1 _ _
      exact ⟨k, hv1, hk⟩
  have hA : Below w3.heap.size w3 (w3.alloc (.cells #[.slice Al M.strs.length cl, .slice A2 M.globs.length c2, .slice (some ⟨q, 0, none⟩) M.funcs.length cx, .slice Ae M.ents.length ce] 30)) := (Below.refl _ _).alloc (Nat.le_refl _) _
  have hql : q < w3.heap.size := (h3.blk q rfl).2.1
  have hAl : ∀ k, some k = (Value.slice Al M.strs.length cl).ownBlock → B ≤ k := fun k hk => own_ge h1 k hk
  have hA2 : ∀ k, some k = (Value.slice A2 M.globs.length c2).ownBlock → B ≤ k := fun k hk => own_ge h2 k hk
  have hZ1 : ∀ k, (some k ≠ (Value.slice (some ⟨q, 0, none⟩) M.funcs.length cx).ownBlock ∧ (some k ≠ (Value.slice Al M.strs.length cl).ownBlock ∧ (some k ≠ (Value.slice A2 M.globs.length c2).ownBlock ∧ B ≤ k))) → k < w3.heap.size → Zk w3.heap.size q (.slice Al M.strs.length cl) (.slice A2 M.globs.length c2) (.slice Ae M.ents.length ce) Vs k := fun k hk hlt =>
    ⟨by omega, fun e => by subst e; exact hk.1 rfl, hk.2.1, hk.2.2.1, fun e => by have := hAe k e; have := hk.2.2.2; omega, fun u hu e => by have := hBd.hi u hu k e; have := hk.2.2.2; omega⟩
  have hZ2 : ∀ k, ((lo ≤ k ∧ k < B) ∧ ∀ u ∈ Vs, some k ≠ u.ownBlock) → k < w3.heap.size → Zk w3.heap.size q (.slice Al M.strs.length cl) (.slice A2 M.globs.length c2) (.slice Ae M.ents.length ce) Vs k := fun k hk hlt =>
    ⟨by omega, by omega, fun e => by have := hAl k e; omega, fun e => by have := hA2 k e; omega, fun e => by have := hAe k e; omega, hk.2⟩
  refine ⟨Al, cl, A2, c2, q, cx, Ae, ce, Vs, Ts, rfl, hb, ⟨Blk.new w3 30 _, ⟨hb.size, by omega⟩, own_old (own_base h1 (by omega)) hA, own_old (own_base h2 (by omega)) hA, own_old h4 hA, fun k hk e => by have := hA2 k hk; have := hAe k e; omega, ?_, fun i hi => ?_, hBd.apart⟩⟩
  · rcases ho.2 with ⟨_, h0⟩ | ⟨k, cap, cur, hv, hk, hh, hc1, hc2, hc3, _⟩
    · omega
    · injection hv with hv1 _ _
      injection hv1 with hv1
      injection hv1 with hv1
      subst hv1
      exact ⟨cur, (Blk.alloc (w := w3) hh _), by omega⟩
  · obtain ⟨cs, ecs, Al', cl', At, ct, Ab, cb, rfl, hP, r1, r2, r3⟩ := hfn i hi
    obtain ⟨T, hT, hbT⟩ := hTs i hi
    refine ⟨Al', cl', At, ct, Ab, cb, T, fun t u ht => ?_, r1.kept (fun k _ hk => hA.block k hk) hZ1 (by decide), r2.kept (fun k _ hk => hA.block k hk) hZ1 (by decide), hP, hT, hbT, ?_⟩
    · have ht5 : t < 5 := by have := (List.getElem?_eq_some_iff.1 ht).1; simpa using this
      have hlen : ∀ c ∈ css, c.length = 5 := fun c hc => by
        obtain ⟨m, hm, rfl⟩ := List.mem_iff_getElem.1 hc
        obtain ⟨c', e', _, _, _, _, _, _, e2, _⟩ := hfn m (by omega)
        rw [List.getElem?_eq_getElem hm] at e'
        injection e' with e'
        rw [e', e2]; rfl
      have hf : css.flatten[i * 5 + t]? = some u := by rw [flat_get 5 css i _ t hlen ecs ht5]; exact ht
      exact cell_old hA hql ((RdS.own ho).2 hn |>.elim fun b h => by
        obtain ⟨o, hA', _, hc⟩ := h
        injection hA' with hA'
        injection hA' with hb' ho'
        subst hb'; subst ho'
        have := hc (i * 5 + t) u hf
        rwa [Nat.zero_add] at this)
    · have hr := hBd.rows i _ T hP hT
      have hr2 := hr.kept (w' := w3.alloc (.cells #[.slice Al M.strs.length cl, .slice A2 M.globs.length c2, .slice (some ⟨q, 0, none⟩) M.funcs.length cx, .slice Ae M.ents.length ce] 30)) (fun k hk => hA.block k (hr.blk k hk).2.1) (fun k _ hk => hA.block k hk) hZ2
      obtain ⟨css2, o1, o2, o3⟩ := hr2.own
      exact ⟨css2, own_base o1 (by omega), o2, o3⟩
section
variable {w0 : Nat} {W W' : World} {g q : Nat} {M : Md} {As Ag Ae : Option Addr} {cs cg cf ce : Nat} {Vs : List Value} {Ts : List (List St7)}
theorem BdRow.reads {w : World} {base : Nat} {X : Nat → Prop} {A : Option Addr} {n c : Nat} {T : List St7} (h : BdRow w base X (.slice A n c) T) : BodyS (fun _ => True) w A (bdOf T) := (h.body (S := fun _ => True) (fun _ _ _ => trivial) (fun _ _ => trivial)).1
/-- A function that no change has touched. -/
theorem Nr.fn_at (h : Nr w0 W g q M As Ag Ae cs cg cf ce Vs Ts) (i : Nat) (hi : i < M.funcs.length) (hq : ∀ t, t < 5 → W'.cell? ⟨q, i * 5 + t, none⟩ = W.cell? ⟨q, i * 5 + t, none⟩)
    (hz : ∀ k, Zk g q (.slice As M.strs.length cs) (.slice Ag M.globs.length cg) (.slice Ae M.ents.length ce) Vs k → k < W.heap.size → W'.heap[k]? = W.heap[k]?)
    (hv : ∀ u k, Vs[i]? = some u → some k = u.ownBlock → W'.heap[k]? = W.heap[k]?) :
    ∃ cf', FnS (fun _ => True) W' cf' M.funcs[i] ∧ ∀ t u, cf'[t]? = some u → W'.cell? ⟨q, i * 5 + t, none⟩ = some u := by
  obtain ⟨Al, cl, At, ct, Ab, cb, T, hc, r1, r2, hV, hT, hb, hB⟩ := h.fns i hi
  have hB' := hB.kept (fun k hk => hv _ k hV hk) hz (fun _ _ _ => trivial) (X' := fun _ => True)
  have hr := hB'.reads
  rw [← hb] at hr
  exact ⟨_, ⟨Al, cl, At, ct, Ab, cb, rfl, r1.kept hz (fun _ _ _ => trivial) (by decide), r2.kept hz (fun _ _ _ => trivial) (by decide), hr⟩, fun t u ht => (hq t (by have := (List.getElem?_eq_some_iff.1 ht).1; simpa using this)).trans (hc t u ht)⟩
theorem Nr.fns_all (h : Nr w0 W g q M As Ag Ae cs cg cf ce Vs Ts) (hq : W'.heap[q]? = W.heap[q]?)
    (hz : ∀ k, Zk g q (.slice As M.strs.length cs) (.slice Ag M.globs.length cg) (.slice Ae M.ents.length ce) Vs k → k < W.heap.size → W'.heap[k]? = W.heap[k]?)
    (hv : ∀ u ∈ Vs, ∀ k, some k = u.ownBlock → W'.heap[k]? = W.heap[k]?) : FnsS (fun _ => True) W' (some ⟨q, 0, none⟩) M.funcs := fun hp => by
  refine ⟨q, 0, rfl, trivial, fun i hi => ?_⟩
  obtain ⟨c, h1, h2⟩ := h.fn_at i hi (fun t _ => World.cell?_of_block hq) hz (fun u k hu hk => hv u (List.mem_of_getElem? hu) k hk)
  exact ⟨c, h1, fun t u ht => by rw [Nat.zero_add]; exact h2 t u ht⟩
theorem Nr.fns_set (h : Nr w0 W g q M As Ag Ae cs cg cf ce Vs Ts) (j : Nat) (f' : Fn) (hq : ∀ i t, i < M.funcs.length → i ≠ j → t < 5 → W'.cell? ⟨q, i * 5 + t, none⟩ = W.cell? ⟨q, i * 5 + t, none⟩)
    (hz : ∀ k, Zk g q (.slice As M.strs.length cs) (.slice Ag M.globs.length cg) (.slice Ae M.ents.length ce) Vs k → k < W.heap.size → W'.heap[k]? = W.heap[k]?)
    (hv : ∀ i u k, i ≠ j → Vs[i]? = some u → some k = u.ownBlock → W'.heap[k]? = W.heap[k]?)
    (hf : ∃ cf', FnS (fun _ => True) W' cf' f' ∧ ∀ t u, cf'[t]? = some u → W'.cell? ⟨q, j * 5 + t, none⟩ = some u) : FnsS (fun _ => True) W' (some ⟨q, 0, none⟩) (M.funcs.set j f') := fun hp => by
  refine ⟨q, 0, rfl, trivial, fun i hi => ?_⟩
  have hi' : i < M.funcs.length := by simpa using hi
  by_cases hij : i = j
  · subst hij
    obtain ⟨c, h1, h2⟩ := hf
    rw [List.getElem_set_self]
    exact ⟨c, h1, fun t u ht => by rw [Nat.zero_add]; exact h2 t u ht⟩
  · obtain ⟨c, h1, h2⟩ := h.fn_at i hi' (fun t ht => hq i t hi' hij ht) hz (fun u k hu hk => hv i u k hij hu hk)
    rw [List.getElem_set_ne (fun e => hij e.symm)]
    exact ⟨c, h1, fun t u ht => by rw [Nat.zero_add]; exact h2 t u ht⟩
/-- Blocks with names are apart. -/
theorem Nr.named (h : Nr w0 W g q M As Ag Ae cs cg cf ce Vs Ts) {u : Value} (hu : u ∈ Vs) (hi : Vs.length ≤ M.funcs.length) {k : Nat} (hk : some k = u.ownBlock) : (∃ cur, Blk W k 50 cur) ∧ k ≠ g ∧ k ≠ q ∧ some k ≠ (Value.slice As M.strs.length cs).ownBlock ∧ some k ≠ (Value.slice Ag M.globs.length cg).ownBlock ∧ some k ≠ (Value.slice Ae M.ents.length ce).ownBlock := by
  obtain ⟨i, hiv, e⟩ := List.mem_iff_getElem.1 hu
  obtain ⟨Al, cl, At, ct, Ab, cb, T, hc, r1, r2, hV, hT, hb, hB⟩ := h.fns i (by omega)
  rw [List.getElem?_eq_getElem hiv, e] at hV
  injection hV with hV
  subst hV
  obtain ⟨_, _, cur, hcur⟩ := hB.blk k hk
  obtain ⟨rc, hrow, _⟩ := h.row
  exact ⟨⟨cur, hcur⟩, fun e' => by subst e'; exact absurd (hcur.uniq h.box) (by decide), fun e' => by subst e'; exact absurd (hcur.uniq hrow) (by decide), fun e' => own_ne h.strs hcur (by decide) e', fun e' => own_ne h.globs hcur (by decide) e', fun e' => own_ne h.ents hcur (by decide) e'⟩
theorem Nr.qg (h : Nr w0 W g q M As Ag Ae cs cg cf ce Vs Ts) : q ≠ g := fun e => by
  obtain ⟨rc, hrow, _⟩ := h.row
  subst e
  exact absurd (hrow.uniq h.box) (by decide)
theorem Nr.sNe (h : Nr w0 W g q M As Ag Ae cs cg cf ce Vs Ts) {k : Nat} (hk : some k = (Value.slice As M.strs.length cs).ownBlock) : k ≠ g ∧ k ≠ q ∧ some k ≠ (Value.slice Ag M.globs.length cg).ownBlock ∧ some k ≠ (Value.slice Ae M.ents.length ce).ownBlock := by
  obtain ⟨rc, hrow, _⟩ := h.row
  obtain ⟨_, cur, hb⟩ := own_blk h.strs _ hk
  exact ⟨fun e => by subst e; exact own_ne h.strs h.box (by decide) hk, fun e => by subst e; exact own_ne h.strs hrow (by decide) hk, fun e => own_ne h.globs hb (by decide) e, fun e => own_ne h.ents hb (by decide) e⟩
end
end Go.Proofs.Ytpdebnecfknohaa
