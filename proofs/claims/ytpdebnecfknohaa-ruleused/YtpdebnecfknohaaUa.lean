/-
  The walk of RuleUsed.
-/
import Derived.Test.YtpdebnecfknohaaTad
import Derived.Test.YtpdebnecfknohaaQn
import Derived.Test.YtpdebnecfknohaaMk
import Derived.Laws.OwnMore
namespace Go.Proofs.Ytpdebnecfknohaa
open Go.RowKit
set_option linter.unusedVariables false
set_option linter.unusedSimpArgs false

set_option maxRecDepth 20000
theorem used_small (M : Md) (h : M.Made) (hf : ∀ f ∈ M.funcs, f.locals.length ≤ 1000000 ∧ f.sites.length ≤ 1000000) : (usedI M.globs M.funcs M.funcs.length).length ≤ 90000000 := by
  have h1 := h.small.fns.2
  have h2 := h.fit.globs
  have key : ∀ L : List Fn, (∀ f ∈ L, f.locals.length ≤ 1000000 ∧ f.sites.length ≤ 1000000) → ((L.map fun f => f.name :: (f.locals ++ f.sites)).flatten).length ≤ 2000001 * L.length := by
    intro L hL
    induction L with
    | nil => simp
    | cons f L ih =>
      have := ih fun g hg => hL g (List.mem_cons_of_mem _ hg)
      have := hL f List.mem_cons_self
      simp only [List.map_cons, List.flatten_cons, List.length_append, List.length_cons] at *
      omega
  have := key M.funcs hf
  unfold usedI
  rw [List.take_length, List.length_append]
  omega
set_option maxHeartbeats 20000000 in
theorem usedlaw_walk (G F E : Nat) (k ri : Int) (Aa : Option Addr) (na ca : Nat) (acts : List Ac) (w : World) (hG : G < 256) (hF : F < 256) (hE : E < 256) (hna : acts.length = na) (hnl : na ≤ 9223372036854775807) (hacts : AcsAt w Aa acts) (hac : ∀ x ∈ acts, x.k < 256 ∧ x.a < 256 ∧ x.b < 256 ∧ x.c < 256) :
    Calls Try.prog 7 #[.agg #[.int .u8 (G : Int), .int .u8 (F : Int), .int .u8 (E : Int), .slice Aa na ca], .agg #[.int .u8 k, .int .i64 ri]] w fun e w' => e = .returned (.bool true) ∧ Below w.heap.size w w' := by
  have old : ∀ {wx : World} {A : Option Addr} {l : List Ac}, Below w.heap.size w wx → AcsAt w A l → AcsAt wx A l := fun hx h hp => by
    obtain ⟨b, o, hA, hc⟩ := h hp
    refine ⟨b, o, hA, fun i hi => ?_⟩
    obtain ⟨x0, x1, x2, x3⟩ := hc i hi
    have hl := World.block_lt_of_cell? w ⟨b, o + i * 4, none⟩ x0
    exact ⟨cell_old hx hl x0, cell_old hx hl x1, cell_old hx hl x2, cell_old hx hl x3⟩
  have hMa := fun wx (hx : Below w.heap.size w wx) => make_any G F E Aa na ca acts wx hG hF hE hna (old hx hacts) hac
  have hXm := mk_made (gnames (1 + G / 4 % 3) (G % 4)) F E G acts (gnames_len _ _)
  generalize canM (mkM (gnames (1 + G / 4 % 3) (G % 4)) (ints (G % 4)) F E acts) = M at hMa hXm
  have HMa := Lib.hid hMa
  have HXm := Lib.hid hXm
  obtain ⟨w1, hw1⟩ : ∃ w1, w1 = (w.alloc (.cells #[.int .u8 (G : Int), .int .u8 (F : Int), .int .u8 (E : Int), .slice Aa na ca] 24)).alloc (.cells #[.int .u8 k, .int .i64 ri] 46) := ⟨_, rfl⟩
  have HB : Hid (Below w.heap.size w w1) := by rw [hw1]; exact ((Below.refl _ _).alloc (Nat.le_refl _) _).alloc (by simp) _
  have K1 : Hid (Blk w1 w.heap.size 24 #[.int .u8 (G : Int), .int .u8 (F : Int), .int .u8 (E : Int), .slice Aa na ca]) := by rw [hw1]; exact (Blk.new w 24 _).alloc _
  have K2 : Hid (Blk w1 (w.heap.size + 1) 46 #[.int .u8 k, .int .i64 ri]) := by rw [hw1]; exact Blk.new' _ 46 _ _ (by simp)
  clear hMa hXm old hna hacts hac
  go_enter Try.func7, Try.ntmps7
  go_upto_region 1 with (fail)
  rw [← hw1]
  clear hw1
  go_wp2_with fail
  refine (awake6_any _).mono ?_
  rintro e w2 ⟨rfl, hb2⟩
  have HB2 := Lib.hid (HB.out.trans (hb2.mono HB.out.size))
  have K12 := Lib.hid (K1.out.old hb2)
  have K22 := Lib.hid (K2.out.old hb2)
  clear hb2 K1 K2 HB
  obtain ⟨c0, c1, c2, c3⟩ := K12.out.c4
  have z1 : w.heap.size < w2.heap.size := K12.out.lt
  by_cases h60 : 60 < na
  · have h60i : (60 : Int) < (na : Int) := by omega
    go_wp2_with fail
    refine (awake6_any _).mono ?_
    rintro e w3 ⟨rfl, hb3⟩
    have HB3 := Lib.hid (HB2.out.trans (hb3.mono HB2.out.size))
    clear hb3
    go_wp2
    go_ret
    exact ⟨rfl, HB3.out⟩
  · have h60i : ¬ (60 : Int) < (na : Int) := by omega
    go_wp2_with fail
    refine (HMa.out w2 HB2.out).mono ?_
    intro e w3 hP
    obtain ⟨As, cs, Ag, cg, Af, cf, Ae, ce, rfl, hRx, hb3⟩ := hP.read
    have HRx := Lib.hid hRx
    have HB3 := Lib.hid (HB2.out.trans (hb3.mono HB2.out.size))
    have K23 := Lib.hid (K22.out.old hb3)
    clear hP hRx hb3 c0 c1 c2 c3 z1 K12 K22
    have hfit := HXm.out.fit
    have hfns := fun f (hf : f ∈ M.funcs) => (⟨(hfit.fns f hf).locals, (hfit.fns f hf).sites⟩ : f.locals.length ≤ 1000000 ∧ f.sites.length ≤ 1000000)
    have HLo := Lib.hid hfns
    have hU := used_small M HXm.out hfns
    have hUsed := fun wx (hx : Below w3.heap.size w3 wx) => used2_any As Ag Af Ae M.strs.length cs cg cf M.ents.length ce M.globs M.funcs wx (HRx.out.globs.old hx (by omega)) (HRx.out.funcs.old hx) hfit.globs hfit.funcs hfns hU
    have hG0 := HRx.out.globs
    have HF := Lib.hid HRx.out.funcs
    have hg := hfit.globs
    have hl := hfit.funcs
    clear hfit hfns HRx HXm HMa
    obtain ⟨Ss, Gl, L, En⟩ := M
    dsimp only at *
    have hUl := usedI_le Gl L
    obtain ⟨U, hUe⟩ : ∃ U, U = usedI Gl L := ⟨_, rfl⟩
    have HUs : Hid (∀ i (h : i < L.length), U (i + 1) = ((U i ++ [L[i].name]) ++ L[i].locals) ++ L[i].sites) := by rw [hUe]; exact fun i h => usedI_succ Gl L i h
    have HU0 : Hid (U 0 = Gl) := by show _ = _; rw [hUe]; simp [usedI]
    rw [← hUe] at hUl hU hUsed
    have HUl : Hid (∀ i, (U i).length ≤ 90000000) := fun i => Nat.le_trans (hUl i) hU
    obtain ⟨ls, hls⟩ : ∃ n, n = Ss.length := ⟨_, rfl⟩
    obtain ⟨ne, hne⟩ : ∃ n, n = En.length := ⟨_, rfl⟩
    obtain ⟨nf, hnf⟩ : ∃ n, n = L.length := ⟨_, rfl⟩
    obtain ⟨ng, hng⟩ : ∃ n, n = Gl.length := ⟨_, rfl⟩
    have HNF := Lib.hid hnf
    have HNG := Lib.hid hng
    rw [← hls, ← hng, ← hnf, ← hne] at hUsed ⊢
    rw [← hnf] at hl
    rw [← hng] at hg hG0
    have HUsed := Lib.hid hUsed
    obtain ⟨w4, hw4⟩ : ∃ w4, w4 = w3.alloc (.cells #[.slice As ls cs, .slice Ag ng cg, .slice Af nf cf, .slice Ae ne ce] 30) := ⟨_, rfl⟩
    have HB4 : Hid (Below w3.heap.size w3 w4) := by rw [hw4]; exact (Below.refl _ _).alloc (Nat.le_refl _) _
    have K4 : Hid (Blk w4 w3.heap.size 30 #[.slice As ls cs, .slice Ag ng cg, .slice Af nf cf, .slice Ae ne ce]) := by rw [hw4]; exact Blk.new w3 30 _
    obtain ⟨A0, c0, w5, hr5, hO5, hg5⟩ := pushL (base := w3.heap.size) (n := 0) (m := ng) (c := cg) (v := .slice none 0 0) (l := []) (xs := Gl) (A := Ag) (w := w4) rfl hng (World.ownsRow_nil _ _ _ _) (hG0.old HB4.out (by omega)) (by omega) hg HB4.out.size
    simp only [Nat.zero_add, List.nil_append] at hr5 hO5
    have HB5 : Hid (Below w3.heap.size w3 w5) := HB4.out.grown hg5 HB4.out.size (fun k hk => by simp [Value.ownBlock] at hk)
    have K5 : Hid (Blk w5 w3.heap.size 30 #[.slice As ls cs, .slice Ag ng cg, .slice Af nf cf, .slice Ae ne ce]) := K4.out.grown hg5 (by simp [Value.ownBlock])
    have HO5 : Hid (w5.ownsRow w3.heap.size 3 1 (.slice A0 ng c0) ng (intV (U 0))) := by
      show World.ownsRow _ _ _ _ _ _ _
      rw [HU0.out]; exact hO5
    have HN0 : Hid (ng = (U 0).length) := by show _ = _; rw [HU0.out]; exact HNG.out
    clear hUsed hG0 hU hUl hUe hls hng hnf hne hO5 hg5 hg
    go_upto_region 4 with (fail)
    rw [← hw4]
    clear hw4
    obtain ⟨m0, m1, m2, m3⟩ := K4.out.c4
    have z1 : w3.heap.size < w4.heap.size := K4.out.lt
    go_upto_region 5 with (at_builtin; refine Lib.wpList_append_run _ rfl _ _ 27 27 rfl _ _ rfl rfl _ _ hr5 ?_)
    clear hr5 m0 m1 m2 m3 z1 K4 HB4 HNG HU0
    go_wp2_with fail
    go_loopw [6, 7] (fun s6 s7 wr => ∃ (i n : Nat) (A : Option Addr) (c : Nat), i ≤ nf ∧ s7 = .int .i64 (i : Int) ∧ s6 = .slice A n c ∧ Hid (n = (U i).length) ∧ Hid (wr.ownsRow w3.heap.size 3 1 (.slice A n c) n (intV (U i))) ∧ Hid (Below w3.heap.size w3 wr) ∧ Hid (Blk wr w3.heap.size 30 #[.slice As ls cs, .slice Ag ng cg, .slice Af nf cf, .slice Ae ne ce])) (fun _ s7 _ => nf - (intOf s7).toNat)
    case atStart => exact ⟨0, ng, A0, c0, Nat.zero_le _, rfl, rfl, HN0, HO5, HB5, K5⟩
    case round =>
      clear HO5 HB5 HN0 K5
      obtain ⟨i, n, A, c, hi, rfl, rfl, hn, hO, hB, hK⟩ := hrel
      by_cases hlt : i < nf
      · have hiL : i < L.length := by rw [← HNF.out]; exact hlt
        have hli : (i : Int) < (nf : Int) := by omega
        obtain ⟨b, o, rfl, _, hc⟩ := HF.out (by omega)
        obtain ⟨fs, ⟨Al, cl, At, ct, Ab, cb, rfl, r1, r2, _⟩, hcc⟩ := hc i hiL
        have hbl : b < w3.heap.size := World.block_lt_of_cell? w3 _ (hcc 0 _ rfl)
        have e0 := cell_old hB.out hbl (hcc 0 _ rfl)
        simp only [Nat.add_zero] at e0
        obtain ⟨hlo1, hlo2⟩ := HLo.out _ (List.getElem_mem hiL)
        have hus := HUs.out i hiL
        have hul := HUl.out (i + 1)
        generalize L[i] = f at *
        obtain ⟨fn, fp, fl, ft, fb⟩ := f
        dsimp only at *
        obtain ⟨nl, hnl⟩ : ∃ x, x = fl.length := ⟨_, rfl⟩
        obtain ⟨nt, hnt⟩ : ∃ x, x = ft.length := ⟨_, rfl⟩
        rw [← hnl] at r1 hlo1
        rw [← hnt] at r2 hlo2
        have c2 := hcc 2 _ rfl
        have c3 := hcc 3 _ rfl
        rw [← hnl] at c2
        rw [← hnt] at c3
        have hub : n + 1 + nl + nt ≤ 90000000 := by
          rw [hus] at hul
          simp only [List.length_append, List.length_cons, List.length_nil] at hul
          have := hn.out
          omega
        have HBA : Below w3.heap.size w3 (wr.alloc (.cells #[.int .i64 fn] 3)) := hB.out.alloc hB.out.size _
        have hOA := hO.out.alloc (.cells #[.int .i64 fn] 3)
        have KA := hK.out.alloc (.cells #[.int .i64 fn] 3)
        have hr1c : RdS (fun _ => True) (wr.alloc (.cells #[.int .i64 fn] 3)) (some ⟨wr.heap.size, 0, none⟩) 1 1 (intV [fn]) := ⟨rfl, fun _ => ⟨_, 0, rfl, trivial, fun j u hj => by
          have hk : Blk (wr.alloc (.cells #[.int .i64 fn] 3)) wr.heap.size 3 #[.int .i64 fn] := Blk.new _ 3 _
          rw [Nat.zero_add, hk.cell]
          simpa [intV] using hj⟩⟩
        obtain ⟨A3, c3', w6, q3, hO3, hg3⟩ := pushL (base := w3.heap.size) (m := 1) (c := 1) hn.out (xs := [fn]) rfl hOA hr1c (by omega) (by omega) HBA.size
        have hB3 : Below w3.heap.size w3 w6 := HBA.grown hg3 HBA.size (fun k hk => (hOA.lt k hk).1)
        have hK3 : Blk w6 w3.heap.size 30 #[.slice As ls cs, .slice Ag ng cg, .slice (some ⟨b, o, none⟩) nf cf, .slice Ae ne ce] := KA.grown hg3 (own_ne hOA KA (by decide))
        obtain ⟨A4, c4', w7, q4, hO4, hg4⟩ := pushL (base := w3.heap.size) (m := nl) (c := cl) (l := U i ++ [fn]) (xs := fl) (n := n + 1) (by have := hn.out; simp; omega) hnl hO3 (r1.old hB3 (by omega)) (by omega) hlo1 hB3.size
        have hB4 : Below w3.heap.size w3 w7 := hB3.grown hg4 hB3.size (fun k hk => (hO3.lt k hk).1)
        have hK4 : Blk w7 w3.heap.size 30 #[.slice As ls cs, .slice Ag ng cg, .slice (some ⟨b, o, none⟩) nf cf, .slice Ae ne ce] := hK3.grown hg4 (own_ne hO3 hK3 (by decide))
        obtain ⟨A5, c5', w8, q5, hO5, hg5⟩ := pushL (base := w3.heap.size) (m := nt) (c := ct) (l := (U i ++ [fn]) ++ fl) (xs := ft) (n := n + 1 + nl) (by have := hn.out; simp; omega) hnt hO4 (r2.old hB4 (by omega)) (by omega) hlo2 hB4.size
        have HB5 : Hid (Below w3.heap.size w3 w8) := hB4.grown hg5 hB4.size (fun k hk => (hO4.lt k hk).1)
        have K5 : Hid (Blk w8 w3.heap.size 30 #[.slice As ls cs, .slice Ag ng cg, .slice (some ⟨b, o, none⟩) nf cf, .slice Ae ne ce]) := hK4.grown hg5 (own_ne hO4 hK4 (by decide))
        have HO5 : Hid (w8.ownsRow w3.heap.size 3 1 (.slice A5 (n + 1 + nl + nt) c5') (n + 1 + nl + nt) (intV (U (i + 1)))) := by
          show World.ownsRow _ _ _ _ _ _ _
          rw [hus]; exact hO5
        have HN5 : Hid (n + 1 + nl + nt = (U (i + 1)).length) := by
          show _ = _
          rw [hus]
          simp only [List.length_append, List.length_cons, List.length_nil]
          have := hn.out
          omega
        have e2 := cell_old hB3 hbl c2
        have e3 := cell_old hB4 hbl c3
        have zb0 : b < wr.heap.size := by have := hB.out.size; omega
        have zb3 : b < w6.heap.size := by have := hB3.size; omega
        have zb4 : b < w7.heap.size := by have := hB4.size; omega
        have K3 := Lib.hid hK3
        have K4 := Lib.hid hK4
        have E2 := Lib.hid e2
        have E3 := Lib.hid e3
        have ZB3 := Lib.hid zb3
        have ZB4 := Lib.hid zb4
        clear hc hcc c2 c3 r1 r2 hlo1 hlo2 hus hul hnl hnt hub HBA hOA KA hr1c hO3 hg3 hB3 hK3 hO4 hg4 hB4 hK4 hO5 hg5 hn hO hB e2 e3 zb3 zb4 hbl
        obtain ⟨m0, m1, m2, m3⟩ := hK.out.c4
        have z1 : w3.heap.size < wr.heap.size := hK.out.lt
        go_upto_region 8 with (fail)
        go_upto_region 9 with (at_builtin; refine Lib.wpList_append_run _ rfl _ _ 27 27 rfl _ _ rfl rfl _ _ q3 ?_)
        clear q3 e0 zb0 m0 m1 m2 m3 z1 hK
        obtain ⟨m0, m1, m2, m3⟩ := K3.out.c4
        have z1 : w3.heap.size < w6.heap.size := K3.out.lt
        have e2 := E2.out
        have zb := ZB3.out
        go_upto_region 10 with (at_builtin; refine Lib.wpList_append_run _ rfl _ _ 27 27 rfl _ _ rfl rfl _ _ q4 ?_)
        clear q4 e2 zb m0 m1 m2 m3 z1 K3 E2 ZB3
        obtain ⟨m0, m1, m2, m3⟩ := K4.out.c4
        have z1 : w3.heap.size < w7.heap.size := K4.out.lt
        have e3 := E3.out
        have zb := ZB4.out
        go_wp2_with (at_builtin; refine Lib.wpList_append_run _ rfl _ _ 27 27 rfl _ _ rfl rfl _ _ q5 ?_)
        clear q5 e3 zb m0 m1 m2 m3 z1 K4 E3 ZB4
        go_roundw
        case rel => exact ⟨i + 1, n + 1 + nl + nt, A5, c5', by omega, by go_num, rfl, HN5, HO5, HB5, K5⟩
        case measure => simp [intOf]; omega
      · obtain rfl : i = nf := by omega
        obtain ⟨m0, m1, m2, m3⟩ := hK.out.c4
        have z1 : w3.heap.size < wr.heap.size := hK.out.lt
        go_wp2_with fail
        refine (HUsed.out _ hB.out).mono ?_
        rintro e w9 ⟨A9, c9, rfl, hO9, hb9⟩
        have hO2 := own_old hO.out hb9
        have HB9 := Lib.hid (HB3.out.trans ((hB.out.trans (hb9.mono hB.out.size)).mono HB3.out.size))
        have K29 := Lib.hid (K23.out.old (hB.out.trans (hb9.mono hB.out.size)))
        rw [← hn.out] at hO9 ⊢
        have HUln : Hid (n = (U i).length) := hn
        have hub : n ≤ 90000000 := by rw [hn.out]; exact HUl.out i
        clear hb9 hO hn hB hK m0 m1 m2 m3 z1 K23 HUl HUs HF HLo HNF HUsed HB3
        generalize U i = V at *
        have HO9 := Lib.hid hO9
        have HO2 := Lib.hid hO2
        clear hO9 hO2
        obtain ⟨wo, hwo⟩ : ∃ wo, wo = w9 := ⟨w9, rfl⟩
        rw [← hwo] at HO9 HO2 K29 HB9 ⊢
        clear hwo
        go_wp2_with fail
        go_loopw [9] (fun s ws => ∃ (j m : Nat), j ≤ n ∧ s = .int .i64 (j : Int) ∧ Hid (ws = wo.drewN m)) (fun s _ => n - (intOf s).toNat)
        case atStart => exact ⟨0, 0, Nat.zero_le _, rfl, rfl⟩
        case round =>
          obtain ⟨j, m, hj, rfl, hW⟩ := hrel
          have hR := Lib.hid (hW.out ▸ below_dN wo m wo.heap.size)
          by_cases hlt : j < n
          · have hlj : (j : Int) < (n : Int) := by omega
            have hjV : j < V.length := by rw [← HUln.out]; exact hlt
            obtain ⟨q1, cap1, hv1, _, hq1⟩ := own_formM HO9.out (by omega)
            obtain ⟨q2, cap2, hv2, _, hq2⟩ := own_formM HO2.out (by omega)
            injection hv1 with hv1 _ hv1c
            injection hv2 with hv2 _ hv2c
            subst hv1 hv2
            have e1 := cell_old hR.out hq1 (own_cellsM HO9.out j _ (intV_get V j hjV))
            have e2 := cell_old hR.out hq2 (own_cellsM HO2.out j _ (intV_get V j hjV))
            have zq1 := Nat.lt_of_lt_of_le hq1 hR.out.size
            have zq2 := Nat.lt_of_lt_of_le hq2 hR.out.size
            rw [Nat.zero_add] at e1 e2
            clear hv1c hv2c HO9 HO2 hq1 hq2
            generalize V[j] = xb at *
            have hq0 : (xb == xb) = true := by simp
            have hq1' : (xb != xb) = false := by simp
            clear hR
            go_upto_region 17 with (fail)
            go_quiet ((fail))
            go_wp2
            go_roundw
            case rel => exact ⟨j + 1, _, by omega, by go_num, quiet_w hW.out _⟩
            case measure => simp [intOf]; omega
          · obtain rfl : j = n := by omega
            have K39 := Lib.hid (K29.out.old hR.out)
            have HB10 := Lib.hid (HB9.out.trans (hR.out.mono HB9.out.size))
            clear hR hW K29 HB9
            have d := K39.out.c2
            obtain ⟨d0, d1⟩ := d
            have z2 := K39.out.lt
            clear HO9 HO2
            go_upto_region 19 with (fail)
            clear d0 d1 z2
            refine wp_region_held_drew (S := (fun W => Blk W (w.heap.size + 1) 46 #[.int .u8 k, .int .i64 ri] ∧ Below w.heap.size w W)) (by kernel_rfl) ⟨K39.out.old (below_dN _ _ _), HB10.out.drew⟩ (fun hHeld => ?_)
            refine wpAnyH_take (i := 0) (oi := { dst := some 78, op := Op.load 46 (Operand.tmp 3), type := 46, pos := "law.go:210", after := #[], guard := none }) (v := ?_) rfl (by kernel_rfl) (by kernel_rfl) (by kernel_rfl) (fun _ _ _ h => h) (Or.inl ⟨by rfl, ?_⟩) (by assumption) ?_
            rotate_left
            · (intro W hSW; (try dsimp only at hSW); have q0 := hSW.1.cell 0; have q1 := hSW.1.cell 1; have q2 := hSW.1.lt; go_simp; first | done | with_reducible rfl)
            try simp only [Act.put, List.setIfInBounds_toArray, List.set_cons_zero, List.set_cons_succ]
            refine wpAnyH_take (i := 2) (oi := { dst := some 80, op := Op.fieldAddr 46 (Operand.tmp 3) 0, type := 0, pos := "law.go:210", after := #[], guard := none }) (v := ?_) rfl (by kernel_rfl) (by kernel_rfl) (by kernel_rfl) (fun _ _ _ h => h) (Or.inl ⟨by rfl, ?_⟩) (by assumption) ?_
            rotate_left
            · (intro W hSW; (try dsimp only at hSW); have q0 := hSW.1.cell 0; have q1 := hSW.1.cell 1; have q2 := hSW.1.lt; go_simp; first | done | with_reducible rfl)
            try simp only [Act.put, List.setIfInBounds_toArray, List.set_cons_zero, List.set_cons_succ]
            refine wpAnyH_take (i := 3) (oi := { dst := some 81, op := Op.load 5 (Operand.tmp 80), type := 5, pos := "law.go:210", after := #[{ on := 2, ground := Ground.data }], guard := none }) (v := ?_) rfl (by kernel_rfl) (by kernel_rfl) (by kernel_rfl) (fun _ _ _ h => h) (Or.inl ⟨by rfl, ?_⟩) (by assumption) ?_
            rotate_left
            · (intro W hSW; (try dsimp only at hSW); have q0 := hSW.1.cell 0; have q1 := hSW.1.cell 1; have q2 := hSW.1.lt; go_simp; first | done | with_reducible rfl)
            try simp only [Act.put, List.setIfInBounds_toArray, List.set_cons_zero, List.set_cons_succ]
            refine wpAnyH_take (i := 4) (oi := { dst := some 82, op := Op.binOp BinOp.eql 5 (Operand.tmp 81) (Operand.const (Value.int IntKind.u8 1)) 5, type := 4, pos := "law.go:210", after := #[{ on := 3, ground := Ground.data }], guard := none }) (v := ?_) rfl (by kernel_rfl) (by kernel_rfl) (by kernel_rfl) (fun _ _ _ h => h) (Or.inl ⟨by rfl, ?_⟩) (by assumption) ?_
            rotate_left
            · (intro W hSW; (try dsimp only at hSW); have q0 := hSW.1.cell 0; have q1 := hSW.1.cell 1; have q2 := hSW.1.lt; go_simp; first | done | with_reducible rfl)
            try simp only [Act.put, List.setIfInBounds_toArray, List.set_cons_zero, List.set_cons_succ]
            by_cases hk : k = 1
            · subst hk
              refine wpAnyH_ready (rs := [1]) (by kernel_rfl) (by simp) ?_
              refine AllReadyH.cons (o := { dst := some 79, op := Op.call { callee := Callee.value (Operand.func 24), args := #[Operand.tmp 78], argTypes := #[46] }, type := 4, pos := "law.go:210", after := #[{ on := 0, ground := Ground.data }], guard := none }) rfl (fun KQ hKQ => ?_) AllReadyH.nil
              go_simp
              refine (var_any _ _ _).mono ?_
              rintro e w11 ⟨rfl, hb11⟩
              have hH2 : Blk w11 (w.heap.size + 1) 46 _ ∧ Below w.heap.size w w11 := ⟨hHeld.1.old hb11, hHeld.2.trans (hb11.mono hHeld.2.size)⟩
              refine hKQ.out _ _ hH2 (fun _ => ?_)
              clear hKQ KQ
              try simp only [Act.put, List.setIfInBounds_toArray, List.set_cons_zero, List.set_cons_succ]
              refine wpAnyH_take (i := 5) (oi := { dst := some 83, op := Op.move (Operand.tmp 82), type := 4, pos := "law.go:210", after := #[{ on := 4, ground := Ground.data }, { on := 1, ground := Ground.chain }], guard := none }) (v := ?_) rfl (by kernel_rfl) (by kernel_rfl) (by kernel_rfl) (fun _ _ _ h => h) (Or.inl ⟨by rfl, ?_⟩) (by assumption) ?_
              rotate_left
              · (intro W hSW; (try dsimp only at hSW); have q0 := hSW.1.cell 0; have q1 := hSW.1.cell 1; have q2 := hSW.1.lt; go_simp; first | done | with_reducible rfl)
              try simp only [Act.put, List.setIfInBounds_toArray, List.set_cons_zero, List.set_cons_succ]
              refine wpAnyH_take (i := 6) (oi := { dst := some 84, op := Op.fieldAddr 46 (Operand.tmp 3) 0, type := 0, pos := "law.go:210", after := #[{ on := 5, ground := Ground.guard }], guard := some (5, false) }) (v := ?_) rfl (by kernel_rfl) (by kernel_rfl) (by kernel_rfl) (fun _ _ _ h => h) (Or.inr ⟨by rfl, ?_⟩) (by assumption) ?_
              rotate_left
              · (first | rfl | (go_simp; done))
              try simp only [Act.put, List.setIfInBounds_toArray, List.set_cons_zero, List.set_cons_succ]
              refine wpAnyH_take (i := 7) (oi := { dst := some 85, op := Op.load 5 (Operand.tmp 84), type := 5, pos := "law.go:210", after := #[{ on := 6, ground := Ground.data }, { on := 5, ground := Ground.guard }], guard := some (5, false) }) (v := ?_) rfl (by kernel_rfl) (by kernel_rfl) (by kernel_rfl) (fun _ _ _ h => h) (Or.inr ⟨by rfl, ?_⟩) (by assumption) ?_
              rotate_left
              · (first | rfl | (go_simp; done))
              try simp only [Act.put, List.setIfInBounds_toArray, List.set_cons_zero, List.set_cons_succ]
              refine wpAnyH_take (i := 8) (oi := { dst := some 86, op := Op.binOp BinOp.eql 5 (Operand.tmp 85) (Operand.const (Value.int IntKind.u8 2)) 5, type := 4, pos := "law.go:210", after := #[{ on := 7, ground := Ground.data }, { on := 5, ground := Ground.guard }], guard := some (5, false) }) (v := ?_) rfl (by kernel_rfl) (by kernel_rfl) (by kernel_rfl) (fun _ _ _ h => h) (Or.inr ⟨by rfl, ?_⟩) (by assumption) ?_
              rotate_left
              · (first | rfl | (go_simp; done))
              try simp only [Act.put, List.setIfInBounds_toArray, List.set_cons_zero, List.set_cons_succ]
              refine wpAnyH_take (i := 9) (oi := { dst := some 87, op := Op.pick (Operand.tmp 83) (Operand.const (Value.bool true)) (Operand.tmp 86), type := 4, pos := "law.go:210", after := #[{ on := 5, ground := Ground.data }, { on := 8, ground := Ground.data }], guard := none }) (v := ?_) rfl (by kernel_rfl) (by kernel_rfl) (by kernel_rfl) (fun _ _ _ h => h) (Or.inl ⟨by rfl, ?_⟩) (by assumption) ?_
              rotate_left
              · (intro W hSW; (try dsimp only at hSW); have q0 := hSW.1.cell 0; have q1 := hSW.1.cell 1; have q2 := hSW.1.lt; go_simp; first | done | with_reducible rfl)
              try simp only [Act.put, List.setIfInBounds_toArray, List.set_cons_zero, List.set_cons_succ]
              refine wpAnyH_take (i := 10) (oi := { dst := some 88, op := Op.binOp BinOp.eql 4 (Operand.tmp 79) (Operand.tmp 87) 4, type := 4, pos := "law.go:210", after := #[{ on := 1, ground := Ground.data }, { on := 9, ground := Ground.data }], guard := none }) (v := ?_) rfl (by kernel_rfl) (by kernel_rfl) (by kernel_rfl) (fun _ _ _ h => h) (Or.inl ⟨by rfl, ?_⟩) (by assumption) ?_
              rotate_left
              · (intro W hSW; (try dsimp only at hSW); have q0 := hSW.1.cell 0; have q1 := hSW.1.cell 1; have q2 := hSW.1.lt; go_simp; first | done | with_reducible rfl)
              try simp only [Act.put, List.setIfInBounds_toArray, List.set_cons_zero, List.set_cons_succ]
              refine wpAnyH_take (i := 11) (oi := { dst := some 4, op := Op.assign (Operand.tmp 88), type := 4, pos := "law.go:210", after := #[{ on := 10, ground := Ground.data }, { on := 5, ground := Ground.chain }, { on := 0, ground := Ground.phase }, { on := 1, ground := Ground.phase }, { on := 2, ground := Ground.phase }, { on := 3, ground := Ground.phase }, { on := 4, ground := Ground.phase }, { on := 5, ground := Ground.phase }, { on := 6, ground := Ground.phase }, { on := 7, ground := Ground.phase }, { on := 8, ground := Ground.phase }, { on := 9, ground := Ground.phase }, { on := 10, ground := Ground.phase }], guard := none }) (v := ?_) rfl (by kernel_rfl) (by kernel_rfl) (by kernel_rfl) (fun _ _ _ h => h) (Or.inl ⟨by rfl, ?_⟩) (by assumption) ?_
              rotate_left
              · (intro W hSW; (try dsimp only at hSW); go_simp; first | done | with_reducible rfl)
              try simp only [Act.put, List.setIfInBounds_toArray, List.set_cons_zero, List.set_cons_succ]
              refine wpAnyH_done (by kernel_rfl) ?_ _
              go_wp2
              go_ret
              exact ⟨by simp [varB, *], hH2.2⟩
            · have hk1 : (k == 1) = false := by simpa using hk
              simp only [hk1]
              refine wpAnyH_ready (rs := [1]) (by kernel_rfl) (by simp) ?_
              refine AllReadyH.cons (o := { dst := some 79, op := Op.call { callee := Callee.value (Operand.func 24), args := #[Operand.tmp 78], argTypes := #[46] }, type := 4, pos := "law.go:210", after := #[{ on := 0, ground := Ground.data }], guard := none }) rfl (fun KQ hKQ => ?_) AllReadyH.nil
              go_simp
              refine (var_any _ _ _).mono ?_
              rintro e w11 ⟨rfl, hb11⟩
              have hH2 : Blk w11 (w.heap.size + 1) 46 _ ∧ Below w.heap.size w w11 := ⟨hHeld.1.old hb11, hHeld.2.trans (hb11.mono hHeld.2.size)⟩
              refine hKQ.out _ _ hH2 (fun _ => ?_)
              clear hKQ KQ
              try simp only [Act.put, List.setIfInBounds_toArray, List.set_cons_zero, List.set_cons_succ]
              refine wpAnyH_take (i := 5) (oi := { dst := some 83, op := Op.move (Operand.tmp 82), type := 4, pos := "law.go:210", after := #[{ on := 4, ground := Ground.data }, { on := 1, ground := Ground.chain }], guard := none }) (v := ?_) rfl (by kernel_rfl) (by kernel_rfl) (by kernel_rfl) (fun _ _ _ h => h) (Or.inl ⟨by rfl, ?_⟩) (by assumption) ?_
              rotate_left
              · (intro W hSW; (try dsimp only at hSW); have q0 := hSW.1.cell 0; have q1 := hSW.1.cell 1; have q2 := hSW.1.lt; go_simp; first | done | with_reducible rfl)
              try simp only [Act.put, List.setIfInBounds_toArray, List.set_cons_zero, List.set_cons_succ]
              refine wpAnyH_take (i := 6) (oi := { dst := some 84, op := Op.fieldAddr 46 (Operand.tmp 3) 0, type := 0, pos := "law.go:210", after := #[{ on := 5, ground := Ground.guard }], guard := some (5, false) }) (v := ?_) rfl (by kernel_rfl) (by kernel_rfl) (by kernel_rfl) (fun _ _ _ h => h) (Or.inl ⟨by rfl, ?_⟩) (by assumption) ?_
              rotate_left
              · (intro W hSW; (try dsimp only at hSW); have q0 := hSW.1.cell 0; have q1 := hSW.1.cell 1; have q2 := hSW.1.lt; go_simp; first | done | with_reducible rfl)
              try simp only [Act.put, List.setIfInBounds_toArray, List.set_cons_zero, List.set_cons_succ]
              refine wpAnyH_take (i := 7) (oi := { dst := some 85, op := Op.load 5 (Operand.tmp 84), type := 5, pos := "law.go:210", after := #[{ on := 6, ground := Ground.data }, { on := 5, ground := Ground.guard }], guard := some (5, false) }) (v := ?_) rfl (by kernel_rfl) (by kernel_rfl) (by kernel_rfl) (fun _ _ _ h => h) (Or.inl ⟨by rfl, ?_⟩) (by assumption) ?_
              rotate_left
              · (intro W hSW; (try dsimp only at hSW); have q0 := hSW.1.cell 0; have q1 := hSW.1.cell 1; have q2 := hSW.1.lt; go_simp; first | done | with_reducible rfl)
              try simp only [Act.put, List.setIfInBounds_toArray, List.set_cons_zero, List.set_cons_succ]
              refine wpAnyH_take (i := 8) (oi := { dst := some 86, op := Op.binOp BinOp.eql 5 (Operand.tmp 85) (Operand.const (Value.int IntKind.u8 2)) 5, type := 4, pos := "law.go:210", after := #[{ on := 7, ground := Ground.data }, { on := 5, ground := Ground.guard }], guard := some (5, false) }) (v := ?_) rfl (by kernel_rfl) (by kernel_rfl) (by kernel_rfl) (fun _ _ _ h => h) (Or.inl ⟨by rfl, ?_⟩) (by assumption) ?_
              rotate_left
              · (intro W hSW; (try dsimp only at hSW); have q0 := hSW.1.cell 0; have q1 := hSW.1.cell 1; have q2 := hSW.1.lt; go_simp; first | done | with_reducible rfl)
              try simp only [Act.put, List.setIfInBounds_toArray, List.set_cons_zero, List.set_cons_succ]
              refine wpAnyH_take (i := 9) (oi := { dst := some 87, op := Op.pick (Operand.tmp 83) (Operand.const (Value.bool true)) (Operand.tmp 86), type := 4, pos := "law.go:210", after := #[{ on := 5, ground := Ground.data }, { on := 8, ground := Ground.data }], guard := none }) (v := ?_) rfl (by kernel_rfl) (by kernel_rfl) (by kernel_rfl) (fun _ _ _ h => h) (Or.inl ⟨by rfl, ?_⟩) (by assumption) ?_
              rotate_left
              · (intro W hSW; (try dsimp only at hSW); have q0 := hSW.1.cell 0; have q1 := hSW.1.cell 1; have q2 := hSW.1.lt; go_simp; first | done | with_reducible rfl)
              try simp only [Act.put, List.setIfInBounds_toArray, List.set_cons_zero, List.set_cons_succ]
              refine wpAnyH_take (i := 10) (oi := { dst := some 88, op := Op.binOp BinOp.eql 4 (Operand.tmp 79) (Operand.tmp 87) 4, type := 4, pos := "law.go:210", after := #[{ on := 1, ground := Ground.data }, { on := 9, ground := Ground.data }], guard := none }) (v := ?_) rfl (by kernel_rfl) (by kernel_rfl) (by kernel_rfl) (fun _ _ _ h => h) (Or.inl ⟨by rfl, ?_⟩) (by assumption) ?_
              rotate_left
              · (intro W hSW; (try dsimp only at hSW); have q0 := hSW.1.cell 0; have q1 := hSW.1.cell 1; have q2 := hSW.1.lt; go_simp; first | done | with_reducible rfl)
              try simp only [Act.put, List.setIfInBounds_toArray, List.set_cons_zero, List.set_cons_succ]
              refine wpAnyH_take (i := 11) (oi := { dst := some 4, op := Op.assign (Operand.tmp 88), type := 4, pos := "law.go:210", after := #[{ on := 10, ground := Ground.data }, { on := 5, ground := Ground.chain }, { on := 0, ground := Ground.phase }, { on := 1, ground := Ground.phase }, { on := 2, ground := Ground.phase }, { on := 3, ground := Ground.phase }, { on := 4, ground := Ground.phase }, { on := 5, ground := Ground.phase }, { on := 6, ground := Ground.phase }, { on := 7, ground := Ground.phase }, { on := 8, ground := Ground.phase }, { on := 9, ground := Ground.phase }, { on := 10, ground := Ground.phase }], guard := none }) (v := ?_) rfl (by kernel_rfl) (by kernel_rfl) (by kernel_rfl) (fun _ _ _ h => h) (Or.inl ⟨by rfl, ?_⟩) (by assumption) ?_
              rotate_left
              · (intro W hSW; (try dsimp only at hSW); go_simp; first | done | with_reducible rfl)
              try simp only [Act.put, List.setIfInBounds_toArray, List.set_cons_zero, List.set_cons_succ]
              refine wpAnyH_done (by kernel_rfl) ?_ _
              go_wp2
              go_ret
              exact ⟨by simp [varB, *], hH2.2⟩
end Go.Proofs.Ytpdebnecfknohaa
