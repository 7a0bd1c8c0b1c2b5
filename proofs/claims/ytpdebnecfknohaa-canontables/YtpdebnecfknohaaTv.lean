/-
  What Tree leaves.
-/
import Derived.Test.YtpdebnecfknohaaTt
import Derived.Test.YtpdebnecfknohaaFw
namespace Go.Proofs.Ytpdebnecfknohaa
open Go.RowKit
set_option linter.unusedVariables false
set_option linter.unusedSimpArgs false
set_option maxRecDepth 20000

theorem Bd.flat_size : ∀ (t : Bd) (d : Nat), ∀ x ∈ t.flat d, x.sub.size ≤ t.size ∧ x.sub.wide + x.xs.length ≤ t.wide
  | .nil, _, x, h => by simp [Bd.flat] at h
  | .cons k a1 a2 b1 b2 xs sub rest, d, x, h => by
    simp only [Bd.flat, List.mem_cons, List.mem_append] at h
    simp only [Bd.size, Bd.wide]
    rcases h with rfl | h | h
    · dsimp only; omega
    · split at h
      · have := Bd.flat_size sub (d + 1) x h; omega
      · simp at h
    · have := Bd.flat_size rest d x h; omega
theorem Bd.flat_deep : ∀ (t : Bd) (d : Nat), d ≤ 1000 → ∀ x ∈ t.flat d, x.deep ≤ 1000
  | .nil, _, _, x, h => by simp [Bd.flat] at h
  | .cons k a1 a2 b1 b2 xs sub rest, d, hd, x, h => by
    simp only [Bd.flat, List.mem_cons, List.mem_append] at h
    rcases h with rfl | h | h
    · exact hd
    · split at h
      · rename_i hc; exact Bd.flat_deep sub (d + 1) (by omega) x h
      · simp at h
    · exact Bd.flat_deep rest d hd x h
/-- The first statement that breaks a rule: which rule, its number. -/
def stmtsF (L : List Fn) (nl ng ns : Nat) : Nat → List It → Int × Int
  | _, [] => (0, 0)
  | i, x :: xs => if stmtF L nl ng ns x ≠ 0 then (stmtF L nl ng ns x, (i : Int)) else stmtsF L nl ng ns (i + 1) xs
/-- The first function that breaks a rule. -/
def funcsF (M : Md) : Nat → List Fn → Int × Int × Int
  | _, [] => (0, -1, -1)
  | i, f :: fs => if funcF M.strs f ≠ 0 then (funcF M.strs f, (i : Int), -1)
    else if (stmtsF M.funcs f.locals.length M.globs.length f.sites.length 0 (f.body.flat 0)).1 ≠ 0 then ((stmtsF M.funcs f.locals.length M.globs.length f.sites.length 0 (f.body.flat 0)).1, (i : Int), (stmtsF M.funcs f.locals.length M.globs.length f.sites.length 0 (f.body.flat 0)).2)
    else funcsF M (i + 1) fs
/-- The first rule that a module breaks, and where. -/
def treeF (M : Md) : Int × Int × Int := if modF M ≠ 0 then (modF M, -1, -1) else funcsF M 0 M.funcs
/-- What a call that answers a fault leaves. -/
def FaB (w : World) (v : Int × Int × Int) (e : Ending) (w' : World) : Prop := e = .returned (faultV v.1 v.2.1 v.2.2) ∧ Below w.heap.size w w'
theorem fault_letters (r f s : Int) (w : World) : Calls Try.prog 36 #[.int .i64 r, .int .i64 f, .int .i64 s] w fun e w' => ∃ fe : Int, faultV r f s = .agg #[.int .i64 fe, .int .i64 0, .int .i64 0, .int .i64 0, .int .i64 r, .int .i64 f, .int .i64 s] ∧ e = .returned (.agg #[.int .i64 fe, .int .i64 0, .int .i64 0, .int .i64 0, .int .i64 r, .int .i64 f, .int .i64 s]) ∧ Below w.heap.size w w' :=
  (fault_any r f s w).mono fun e w' h => ⟨_, rfl, h.1, h.2⟩
set_option maxHeartbeats 8000000 in
theorem tree_any (M : Md) (As Ag Af Ae : Option Addr) (cs cg cf ce : Nat) (w : World) (hM : M.Wf) (h : MdR w As Ag Af Ae M) :
    Calls Try.prog 19 #[.agg #[.slice As M.strs.length cs, .slice Ag M.globs.length cg, .slice Af M.funcs.length cf, .slice Ae M.ents.length ce]] w (FaB w (treeF M)) := by
  obtain ⟨v, hv⟩ : ∃ v, v = treeF M := ⟨_, rfl⟩
  rw [← hv]
  unfold treeF at hv
  have hMo := fun wx (hx : Below w.heap.size w wx) => mod_any M As Ag Af Ae cs cg cf ce wx hM (h.old hx)
  have hFu := fun wx (hx : Below w.heap.size w wx) (f : Fn) (hf : f ∈ M.funcs) (Al At Ab : Option Addr) (cl ct cb : Nat) (r1 : RdS (fun _ => True) wx Al f.locals.length 1 (intV f.locals)) (r2 : RdS (fun _ => True) wx At f.sites.length 1 (intV f.sites)) (r3 : BodyV wx Ab f.body) => func_any M.strs As Ag Af Ae Al At Ab cs M.globs.length cg M.funcs.length cf M.ents.length ce cl ct cb f wx ((h.old hx).strs) hM.strs r1 r2 r3 (by have := (hM.fns f hf).2.2.2.2; omega) (hM.fns f hf).1 (hM.fns f hf).2.1 (hM.fns f hf).2.2.1 (hM.fns f hf).2.2.2.1
  have hSt := fun wx (hx : Below w.heap.size w wx) (Al At Ab Aa Asub : Option Addr) (nl cl ns ct lb cb ca csub : Nat) (fn fp N : Int) (x : It) (ha : ArgsAt wx (.slice Aa x.xs.length ca) x.xs) (hl : x.xs.length ≤ 1000000000) (hd : x.deep ≤ 1000000000) => stmt_any As Ag Af Ae Al At Ab Aa Asub M.strs.length cs M.globs.length cg cf M.ents.length ce nl cl ns ct lb cb ca csub fn fp N M.funcs x wx ha hl hd (h.old hx).funcs
  have HFd := Lib.hid (fun f (hf : f ∈ M.funcs) => hM.fns f hf)
  have HFs := Lib.hid h.funcs
  obtain ⟨ls, hls⟩ : ∃ n, n = M.strs.length := ⟨_, rfl⟩
  obtain ⟨ng, hng⟩ : ∃ n, n = M.globs.length := ⟨_, rfl⟩
  obtain ⟨nf, hnf⟩ : ∃ n, n = M.funcs.length := ⟨_, rfl⟩
  obtain ⟨ne, hne⟩ : ∃ n, n = M.ents.length := ⟨_, rfl⟩
  have hnfl : nf ≤ 1000000 := by rw [hnf]; exact hM.funcs
  have HNg := Lib.hid hng
  have HNf := Lib.hid hnf
  obtain ⟨rm, hrm⟩ : ∃ r, r = modF M := ⟨_, rfl⟩
  rw [← hls, ← hng, ← hnf, ← hne] at hMo hFu hSt
  rw [← hrm] at hMo hv
  rw [← hls, ← hng, ← hnf, ← hne]
  have HMo := Lib.hid hMo
  have HFu := Lib.hid hFu
  have HSt := Lib.hid hSt
  have HV := Lib.hid hv
  have HFa := Lib.hid (fun r f s wx => fault_letters r f s wx)
  clear hMo hFu hSt hv h hM hls hng hnf hne hrm
  obtain ⟨w1, hw1⟩ : ∃ w1, w1 = (w.alloc (.cells #[.slice As ls cs, .slice Ag ng cg, .slice Af nf cf, .slice Ae ne ce] 30)).alloc (.cells #[.int .i64 0, .int .i64 0, .int .i64 0, .int .i64 0, .int .i64 0, .int .i64 0, .int .i64 0] 35) := ⟨_, rfl⟩
  have HB1 : Hid (Below w.heap.size w w1) := by rw [hw1]; exact ((Below.refl _ _).alloc (Nat.le_refl _) _).alloc (by simp) _
  have K1 : Hid (Blk w1 w.heap.size 30 #[.slice As ls cs, .slice Ag ng cg, .slice Af nf cf, .slice Ae ne ce]) := by rw [hw1]; exact (Blk.new w 30 _).alloc _
  have K2 : Hid (Blk w1 (w.heap.size + 1) 35 #[.int .i64 0, .int .i64 0, .int .i64 0, .int .i64 0, .int .i64 0, .int .i64 0, .int .i64 0]) := by rw [hw1]; exact Blk.new' _ 35 _ _ (by simp)
  have HFin : Hid (∀ (wx : World) (fe r f s : Int), Below w1.heap.size w1 wx → ∀ wy, wy = (((((((wx.setCell ⟨w.heap.size + 1, 0, none⟩ (.int .i64 fe)).setCell ⟨w.heap.size + 1, 1, none⟩ (.int .i64 0)).setCell ⟨w.heap.size + 1, 2, none⟩ (.int .i64 0)).setCell ⟨w.heap.size + 1, 3, none⟩ (.int .i64 0)).setCell ⟨w.heap.size + 1, 4, none⟩ (.int .i64 r)).setCell ⟨w.heap.size + 1, 5, none⟩ (.int .i64 f)).setCell ⟨w.heap.size + 1, 6, none⟩ (.int .i64 s)) → Below w.heap.size w wy ∧ Blk wy (w.heap.size + 1) 35 #[.int .i64 fe, .int .i64 0, .int .i64 0, .int .i64 0, .int .i64 r, .int .i64 f, .int .i64 s]) := fun wx fe r f s hx wy hy => by
    subst hy
    have hk := K2.out.old hx
    exact ⟨set7 (HB1.out.trans (hx.mono HB1.out.size)) (Nat.le_succ _) _ _ _ _ _ _ _, ((((((hk.set_ 0 _).set_ 1 _).set_ 2 _).set_ 3 _).set_ 4 _).set_ 5 _).set_ 6 _⟩
  go_enter Try.func19, Try.ntmps19
  go_upto_region 1 with (fail)
  rw [← hw1]
  clear hw1
  obtain ⟨m0, m1, m2, m3⟩ := K1.out.c4
  have z1 : w.heap.size < w1.heap.size := K1.out.lt
  go_wp2_with fail
  refine (HMo.out _ HB1.out).mono ?_
  rintro e w2 ⟨rfl, hb2⟩
  have HB2 := Lib.hid hb2
  have L1 := Lib.hid (K1.out.old hb2)
  clear hb2 m0 m1 m2 m3 z1
  by_cases hr : rm = 0
  · subst hr
    have HV2 : Hid (v = funcsF M 0 M.funcs) := by show _ = _; rw [HV.out]; simp
    clear HV
    obtain ⟨m0, m1, m2, m3⟩ := L1.out.c4
    have z1 : w.heap.size < w2.heap.size := L1.out.lt
    go_upto_block 0 with (fail)
    clear m0 m1 m2 m3 z1 L1
    go_wp2_with fail
    go_loopw [19] (fun s wr => ∃ (i : Nat), i ≤ nf ∧ s = .int .i64 (i : Int) ∧ Hid (v = funcsF M i (M.funcs.drop i)) ∧ Hid (Below w1.heap.size w1 wr)) (fun s _ => nf - (intOf s).toNat)
    case atStart => exact ⟨0, Nat.zero_le _, rfl, HV2, HB2⟩
    case round =>
      clear HV2 HB2
      obtain ⟨i, hi, rfl, hE, hB⟩ := hrel
      have L1 := Lib.hid (K1.out.old hB.out)
      have HBw := Lib.hid (HB1.out.trans (hB.out.mono HB1.out.size))
      obtain ⟨m0, m1, m2, m3⟩ := L1.out.c4
      have z1 : w.heap.size < wr.heap.size := L1.out.lt
      by_cases hlt : i < nf
      · have hiL : i < M.funcs.length := by rw [← HNf.out]; exact hlt
        have hli : (i : Int) < (nf : Int) := by omega
        obtain ⟨b, o, rfl, _, hc⟩ := HFs.out (by omega)
        obtain ⟨fs, ⟨Al, cl, At, ct, Ab, cb, rfl, r1, r2, r3⟩, hcc⟩ := hc i hiL
        have hbl : b < w.heap.size := World.block_lt_of_cell? w _ (hcc 0 _ rfl)
        have e0 := cell_old HBw.out hbl (hcc 0 _ rfl)
        have e1 := cell_old HBw.out hbl (hcc 1 _ rfl)
        have e2 := cell_old HBw.out hbl (hcc 2 _ rfl)
        have e3 := cell_old HBw.out hbl (hcc 3 _ rfl)
        have e4 := cell_old HBw.out hbl (hcc 4 _ rfl)
        simp only [Nat.add_zero] at e0
        obtain ⟨_, _, w3, w4, w5, w6⟩ := HFd.out _ (List.getElem_mem hiL)
        have hE2 := hE.out
        rw [List.drop_eq_getElem_cons hiL] at hE2
        simp only [funcsF] at hE2
        have hfu := fun wx (hx : Below w.heap.size w wx) => HFu.out wx hx _ (List.getElem_mem hiL) Al At Ab cl ct cb (r1.old hx (by omega)) (r2.old hx (by omega)) (r3.at_.old hx)
        have hfl := fun wx (hx : Below w.heap.size w wx) => flatM_any Ab cb M.funcs[i].body wx (r3.at_.old hx) (by omega) (by omega)
        have hfs : ∀ x ∈ M.funcs[i].body.flat 0, x.xs.length ≤ 1000000000 := fun x hx => by
          have := (Bd.flat_size M.funcs[i].body 0 x hx).2
          omega
        have hfd : ∀ x ∈ M.funcs[i].body.flat 0, x.deep ≤ 1000000000 := fun x hx => by
          have := Bd.flat_deep M.funcs[i].body 0 (by omega) x hx
          omega
        have hfn : (M.funcs[i].body.flat 0).length ≤ 1000000 := by
          rw [Bd.flat_len]
          have := Bd.cnt_le M.funcs[i].body 0
          omega
        generalize M.funcs[i] = f at *
        obtain ⟨fn, fp, fl, ft, fb⟩ := f
        dsimp only at *
        obtain ⟨nl, hnl⟩ : ∃ n, n = fl.length := ⟨_, rfl⟩
        obtain ⟨nt, hnt⟩ : ∃ n, n = ft.length := ⟨_, rfl⟩
        obtain ⟨nb, hnb⟩ : ∃ n, n = fb.len := ⟨_, rfl⟩
        obtain ⟨rf, hrf⟩ : ∃ r, r = funcF M.strs ⟨fn, fp, fl, ft, fb⟩ := ⟨_, rfl⟩
        rw [← hnl] at e2 hfu hE2
        rw [← hnt] at e3 hfu hE2
        rw [← hnb] at e4 hfu hfl
        rw [← hrf] at hfu hE2
        rw [← HNg.out] at hE2
        have HFu2 := Lib.hid hfu
        have HFl := Lib.hid hfl
        have HFs2 := Lib.hid hfs
        have HFd2 := Lib.hid hfd
        have HE2 := Lib.hid hE2
        obtain ⟨w1x, hw1x⟩ : ∃ wx, wx = wr.alloc (.cells #[.int .i64 fn, .int .i64 fp, .slice Al nl cl, .slice At nt ct, .slice Ab nb cb] 40) := ⟨_, rfl⟩
        have HBx : Hid (Below w1.heap.size w1 w1x) := by rw [hw1x]; exact hB.out.alloc hB.out.size _
        have KF : Hid (Blk w1x wr.heap.size 40 #[.int .i64 fn, .int .i64 fp, .slice Al nl cl, .slice At nt ct, .slice Ab nb cb]) := by rw [hw1x]; exact Blk.new wr 40 _
        clear hc hcc r1 r2 r3 w3 w4 w5 w6 hE hE2 hfu hfl hfs hfd hnl hnt hnb hrf
        go_upto_region 7 with (fail)
        rw [← hw1x]
        clear hw1x m0 m1 m2 m3 z1 e0 e1 e2 e3 e4 L1
        obtain ⟨gx, hgx⟩ : ∃ g, g = wr.heap.size := ⟨_, rfl⟩
        rw [← hgx] at KF ⊢
        clear hgx
        have L1 := Lib.hid (K1.out.old HBx.out)
        have HBxw := Lib.hid (HB1.out.trans (HBx.out.mono HB1.out.size))
        obtain ⟨m0, m1, m2, m3⟩ := L1.out.c4
        obtain ⟨c0, c1, c2, c3, c4⟩ := KF.out.c5
        have z1 : w.heap.size < w1x.heap.size := L1.out.lt
        have z2 : gx < w1x.heap.size := KF.out.lt
        go_wp2_with fail
        refine (HFu2.out _ HBxw.out).mono ?_
        rintro e w3 ⟨rfl, hb3⟩
        have HB3 := Lib.hid (HBx.out.trans (hb3.mono HBx.out.size))
        have KF3 := Lib.hid (KF.out.old hb3)
        clear hb3 m0 m1 m2 m3 c0 c1 c2 c3 c4 z1 z2 L1 KF HFu2
        by_cases hrf : rf = 0
        · subst hrf
          have HE3 := HE2.out
          rw [if_neg (by simp)] at HE3
          have HE3 := Lib.hid HE3
          clear HE2
          have HB3w := Lib.hid (HB1.out.trans (HB3.out.mono HB1.out.size))
          obtain ⟨c0, c1, c2, c3, c4⟩ := KF3.out.c5
          have z2 : gx < w3.heap.size := KF3.out.lt
          go_wp2_with fail
          refine (HFl.out _ HB3w.out).mono ?_
          rintro e w4 ⟨Ai, ci, rfl, hIt, hb4⟩
          have HB4 := Lib.hid (HB3.out.trans (hb4.mono HB3.out.size))
          have KF4 := Lib.hid (KF3.out.old hb4)
          have HIt := Lib.hid hIt
          clear hb4 hIt c0 c1 c2 c3 c4 z2 KF3 HFl
          generalize fb.flat 0 = IL at *
          obtain ⟨ni, hni⟩ : ∃ n, n = IL.length := ⟨_, rfl⟩
          have HNi := Lib.hid hni
          rw [← hni] at hfn ⊢
          clear hni
          go_wp2_with fail
          go_loopw [36] (fun s ws => ∃ (j : Nat), j ≤ ni ∧ s = .int .i64 (j : Int) ∧ Hid (stmtsF M.funcs nl ng nt 0 IL = stmtsF M.funcs nl ng nt j (IL.drop j)) ∧ Hid (Below w4.heap.size w4 ws)) (fun s _ => ni - (intOf s).toNat)
          case atStart => exact ⟨0, Nat.zero_le _, rfl, rfl, Below.refl _ _⟩
          case round =>
            obtain ⟨j, hj, rfl, hS, hBs⟩ := hrel
            rename World => wz
            have HBz := Lib.hid (HB4.out.trans (hBs.out.mono HB4.out.size))
            have HBzw := Lib.hid (HB1.out.trans (HBz.out.mono HB1.out.size))
            by_cases hjlt : j < ni
            · have hjL : j < IL.length := by rw [← HNi.out]; exact hjlt
              have hlj : (j : Int) < (ni : Int) := by omega
              obtain ⟨qi, rfl, hqi, hnc, Aa, ca, Asub, csub, ha, _, hcc⟩ := HIt.out.at_ j hjL
              have d0 := cell_old hBs.out hqi (hcc 0 _ rfl)
              have d1 := cell_old hBs.out hqi (hcc 1 _ rfl)
              have d2 := cell_old hBs.out hqi (hcc 2 _ rfl)
              have d3 := cell_old hBs.out hqi (hcc 3 _ rfl)
              have d4 := cell_old hBs.out hqi (hcc 4 _ rfl)
              have d5 := cell_old hBs.out hqi (hcc 5 _ rfl)
              have d6 := cell_old hBs.out hqi (hcc 6 _ rfl)
              have d7 := cell_old hBs.out hqi (hcc 7 _ rfl)
              have d8 := cell_old hBs.out hqi (hcc 8 _ rfl)
              simp only [Nat.add_zero] at d0
              have hs1 := HFs2.out _ (List.getElem_mem hjL)
              have hs2 := HFd2.out _ (List.getElem_mem hjL)
              have hS2 := hS.out
              rw [List.drop_eq_getElem_cons hjL] at hS2
              have hstm := fun wx (hx : Below w.heap.size w wx) (ha : ArgsAt wx (.slice Aa IL[j].xs.length ca) IL[j].xs) => HSt.out wx hx Al At Ab Aa Asub nl cl nt ct nb cb ca csub fn fp (j : Int) IL[j] ha hs1 hs2
              simp only [stmtsF] at hS2
              generalize IL[j] = x at *
              obtain ⟨deep, xk, xa1, xa2, xb1, xb2, xs, sub⟩ := x
              dsimp only at *
              obtain ⟨rs, hrs⟩ : ∃ r, r = stmtF M.funcs nl ng nt ⟨deep, xk, xa1, xa2, xb1, xb2, xs, sub⟩ := ⟨_, rfl⟩
              rw [← hrs] at hS2 hstm
              obtain ⟨nx, hnx⟩ : ∃ n, n = xs.length := ⟨_, rfl⟩
              obtain ⟨nsb, hnsb⟩ : ∃ n, n = sub.len := ⟨_, rfl⟩
              have HAr := Lib.hid ha
              rw [← hnx] at d7 hstm
              rw [← hnsb] at d8 hstm
              have HNx := Lib.hid hnx
              have HStm := Lib.hid hstm
              have HS2 := Lib.hid hS2
              have zq : qi < wz.heap.size := Nat.lt_of_lt_of_le hqi hBs.out.size
              obtain ⟨wy, hwy⟩ : ∃ wy, wy = wz.alloc (.cells #[.int .i64 (j : Int), .int .i64 (deep : Int), .int .u8 xk, .int .u8 xa1, .int .i64 xa2, .int .u8 xb1, .int .i64 xb2, .slice Aa nx ca, .slice Asub nsb csub] 84) := ⟨_, rfl⟩
              have HBy4 : Hid (Below w4.heap.size w4 wy) := by rw [hwy]; exact hBs.out.alloc hBs.out.size _
              have HBy : Hid (Below w1.heap.size w1 wy) := HB4.out.trans (HBy4.out.mono HB4.out.size)
              have KI : Hid (Blk wy wz.heap.size 84 #[.int .i64 (j : Int), .int .i64 (deep : Int), .int .u8 xk, .int .u8 xa1, .int .i64 xa2, .int .u8 xb1, .int .i64 xb2, .slice Aa nx ca, .slice Asub nsb csub]) := by rw [hwy]; exact Blk.new wz 84 _
              clear hcc ha hs1 hs2 hS2 hS hrs hstm hnx hnsb
              go_upto_region 13 with (fail)
              rw [← hwy]
              clear hwy d0 d1 d2 d3 d4 d5 d6 d7 d8 zq
              obtain ⟨gi, hgi⟩ : ∃ g, g = wz.heap.size := ⟨_, rfl⟩
              rw [← hgi] at KI ⊢
              clear hgi
              have L1 := Lib.hid (K1.out.old HBy.out)
              have LF := Lib.hid (KF4.out.old HBy4.out)
              have HByw := Lib.hid (HB1.out.trans (HBy.out.mono HB1.out.size))
              have hs3 := HStm.out wy HByw.out (by rw [HNx.out]; exact HAr.out.old HBy4.out)
              have HS3 := Lib.hid hs3
              clear hs3 HStm
              obtain ⟨m0, m1, m2, m3⟩ := L1.out.c4
              obtain ⟨c0, c1, c2, c3, c4⟩ := LF.out.c5
              obtain ⟨s0, s1, s2, s3, s4, s5, s6, s7, s8⟩ := KI.out.c9
              have z1 : w.heap.size < wy.heap.size := L1.out.lt
              have z2 : gx < wy.heap.size := LF.out.lt
              have z3 : gi < wy.heap.size := KI.out.lt
              go_wp2_with fail
              refine HS3.out.mono ?_
              rintro e w8 ⟨rfl, hb8⟩
              have HB8 := Lib.hid (HBy.out.trans (hb8.mono HBy.out.size))
              have HB84 := Lib.hid (HBy4.out.trans (hb8.mono HBy4.out.size))
              have KI8 := Lib.hid (KI.out.old hb8)
              clear hb8 m0 m1 m2 m3 c0 c1 c2 c3 c4 s0 s1 s2 s3 s4 s5 s6 s7 s8 z1 z2 z3 L1 LF HS3 KI
              by_cases hrs : rs = 0
              · subst hrs
                have hS4 := HS2.out
                rw [if_neg (by simp)] at hS4
                have HS4 := Lib.hid hS4
                clear hS4 HS2
                go_wp2
                go_roundw
                case rel => exact ⟨j + 1, by omega, by go_num, HS4, HB84⟩
                case measure => simp [intOf]; omega
              · obtain rfl : v = (rs, (i : Int), (j : Int)) := by
                  have h1 := HS2.out
                  rw [if_pos hrs] at h1
                  have h2 := HE3.out
                  rw [h1] at h2
                  rw [h2, if_pos hrs]
                have g0 : (rs == 0) = false := by simpa using hrs
                have g1 : (rs != 0) = true := by simpa using hrs
                obtain ⟨s0, s1, s2, s3, s4, s5, s6, s7, s8⟩ := KI8.out.c9
                have z3 : gi < w8.heap.size := KI8.out.lt
                clear HS2 HE3
                go_wp2_with fail
                refine (HFa.out rs (i : Int) (j : Int) _).mono ?_
                rintro e w9 ⟨fe, hfe, rfl, hb9⟩
                have HB9 := Lib.hid (HB8.out.trans (hb9.mono HB8.out.size))
                have M9 := Lib.hid (K2.out.old HB9.out)
                obtain ⟨r0, r1, r2, r3, r4, r5, r6⟩ := M9.out.c7
                have f0 := M9.out.frozen 0
                have f1 := M9.out.frozen 1
                have f2 := M9.out.frozen 2
                have f3 := M9.out.frozen 3
                have f4 := M9.out.frozen 4
                have f5 := M9.out.frozen 5
                have f6 := M9.out.frozen 6
                have z9 : w.heap.size + 1 < w9.heap.size := M9.out.lt
                have HFE := Lib.hid hfe
                clear hb9 hfe
                go_wp2
                obtain ⟨hbf, hKf⟩ := HFin.out w9 fe rs (i : Int) (j : Int) HB9.out _ rfl
                obtain ⟨q0, q1, q2, q3, q4, q5, q6⟩ := hKf.c7
                refine bodyPost_ret (v := .agg #[.int .i64 fe, .int .i64 0, .int .i64 0, .int .i64 0, .int .i64 rs, .int .i64 (i : Int), .int .i64 (j : Int)]) (by simp [results, Try.results19, go_sem, q0, q1, q2, q3, q4, q5, q6]) rfl ?_
                exact ⟨congrArg Ending.returned HFE.out.symm, hbf⟩
            · obtain rfl : j = ni := by omega
              have hS2 := hS.out
              rw [List.drop_of_length_le (by rw [← HNi.out]; omega)] at hS2
              have HE4 : Hid (v = funcsF M (i + 1) (M.funcs.drop (i + 1))) := by
                show _ = _
                have := HE3.out
                rw [hS2] at this
                simpa [stmtsF] using this
              clear hS2 hS HE3
              go_wp2
              go_roundw
              case rel => exact ⟨i + 1, by omega, by go_num, HE4, HBz⟩
              case measure => simp [intOf]; omega
        · obtain rfl : v = (rf, (i : Int), -1) := by rw [HE2.out, if_pos hrf]
          have g0 : (rf == 0) = false := by simpa using hrf
          have g1 : (rf != 0) = true := by simpa using hrf
          clear HE2
          go_wp2_with fail
          refine (HFa.out rf (i : Int) (-1) _).mono ?_
          rintro e w9 ⟨fe, hfe, rfl, hb9⟩
          have HB9 := Lib.hid (HB3.out.trans (hb9.mono HB3.out.size))
          have M9 := Lib.hid (K2.out.old HB9.out)
          obtain ⟨r0, r1, r2, r3, r4, r5, r6⟩ := M9.out.c7
          have f0 := M9.out.frozen 0
          have f1 := M9.out.frozen 1
          have f2 := M9.out.frozen 2
          have f3 := M9.out.frozen 3
          have f4 := M9.out.frozen 4
          have f5 := M9.out.frozen 5
          have f6 := M9.out.frozen 6
          have z9 : w.heap.size + 1 < w9.heap.size := M9.out.lt
          have HFE := Lib.hid hfe
          clear hb9 hfe
          go_wp2
          obtain ⟨hbf, hKf⟩ := HFin.out w9 fe rf (i : Int) (-1) HB9.out _ rfl
          obtain ⟨q0, q1, q2, q3, q4, q5, q6⟩ := hKf.c7
          refine bodyPost_ret (v := .agg #[.int .i64 fe, .int .i64 0, .int .i64 0, .int .i64 0, .int .i64 rf, .int .i64 (i : Int), .int .i64 (-1)]) (by simp [results, Try.results19, go_sem, q0, q1, q2, q3, q4, q5, q6]) rfl ?_
          exact ⟨congrArg Ending.returned HFE.out.symm, hbf⟩
      · obtain rfl : i = nf := by omega
        have hE2 := hE.out
        rw [List.drop_of_length_le (by rw [← HNf.out]; omega)] at hE2
        obtain rfl : v = (0, -1, -1) := hE2
        clear hE m0 m1 m2 m3 z1
        go_wp2_with fail
        refine (HFa.out 0 (-1) (-1) _).mono ?_
        rintro e w9 ⟨fe, hfe, rfl, hb9⟩
        have HB9 := Lib.hid (hB.out.trans (hb9.mono hB.out.size))
        have M9 := Lib.hid (K2.out.old HB9.out)
        obtain ⟨r0, r1, r2, r3, r4, r5, r6⟩ := M9.out.c7
        have f0 := M9.out.frozen 0
        have f1 := M9.out.frozen 1
        have f2 := M9.out.frozen 2
        have f3 := M9.out.frozen 3
        have f4 := M9.out.frozen 4
        have f5 := M9.out.frozen 5
        have f6 := M9.out.frozen 6
        have z9 : w.heap.size + 1 < w9.heap.size := M9.out.lt
        have HFE := Lib.hid hfe
        clear hb9 hfe
        go_wp2
        obtain ⟨hbf, hKf⟩ := HFin.out w9 fe 0 (-1) (-1) HB9.out _ rfl
        obtain ⟨q0, q1, q2, q3, q4, q5, q6⟩ := hKf.c7
        refine bodyPost_ret (v := .agg #[.int .i64 fe, .int .i64 0, .int .i64 0, .int .i64 0, .int .i64 0, .int .i64 (-1), .int .i64 (-1)]) (by simp [results, Try.results19, go_sem, q0, q1, q2, q3, q4, q5, q6]) rfl ?_
        exact ⟨congrArg Ending.returned HFE.out.symm, hbf⟩
  · obtain rfl : v = (rm, -1, -1) := by rw [HV.out, if_pos hr]
    have g0 : (rm == 0) = false := by simpa using hr
    have g1 : (rm != 0) = true := by simpa using hr
    clear HV
    go_wp2_with fail
    refine (HFa.out rm (-1) (-1) _).mono ?_
    rintro e w9 ⟨fe, hfe, rfl, hb9⟩
    have HB9 := Lib.hid (HB2.out.trans (hb9.mono HB2.out.size))
    have M9 := Lib.hid (K2.out.old HB9.out)
    obtain ⟨r0, r1, r2, r3, r4, r5, r6⟩ := M9.out.c7
    have f0 := M9.out.frozen 0
    have f1 := M9.out.frozen 1
    have f2 := M9.out.frozen 2
    have f3 := M9.out.frozen 3
    have f4 := M9.out.frozen 4
    have f5 := M9.out.frozen 5
    have f6 := M9.out.frozen 6
    have z9 : w.heap.size + 1 < w9.heap.size := M9.out.lt
    have HFE := Lib.hid hfe
    clear hb9 hfe
    go_wp2
    obtain ⟨hbf, hKf⟩ := HFin.out w9 fe rm (-1) (-1) HB9.out _ rfl
    obtain ⟨q0, q1, q2, q3, q4, q5, q6⟩ := hKf.c7
    refine bodyPost_ret (v := .agg #[.int .i64 fe, .int .i64 0, .int .i64 0, .int .i64 0, .int .i64 rm, .int .i64 (-1), .int .i64 (-1)]) (by simp [results, Try.results19, go_sem, q0, q1, q2, q3, q4, q5, q6]) rfl ?_
    exact ⟨congrArg Ending.returned HFE.out.symm, hbf⟩
end Go.Proofs.Ytpdebnecfknohaa
