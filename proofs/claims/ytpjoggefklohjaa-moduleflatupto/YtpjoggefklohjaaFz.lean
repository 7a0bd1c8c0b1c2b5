/-
  The walk of ModuleFlat.
-/
import Derived.Test.YtpjoggefklohjaaFm
import Derived.Test.YtpjoggefklohjaaMz
import Derived.Test.YtpjoggefklohjaaMk
import Derived.Deep.DeepCutAuto
import Derived.Deep.CutBlock
import Derived.Deep.RegionHeld
namespace Go.Proofs.Ytpjoggefklohjaa
open Go.RowKit
set_option linter.unusedVariables false

/-- The first function's body, of a module that was made. -/
theorem MkPost.first {w w' : World} {M : Md} {e : Ending} (h : MkPost w M e w') (hS : M.Small) : ∃ (Al : Option Addr) (ms cl : Nat) (A2 : Option Addr) (mg c2 qf mf cx : Nat) (Ae : Option Addr) (me ce : Nat) (Ab : Option Addr) (cb : Nat) (tb : Bd), e = .returned (.agg #[.slice Al ms cl, .slice A2 mg c2, .slice (some ⟨qf, 0, none⟩) mf cx, .slice Ae me ce]) ∧ 0 < mf ∧ mf ≤ 4 ∧ mf ≤ cx ∧ qf < w'.heap.size ∧ w'.cell? ⟨qf, 4, none⟩ = some (.slice Ab tb.len cb) ∧ BodyV w' Ab tb ∧ tb.size ≤ 1000 ∧ tb.wide ≤ 1000 ∧ Below w.heap.size w w' := by
  obtain ⟨Al, cl, A2, c2, Ax, cx, Ae, ce, rfl, _, _, hFn, _, hB3⟩ := h
  obtain ⟨qf, rfl, hqf, hqb, _, hcx, _, _, _, _, Ab, cb, _, _, hBd, hcf⟩ := hFn.at_ 0 hS.fns.1
  have hb0 := hS.body _ (List.getElem_mem hS.fns.1)
  exact ⟨Al, _, cl, A2, _, c2, qf, _, cx, Ae, _, ce, Ab, cb, _, rfl, hS.fns.1, hS.fns.2, hcx, hqf, by have := hcf 4 _ rfl; simpa using this, hBd.at_, hb0.1, hb0.2, hB3⟩

set_option maxRecDepth 20000 in
set_option maxHeartbeats 8000000 in
theorem flat_walk (A : Option Addr) (c : Nat) (t : Bd) (G F E : Nat) (Aa : Option Addr) (na ca : Nat) (acts : List Ac) (w : World) (hV : BodyV w A t) (hsz : t.size ≤ 10000000) (hwd : t.wide ≤ 10000000) (hG : G < 256) (hF : F < 256) (hE : E < 256) (hna : acts.length = na) (hnl : na ≤ 9223372036854775807) (hacts : AcsAt w Aa acts) (hac : ∀ x ∈ acts, x.k < 256 ∧ x.a < 256 ∧ x.b < 256 ∧ x.c < 256) :
    Calls Try.prog 3 #[.slice A t.len c, .agg #[.int .u8 (G : Int), .int .u8 (F : Int), .int .u8 (E : Int), .slice Aa na ca]] w fun e w' => e = .returned (.bool true) ∧ Below w.heap.size w w' := by
  have HV := Lib.hid hV
  have HAC := Lib.hid hacts
  have HAB := Lib.hid hac
  have HNA := Lib.hid hna
  have hlen : t.len ≤ 10000000 := by have := Bd.len_le t; omega
  have HB : Hid (Below w.heap.size w (w.alloc (.cells #[.int .u8 (G : Int), .int .u8 (F : Int), .int .u8 (E : Int), .slice Aa na ca] 25))) := (Below.refl _ _).alloc (Nat.le_refl _) _
  have HD : Hid (Blk (w.alloc (.cells #[.int .u8 (G : Int), .int .u8 (F : Int), .int .u8 (E : Int), .slice Aa na ca] 25)) w.heap.size 25 #[.int .u8 (G : Int), .int .u8 (F : Int), .int .u8 (E : Int), .slice Aa na ca]) := Blk.new w 25 _
  clear hV hacts hac hna
  obtain ⟨lt, hlt⟩ : ∃ lt, lt = t.len := ⟨_, rfl⟩
  have HLT := Lib.hid hlt
  rw [← hlt] at hlen ⊢
  clear hlt
  go_enter Try.func3, Try.ntmps3
  go_upto_region 1 with (fail)
  generalize w.alloc (.cells #[.int .u8 (G : Int), .int .u8 (F : Int), .int .u8 (E : Int), .slice Aa na ca] 25) = w1 at *
  go_wp2_with fail
  refine (awake_any _).mono ?_
  rintro e w2 ⟨rfl, hb2⟩
  have HB2 := Lib.hid (HB.out.trans (hb2.mono HB.out.size))
  have hD2 := HD.out.old hb2
  have hSh := short_any t.size t 0 A c w2 (Nat.le_refl _) (by omega) (by omega) (by omega) (HV.out.old HB2.out)
  rw [← HLT.out] at hSh
  have HSh := Lib.hid hSh
  obtain ⟨p0, p1, p2, p3⟩ := hD2.c4
  have hzD : w.heap.size < w2.heap.size := hD2.lt
  have HD2 := Lib.hid hD2
  clear hb2 HD HB hSh hD2
  go_wp2_with fail
  refine HSh.out.mono ?_
  rintro e w2' ⟨sv, rfl, rfl⟩
  have hout : ∀ (wx : World), Below w.heap.size w wx → Calls Try.prog 8 #[] wx fun e w' => e = .returned (.bool true) ∧ Below w.heap.size w w' := fun wx hx => (awake_any wx).mono fun e w' ⟨he, hb⟩ => ⟨he, hx.trans (hb.mono hx.size)⟩
  have HOut := Lib.hid hout
  clear hout
  cases sv with
  | false =>
    go_wp2_with fail
    refine (HOut.out _ HB2.out).mono ?_
    rintro e w3 ⟨rfl, hb3⟩
    have HB3 := Lib.hid hb3
    clear hb3
    go_wp2
    go_ret
    exact ⟨rfl, HB3.out⟩
  | true =>
    by_cases h60 : 60 < na
    · have h60i : (60 : Int) < (na : Int) := by omega
      go_wp2_with fail
      refine (HOut.out _ HB2.out).mono ?_
      rintro e w3 ⟨rfl, hb3⟩
      have HB3 := Lib.hid hb3
      clear hb3
      go_wp2
      go_ret
      exact ⟨rfl, HB3.out⟩
    · have h60i : ¬ (60 : Int) < (na : Int) := by omega
      have hM := make_any G F E Aa na ca acts w2' hG hF hE HNA.out (fun hp => by
        obtain ⟨b, o, hA, hc⟩ := HAC.out hp
        refine ⟨b, o, hA, fun i hi => ?_⟩
        obtain ⟨x0, x1, x2, x3⟩ := hc i hi
        have hl := World.block_lt_of_cell? w ⟨b, o + i * 4, none⟩ x0
        exact ⟨cell_old HB2.out hl x0, cell_old HB2.out hl x1, cell_old HB2.out hl x2, cell_old HB2.out hl x3⟩) HAB.out
      have hSm := mk_small (gnames (1 + G / 4 % 3) (G % 4)) (ints (G % 4)) F E acts
      generalize canM (mkM (gnames (1 + G / 4 % 3) (G % 4)) (ints (G % 4)) F E acts) = M at hM hSm
      have HM := Lib.hid hM
      clear hM
      go_wp2_with fail
      refine HM.out.mono ?_
      intro e w3 hPost
      obtain ⟨Al, ms, cl, A2, mg, c2, qf, mf, cx, Ae, me, ce, Ab, cb, tb, rfl, hmf, hmf4, hcx, hqf, hf4, hBd, hs0, hw0, hB3⟩ := hPost.first hSm
      have HB3 := Lib.hid (HB2.out.trans (hB3.mono HB2.out.size))
      have HVa : Hid (BodyV w3 A t) := HV.out.old HB3.out
      have HVb : Hid (BodyV w3 Ab tb) := hBd
      have hlb : tb.len ≤ 1000 := by have := Bd.len_le tb; omega
      obtain ⟨lb, hlb2⟩ : ∃ lb, lb = tb.len := ⟨_, rfl⟩
      have HLB := Lib.hid hlb2
      rw [← hlb2] at hf4 hlb
      clear hlb2 hPost hBd hB3 hSm p0 p1 p2 p3 HM HSh HV
      have hmi : (0 : Int) < (mf : Int) := by omega
      obtain ⟨W, hW⟩ : ∃ W, W = (w3.alloc (.cells #[.slice Al ms cl, .slice A2 mg c2, .slice (some ⟨qf, 0, none⟩) mf cx, .slice Ae me ce] 32)).alloc (.cells #[.slice A lt c, .slice Ab lb cb] 22) := ⟨_, rfl⟩
      have HB4 : Hid (Below w3.heap.size w3 W) := by rw [hW]; exact ((Below.refl _ _).alloc (Nat.le_refl _) _).alloc (by simp) _
      have HQ : Hid (Blk W (w3.heap.size + 1) 22 #[.slice A lt c, .slice Ab lb cb]) := by rw [hW]; exact Blk.new' _ 22 _ _ (by simp)
      go_wp2_with fail
      rw [← hW]
      clear hW
      have HBW := Lib.hid (HB3.out.trans (HB4.out.mono HB3.out.size))
      have HBi : Hid (∀ i, i < 2 → ∃ Ai ci ti, W.cell? ⟨w3.heap.size + 1, i, none⟩ = some (.slice Ai ti.len ci) ∧ BodyV W Ai ti ∧ ti.size ≤ 10000000 ∧ ti.wide ≤ 10000000) := fun i hi => by
        rcases (by omega : i = 0 ∨ i = 1) with rfl | rfl
        · exact ⟨A, c, t, by rw [← HLT.out]; exact HQ.out.cell 0, HVa.out.old HB4.out, hsz, hwd⟩
        · exact ⟨Ab, cb, tb, by rw [← HLB.out]; exact HQ.out.cell 1, HVb.out.old HB4.out, by omega, by omega⟩
      have hWl : w3.heap.size + 1 < W.heap.size := HQ.out.lt
      clear HQ HVa HVb
      go_loopw [35] (fun s35 wr => ∃ i : Nat, i ≤ 2 ∧ s35 = .int .i64 (i : Int) ∧ Hid (Below W.heap.size W wr)) (fun s35 _ => 2 - (intOf s35).toNat)
      case atStart => exact ⟨0, by omega, rfl, Below.refl _ _⟩
      case round =>
        obtain ⟨i, hi, rfl, hBr⟩ := hrel
        by_cases hi2 : i < 2
        · have hii : (i : Int) < 2 := by omega
          obtain ⟨Ai, ci, ti, hci, hVi, hsi, hwi⟩ := HBi.out i hi2
          have hci' := cell_old hBr.out hWl hci
          have hwr : w3.heap.size + 1 < wr.heap.size := Nat.lt_of_lt_of_le hWl hBr.out.size
          have hF1 := flatM_any Ai ci ti wr (hVi.old hBr.out) (by omega) (by omega)
          have hF2 := fun wx (hx : Below wr.heap.size wr wx) => flatR_any Ai ci ti wx ((hVi.old hBr.out).old hx) (by omega) (by omega)
          have hF3 := fun wx (hx : Below wr.heap.size wr wx) => count_any Ai ci ti wx ((hVi.old hBr.out).old hx) (by omega)
          have hcl : ti.cnt 0 ≤ 10000000 := by have := Bd.cnt_le ti 0; omega
          have hfl := Bd.flat_len ti 0
          have HFS := Lib.hid (Bd.flat_size ti 0)
          have hil : ti.len ≤ 10000000 := by have := Bd.len_le ti; omega
          rw [← hfl] at hF3 hcl
          obtain ⟨li, hli⟩ : ∃ li, li = ti.len := ⟨_, rfl⟩
          rw [← hli] at hF1 hF2 hF3 hci' hil
          generalize ti.flat 0 = L at *
          have HF1 := Lib.hid hF1
          have HF2 := Lib.hid hF2
          have HF3 := Lib.hid hF3
          clear hF1 hF2 hF3 hci hVi hfl hli
          go_wp2_with fail
          refine HF1.out.mono ?_
          rintro e w5 ⟨A1, c1, rfl, hR1, hB5⟩
          have HR1 := Lib.hid hR1
          have HB5 := Lib.hid hB5
          clear hR1 hB5 hci'
          obtain ⟨n, hn⟩ : ∃ n, n = L.length := ⟨_, rfl⟩
          have HN := Lib.hid hn
          rw [← hn] at HR1 HF3 hcl ⊢
          clear hn
          go_wp2_with fail
          refine (HF2.out w5 HB5.out).mono ?_
          rintro e w6 ⟨A6, c6, rfl, hR6, hB6⟩
          have HR6 := Lib.hid hR6
          have HR16 := Lib.hid (HR1.out.old hB6)
          have HB6 := Lib.hid (HB5.out.trans (hB6.mono HB5.out.size))
          rw [← HN.out] at HR6 ⊢
          clear hR6 hB6 HR1 HB5 HF1
          go_wp2_with fail
          refine (HF3.out w6 HB6.out).mono ?_
          rintro e w7 ⟨rfl, hB7⟩
          have HB7 := Lib.hid (hBr.out.trans ((HB6.out.trans (hB7.mono HB6.out.size)).mono hBr.out.size))
          have HR67 := Lib.hid (HR6.out.old hB7)
          have HR17 := Lib.hid (HR16.out.old hB7)
          clear hB7 HB6 HR6 HR16 HF2 HF3
          go_wp2_with fail
          obtain ⟨wo, hwo⟩ : ∃ wo, wo = wr := ⟨wr, rfl⟩
          subst hwo
          go_loopw [10] (fun s10 wr => ∃ j : Nat, j ≤ n ∧ s10 = .int .i64 (j : Int) ∧ Hid (Below w7.heap.size w7 wr)) (fun s10 _ => n - (intOf s10).toNat)
          case atStart => exact ⟨0, by omega, rfl, Below.refl _ _⟩
          case round =>
            obtain ⟨j, hj, rfl, hBj⟩ := hrel
            by_cases hjn : j < n
            · have hjL : j < L.length := by rw [← HN.out]; exact hjn
              obtain ⟨q1, rfl, hq1, hc1, Aa1, ca1, Ab1, cb1, ha1, hb1, hat1⟩ := HR17.out.at_ j hjL
              obtain ⟨q2, rfl, hq2, hc2, Aa2, ca2, Ab2, cb2, ha2, hb2, hat2⟩ := HR67.out.at_ j hjL
              have hfs := HFS.out _ (List.getElem_mem hjL)
              generalize L[j] = x at *
              obtain ⟨deep, k, a1, a2, b1, b2, xs, sub⟩ := x
              dsimp only at *
              have g : ∀ o u, ([.int .i64 (j : Int), .int .i64 (deep : Int), .int .u8 k, .int .u8 a1, .int .i64 a2, .int .u8 b1, .int .i64 b2, .slice Aa1 xs.length ca1, .slice Ab1 sub.len cb1] : List Value)[o]? = some u → wr.cell? ⟨q1, j * 9 + o, none⟩ = some u := fun o u ho => cell_old hBj.out hq1 (hat1 o u ho)
              have g' : ∀ o u, ([.int .i64 (j : Int), .int .i64 (deep : Int), .int .u8 k, .int .u8 a1, .int .i64 a2, .int .u8 b1, .int .i64 b2, .slice Aa2 xs.length ca2, .slice Ab2 sub.len cb2] : List Value)[o]? = some u → wr.cell? ⟨q2, j * 9 + o, none⟩ = some u := fun o u ho => cell_old hBj.out hq2 (hat2 o u ho)
              have f0 := g 0 _ rfl
              have f1 := g 1 _ rfl
              have f2 := g 2 _ rfl
              have f3 := g 3 _ rfl
              have f4 := g 4 _ rfl
              have f5 := g 5 _ rfl
              have f6 := g 6 _ rfl
              have f7 := g 7 _ rfl
              have f8 := g 8 _ rfl
              have h1 := g' 1 _ rfl
              have h2 := g' 2 _ rfl
              have h3 := g' 3 _ rfl
              have h4 := g' 4 _ rfl
              have h5 := g' 5 _ rfl
              have h6 := g' 6 _ rfl
              have h7 := g' 7 _ rfl
              have h8 := g' 8 _ rfl
              simp only [Nat.add_zero] at f0
              have ha1' := Lib.hid (ha1.old hBj.out)
              have hb1' := Lib.hid (hb1.old hBj.out)
              have ha2' := Lib.hid (ha2.old hBj.out)
              have hb2' := Lib.hid (hb2.old hBj.out)
              have hz1 : q1 < wr.heap.size := Nat.lt_of_lt_of_le hq1 hBj.out.size
              have hz2 : q2 < wr.heap.size := Nat.lt_of_lt_of_le hq2 hBj.out.size
              clear g g' hat1 hat2 ha1 ha2 hb1 hb2
              obtain ⟨nx, hnx⟩ : ∃ nx, nx = xs.length := ⟨_, rfl⟩
              obtain ⟨nb, hnb⟩ : ∃ nb, nb = sub.len := ⟨_, rfl⟩
              have HNX := Lib.hid hnx
              have HNB := Lib.hid hnb
              rw [← hnx] at f7 h7
              rw [← hnb] at f8 h8
              clear hnx hnb
              have hone : ∀ (wx : World) (p1 p2 : Nat), Below wr.heap.size wr wx → Blk wx p1 46 #[.int .u8 k, .int .u8 a1, .int .i64 a2, .int .u8 b1, .int .i64 b2, .slice Aa1 nx ca1, .slice Ab1 nb cb1] → Blk wx p2 46 #[.int .u8 k, .int .u8 a1, .int .i64 a2, .int .u8 b1, .int .i64 b2, .slice Aa2 nx ca2, .slice Ab2 nb cb2] →
                  Calls Try.prog 14 #[.slice (some ⟨p1, 0, none⟩) 1 1, .slice (some ⟨p2, 0, none⟩) 1 1] wx fun e w' => e = .returned (.bool true) ∧ Hid (Below w7.heap.size w7 w') ∧ Below wr.heap.size wr w' := fun wx p1 p2 hx hp1 hp2 => by
                rw [HNX.out, HNB.out] at hp1 hp2
                have := rsame_any _ (.cons k a1 a2 b1 b2 xs sub .nil) (.cons k a1 a2 b1 b2 xs sub .nil) (some ⟨p1, 0, none⟩) (some ⟨p2, 0, none⟩) 1 1 true wx (Nat.le_refl _) (by simp [Bd.size]; omega) (by simp [Bd.size]; omega) (by simp [Bd.wide]; omega) (by simp [Bd.wide]; omega) (one_body hp1 hx ha1'.out hb1'.out) (one_body hp2 hx ha2'.out hb2'.out) (Bd.same_refl _)
                refine this.mono ?_
                rintro e w' ⟨he, m, rfl⟩
                exact ⟨he, hBj.out.trans ((hx.trans (below_dN _ _ _)).mono hBj.out.size), hx.trans (below_dN _ _ _)⟩
              have H14a := Lib.hid (hone ((wr.alloc (.cells #[.int .u8 k, .int .u8 a1, .int .i64 a2, .int .u8 b1, .int .i64 b2, .slice Aa1 nx ca1, .slice Ab1 nb cb1] 46)).alloc (.cells #[.int .u8 k, .int .u8 a1, .int .i64 a2, .int .u8 b1, .int .i64 b2, .slice Aa2 nx ca2, .slice Ab2 nb cb2] 46)).drew wr.heap.size (wr.heap.size + 1) (((Below.refl _ _).alloc (Nat.le_refl _) _).alloc (by simp) _).drew ((Blk.new wr 46 _).alloc _).drew (Blk.new' _ 46 _ _ (by simp)).drew)
              have H14b := Lib.hid (hone ((wr.alloc (.cells #[.int .u8 k, .int .u8 a1, .int .i64 a2, .int .u8 b1, .int .i64 b2, .slice Aa2 nx ca2, .slice Ab2 nb cb2] 46)).alloc (.cells #[.int .u8 k, .int .u8 a1, .int .i64 a2, .int .u8 b1, .int .i64 b2, .slice Aa1 nx ca1, .slice Ab1 nb cb1] 46)).drew (wr.heap.size + 1) wr.heap.size (((Below.refl _ _).alloc (Nat.le_refl _) _).alloc (by simp) _).drew (Blk.new' _ 46 _ _ (by simp)).drew ((Blk.new wr 46 _).alloc _).drew)
              clear hone
              go_upto_region 14 with (fail)
              skip
              refine wp_region_held_drew (S := (fun W => Below wr.heap.size wr W)) (by kernel_rfl) (Below.refl _ _).drew (fun hHeld => ?_)
              refine wpAnyH_take (i := 0) (oi := { dst := some 61, op := Op.move (Operand.tmp 8), type := 37, pos := "law.go:41", after := #[], guard := none }) (v := ?_) rfl (by kernel_rfl) (by kernel_rfl) (by kernel_rfl) (fun _ _ _ h => h) (Or.inl ⟨by rfl, ?_⟩) (by assumption) ?_
              rotate_left
              · (intro W hSW; (try dsimp only at hSW); go_simp; first | done | with_reducible rfl)
              try simp only [Act.put, List.setIfInBounds_toArray, List.set_cons_zero, List.set_cons_succ]
              refine wpAnyH_take (i := 1) (oi := { dst := some 62, op := Op.move (Operand.tmp 10), type := 3, pos := "law.go:41", after := #[], guard := none }) (v := ?_) rfl (by kernel_rfl) (by kernel_rfl) (by kernel_rfl) (fun _ _ _ h => h) (Or.inl ⟨by rfl, ?_⟩) (by assumption) ?_
              rotate_left
              · (intro W hSW; (try dsimp only at hSW); go_simp; first | done | with_reducible rfl)
              try simp only [Act.put, List.setIfInBounds_toArray, List.set_cons_zero, List.set_cons_succ]
              refine wpAnyH_take (i := 2) (oi := { dst := some 63, op := Op.indexAddr 37 (Operand.tmp 61) (Operand.tmp 62), type := 0, pos := "law.go:41", after := #[{ on := 0, ground := Ground.data }, { on := 1, ground := Ground.data }], guard := none }) (v := ?_) rfl (by kernel_rfl) (by kernel_rfl) (by kernel_rfl) (fun _ _ _ h => h) (Or.inl ⟨by rfl, ?_⟩) (by assumption) ?_
              rotate_left
              · (intro W hSW; (try dsimp only at hSW); go_simp; first | done | with_reducible rfl)
              try simp only [Act.put, List.setIfInBounds_toArray, List.set_cons_zero, List.set_cons_succ]
              refine wpAnyH_take (i := 3) (oi := { dst := some 64, op := Op.fieldAddr 48 (Operand.tmp 63) 0, type := 0, pos := "law.go:41", after := #[{ on := 2, ground := Ground.data }], guard := none }) (v := ?_) rfl (by kernel_rfl) (by kernel_rfl) (by kernel_rfl) (fun _ _ _ h => h) (Or.inl ⟨by rfl, ?_⟩) (by assumption) ?_
              rotate_left
              · (intro W hSW; (try dsimp only at hSW); go_simp; first | done | with_reducible rfl)
              try simp only [Act.put, List.setIfInBounds_toArray, List.set_cons_zero, List.set_cons_succ]
              refine wpAnyH_take (i := 4) (oi := { dst := some 65, op := Op.load 3 (Operand.tmp 64), type := 3, pos := "law.go:41", after := #[{ on := 3, ground := Ground.data }], guard := none }) (v := ?_) rfl (by kernel_rfl) (by kernel_rfl) (by kernel_rfl) (fun _ _ _ h => h) (Or.inl ⟨by rfl, ?_⟩) (by assumption) ?_
              rotate_left
              · (intro W hSW; (try dsimp only at hSW); have cf0 := cell_old hSW hz1 f0; go_simp; first | done | with_reducible rfl)
              try simp only [Act.put, List.setIfInBounds_toArray, List.set_cons_zero, List.set_cons_succ]
              refine wpAnyH_take (i := 5) (oi := { dst := some 66, op := Op.move (Operand.tmp 10), type := 3, pos := "law.go:41", after := #[], guard := none }) (v := ?_) rfl (by kernel_rfl) (by kernel_rfl) (by kernel_rfl) (fun _ _ _ h => h) (Or.inl ⟨by rfl, ?_⟩) (by assumption) ?_
              rotate_left
              · (intro W hSW; (try dsimp only at hSW); go_simp; first | done | with_reducible rfl)
              try simp only [Act.put, List.setIfInBounds_toArray, List.set_cons_zero, List.set_cons_succ]
              refine wpAnyH_take (i := 6) (oi := { dst := some 67, op := Op.binOp BinOp.neq 3 (Operand.tmp 65) (Operand.tmp 66) 3, type := 4, pos := "law.go:41", after := #[{ on := 4, ground := Ground.data }, { on := 5, ground := Ground.data }], guard := none }) (v := ?_) rfl (by kernel_rfl) (by kernel_rfl) (by kernel_rfl) (fun _ _ _ h => h) (Or.inl ⟨by rfl, ?_⟩) (by assumption) ?_
              rotate_left
              · (intro W hSW; (try dsimp only at hSW); go_simp; first | done | with_reducible rfl)
              try simp only [Act.put, List.setIfInBounds_toArray, List.set_cons_zero, List.set_cons_succ]
              refine wpAnyH_take (i := 7) (oi := { dst := some 68, op := Op.move (Operand.tmp 67), type := 4, pos := "law.go:41", after := #[{ on := 6, ground := Ground.data }], guard := none }) (v := ?_) rfl (by kernel_rfl) (by kernel_rfl) (by kernel_rfl) (fun _ _ _ h => h) (Or.inl ⟨by rfl, ?_⟩) (by assumption) ?_
              rotate_left
              · (intro W hSW; (try dsimp only at hSW); go_simp; first | done | with_reducible rfl)
              try simp only [Act.put, List.setIfInBounds_toArray, List.set_cons_zero, List.set_cons_succ]
              refine wpAnyH_take (i := 8) (oi := { dst := some 69, op := Op.move (Operand.tmp 8), type := 37, pos := "law.go:41", after := #[{ on := 7, ground := Ground.guard }], guard := some (7, false) }) (v := ?_) rfl (by kernel_rfl) (by kernel_rfl) (by kernel_rfl) (fun _ _ _ h => h) (Or.inl ⟨by rfl, ?_⟩) (by assumption) ?_
              rotate_left
              · (intro W hSW; (try dsimp only at hSW); go_simp; first | done | with_reducible rfl)
              try simp only [Act.put, List.setIfInBounds_toArray, List.set_cons_zero, List.set_cons_succ]
              refine wpAnyH_take (i := 9) (oi := { dst := some 70, op := Op.move (Operand.tmp 10), type := 3, pos := "law.go:41", after := #[{ on := 7, ground := Ground.guard }], guard := some (7, false) }) (v := ?_) rfl (by kernel_rfl) (by kernel_rfl) (by kernel_rfl) (fun _ _ _ h => h) (Or.inl ⟨by rfl, ?_⟩) (by assumption) ?_
              rotate_left
              · (intro W hSW; (try dsimp only at hSW); go_simp; first | done | with_reducible rfl)
              try simp only [Act.put, List.setIfInBounds_toArray, List.set_cons_zero, List.set_cons_succ]
              refine wpAnyH_take (i := 10) (oi := { dst := some 71, op := Op.indexAddr 37 (Operand.tmp 69) (Operand.tmp 70), type := 0, pos := "law.go:41", after := #[{ on := 8, ground := Ground.data }, { on := 9, ground := Ground.data }, { on := 7, ground := Ground.guard }], guard := some (7, false) }) (v := ?_) rfl (by kernel_rfl) (by kernel_rfl) (by kernel_rfl) (fun _ _ _ h => h) (Or.inl ⟨by rfl, ?_⟩) (by assumption) ?_
              rotate_left
              · (intro W hSW; (try dsimp only at hSW); go_simp; first | done | with_reducible rfl)
              try simp only [Act.put, List.setIfInBounds_toArray, List.set_cons_zero, List.set_cons_succ]
              refine wpAnyH_take (i := 11) (oi := { dst := some 72, op := Op.fieldAddr 48 (Operand.tmp 71) 1, type := 0, pos := "law.go:41", after := #[{ on := 10, ground := Ground.data }, { on := 7, ground := Ground.guard }], guard := some (7, false) }) (v := ?_) rfl (by kernel_rfl) (by kernel_rfl) (by kernel_rfl) (fun _ _ _ h => h) (Or.inl ⟨by rfl, ?_⟩) (by assumption) ?_
              rotate_left
              · (intro W hSW; (try dsimp only at hSW); go_simp; first | done | with_reducible rfl)
              try simp only [Act.put, List.setIfInBounds_toArray, List.set_cons_zero, List.set_cons_succ]
              refine wpAnyH_take (i := 12) (oi := { dst := some 73, op := Op.load 3 (Operand.tmp 72), type := 3, pos := "law.go:41", after := #[{ on := 11, ground := Ground.data }, { on := 7, ground := Ground.guard }], guard := some (7, false) }) (v := ?_) rfl (by kernel_rfl) (by kernel_rfl) (by kernel_rfl) (fun _ _ _ h => h) (Or.inl ⟨by rfl, ?_⟩) (by assumption) ?_
              rotate_left
              · (intro W hSW; (try dsimp only at hSW); have cf1 := cell_old hSW hz1 f1; go_simp; first | done | with_reducible rfl)
              try simp only [Act.put, List.setIfInBounds_toArray, List.set_cons_zero, List.set_cons_succ]
              refine wpAnyH_take (i := 13) (oi := { dst := some 74, op := Op.move (Operand.tmp 9), type := 39, pos := "law.go:41", after := #[{ on := 7, ground := Ground.guard }], guard := some (7, false) }) (v := ?_) rfl (by kernel_rfl) (by kernel_rfl) (by kernel_rfl) (fun _ _ _ h => h) (Or.inl ⟨by rfl, ?_⟩) (by assumption) ?_
              rotate_left
              · (intro W hSW; (try dsimp only at hSW); go_simp; first | done | with_reducible rfl)
              try simp only [Act.put, List.setIfInBounds_toArray, List.set_cons_zero, List.set_cons_succ]
              refine wpAnyH_take (i := 14) (oi := { dst := some 75, op := Op.move (Operand.tmp 10), type := 3, pos := "law.go:41", after := #[{ on := 7, ground := Ground.guard }], guard := some (7, false) }) (v := ?_) rfl (by kernel_rfl) (by kernel_rfl) (by kernel_rfl) (fun _ _ _ h => h) (Or.inl ⟨by rfl, ?_⟩) (by assumption) ?_
              rotate_left
              · (intro W hSW; (try dsimp only at hSW); go_simp; first | done | with_reducible rfl)
              try simp only [Act.put, List.setIfInBounds_toArray, List.set_cons_zero, List.set_cons_succ]
              refine wpAnyH_take (i := 15) (oi := { dst := some 76, op := Op.indexAddr 39 (Operand.tmp 74) (Operand.tmp 75), type := 0, pos := "law.go:41", after := #[{ on := 13, ground := Ground.data }, { on := 14, ground := Ground.data }, { on := 7, ground := Ground.guard }], guard := some (7, false) }) (v := ?_) rfl (by kernel_rfl) (by kernel_rfl) (by kernel_rfl) (fun _ _ _ h => h) (Or.inl ⟨by rfl, ?_⟩) (by assumption) ?_
              rotate_left
              · (intro W hSW; (try dsimp only at hSW); go_simp; first | done | with_reducible rfl)
              try simp only [Act.put, List.setIfInBounds_toArray, List.set_cons_zero, List.set_cons_succ]
              refine wpAnyH_take (i := 16) (oi := { dst := some 77, op := Op.fieldAddr 49 (Operand.tmp 76) 1, type := 0, pos := "law.go:41", after := #[{ on := 15, ground := Ground.data }, { on := 7, ground := Ground.guard }], guard := some (7, false) }) (v := ?_) rfl (by kernel_rfl) (by kernel_rfl) (by kernel_rfl) (fun _ _ _ h => h) (Or.inl ⟨by rfl, ?_⟩) (by assumption) ?_
              rotate_left
              · (intro W hSW; (try dsimp only at hSW); go_simp; first | done | with_reducible rfl)
              try simp only [Act.put, List.setIfInBounds_toArray, List.set_cons_zero, List.set_cons_succ]
              refine wpAnyH_take (i := 17) (oi := { dst := some 78, op := Op.load 3 (Operand.tmp 77), type := 3, pos := "law.go:41", after := #[{ on := 16, ground := Ground.data }, { on := 7, ground := Ground.guard }], guard := some (7, false) }) (v := ?_) rfl (by kernel_rfl) (by kernel_rfl) (by kernel_rfl) (fun _ _ _ h => h) (Or.inl ⟨by rfl, ?_⟩) (by assumption) ?_
              rotate_left
              · (intro W hSW; (try dsimp only at hSW); have ch1 := cell_old hSW hz2 h1; go_simp; first | done | with_reducible rfl)
              try simp only [Act.put, List.setIfInBounds_toArray, List.set_cons_zero, List.set_cons_succ]
              refine wpAnyH_take (i := 18) (oi := { dst := some 79, op := Op.binOp BinOp.neq 3 (Operand.tmp 73) (Operand.tmp 78) 3, type := 4, pos := "law.go:41", after := #[{ on := 12, ground := Ground.data }, { on := 17, ground := Ground.data }, { on := 7, ground := Ground.guard }], guard := some (7, false) }) (v := ?_) rfl (by kernel_rfl) (by kernel_rfl) (by kernel_rfl) (fun _ _ _ h => h) (Or.inl ⟨by rfl, ?_⟩) (by assumption) ?_
              rotate_left
              · (intro W hSW; (try dsimp only at hSW); go_simp; first | done | with_reducible rfl)
              try simp only [Act.put, List.setIfInBounds_toArray, List.set_cons_zero, List.set_cons_succ]
              refine wpAnyH_take (i := 19) (oi := { dst := some 80, op := Op.pick (Operand.tmp 68) (Operand.const (Value.bool true)) (Operand.tmp 79), type := 4, pos := "law.go:41", after := #[{ on := 7, ground := Ground.data }, { on := 18, ground := Ground.data }], guard := none }) (v := ?_) rfl (by kernel_rfl) (by kernel_rfl) (by kernel_rfl) (fun _ _ _ h => h) (Or.inl ⟨by rfl, ?_⟩) (by assumption) ?_
              rotate_left
              · (intro W hSW; (try dsimp only at hSW); go_simp; first | done | with_reducible rfl)
              try simp only [Act.put, List.setIfInBounds_toArray, List.set_cons_zero, List.set_cons_succ]
              refine wpAnyH_take (i := 20) (oi := { dst := some 81, op := Op.move (Operand.tmp 80), type := 4, pos := "law.go:41", after := #[{ on := 19, ground := Ground.data }, { on := 7, ground := Ground.chain }], guard := none }) (v := ?_) rfl (by kernel_rfl) (by kernel_rfl) (by kernel_rfl) (fun _ _ _ h => h) (Or.inl ⟨by rfl, ?_⟩) (by assumption) ?_
              rotate_left
              · (intro W hSW; (try dsimp only at hSW); go_simp; first | done | with_reducible rfl)
              try simp only [Act.put, List.setIfInBounds_toArray, List.set_cons_zero, List.set_cons_succ]
              refine wpAnyH_take (i := 21) (oi := { dst := some 82, op := Op.move (Operand.tmp 8), type := 37, pos := "law.go:41", after := #[{ on := 20, ground := Ground.guard }], guard := some (20, false) }) (v := ?_) rfl (by kernel_rfl) (by kernel_rfl) (by kernel_rfl) (fun _ _ _ h => h) (Or.inl ⟨by rfl, ?_⟩) (by assumption) ?_
              rotate_left
              · (intro W hSW; (try dsimp only at hSW); go_simp; first | done | with_reducible rfl)
              try simp only [Act.put, List.setIfInBounds_toArray, List.set_cons_zero, List.set_cons_succ]
              refine wpAnyH_take (i := 22) (oi := { dst := some 83, op := Op.move (Operand.tmp 10), type := 3, pos := "law.go:41", after := #[{ on := 20, ground := Ground.guard }], guard := some (20, false) }) (v := ?_) rfl (by kernel_rfl) (by kernel_rfl) (by kernel_rfl) (fun _ _ _ h => h) (Or.inl ⟨by rfl, ?_⟩) (by assumption) ?_
              rotate_left
              · (intro W hSW; (try dsimp only at hSW); go_simp; first | done | with_reducible rfl)
              try simp only [Act.put, List.setIfInBounds_toArray, List.set_cons_zero, List.set_cons_succ]
              refine wpAnyH_take (i := 23) (oi := { dst := some 84, op := Op.indexAddr 37 (Operand.tmp 82) (Operand.tmp 83), type := 0, pos := "law.go:41", after := #[{ on := 21, ground := Ground.data }, { on := 22, ground := Ground.data }, { on := 20, ground := Ground.guard }], guard := some (20, false) }) (v := ?_) rfl (by kernel_rfl) (by kernel_rfl) (by kernel_rfl) (fun _ _ _ h => h) (Or.inl ⟨by rfl, ?_⟩) (by assumption) ?_
              rotate_left
              · (intro W hSW; (try dsimp only at hSW); go_simp; first | done | with_reducible rfl)
              try simp only [Act.put, List.setIfInBounds_toArray, List.set_cons_zero, List.set_cons_succ]
              refine wpAnyH_take (i := 24) (oi := { dst := some 85, op := Op.fieldAddr 48 (Operand.tmp 84) 2, type := 0, pos := "law.go:41", after := #[{ on := 23, ground := Ground.data }, { on := 20, ground := Ground.guard }], guard := some (20, false) }) (v := ?_) rfl (by kernel_rfl) (by kernel_rfl) (by kernel_rfl) (fun _ _ _ h => h) (Or.inl ⟨by rfl, ?_⟩) (by assumption) ?_
              rotate_left
              · (intro W hSW; (try dsimp only at hSW); go_simp; first | done | with_reducible rfl)
              try simp only [Act.put, List.setIfInBounds_toArray, List.set_cons_zero, List.set_cons_succ]
              refine wpAnyH_take (i := 25) (oi := { dst := some 86, op := Op.load 46 (Operand.tmp 85), type := 46, pos := "law.go:41", after := #[{ on := 24, ground := Ground.data }, { on := 20, ground := Ground.guard }], guard := some (20, false) }) (v := ?_) rfl (by kernel_rfl) (by kernel_rfl) (by kernel_rfl) (fun _ _ _ h => h) (Or.inl ⟨by rfl, ?_⟩) (by assumption) ?_
              rotate_left
              · (intro W hSW; (try dsimp only at hSW); have cf2 := cell_old hSW hz1 f2; have cf3 := cell_old hSW hz1 f3; have cf4 := cell_old hSW hz1 f4; have cf5 := cell_old hSW hz1 f5; have cf6 := cell_old hSW hz1 f6; have cf7 := cell_old hSW hz1 f7; have cf8 := cell_old hSW hz1 f8; go_simp; first | done | with_reducible rfl)
              try simp only [Act.put, List.setIfInBounds_toArray, List.set_cons_zero, List.set_cons_succ]
              refine wpAnyH_take (i := 27) (oi := { dst := some 88, op := Op.move (Operand.tmp 9), type := 39, pos := "law.go:41", after := #[{ on := 20, ground := Ground.guard }], guard := some (20, false) }) (v := ?_) rfl (by kernel_rfl) (by kernel_rfl) (by kernel_rfl) (fun _ _ _ h => h) (Or.inl ⟨by rfl, ?_⟩) (by assumption) ?_
              rotate_left
              · (intro W hSW; (try dsimp only at hSW); go_simp; first | done | with_reducible rfl)
              try simp only [Act.put, List.setIfInBounds_toArray, List.set_cons_zero, List.set_cons_succ]
              refine wpAnyH_take (i := 28) (oi := { dst := some 89, op := Op.move (Operand.tmp 10), type := 3, pos := "law.go:41", after := #[{ on := 20, ground := Ground.guard }], guard := some (20, false) }) (v := ?_) rfl (by kernel_rfl) (by kernel_rfl) (by kernel_rfl) (fun _ _ _ h => h) (Or.inl ⟨by rfl, ?_⟩) (by assumption) ?_
              rotate_left
              · (intro W hSW; (try dsimp only at hSW); go_simp; first | done | with_reducible rfl)
              try simp only [Act.put, List.setIfInBounds_toArray, List.set_cons_zero, List.set_cons_succ]
              refine wpAnyH_take (i := 29) (oi := { dst := some 90, op := Op.indexAddr 39 (Operand.tmp 88) (Operand.tmp 89), type := 0, pos := "law.go:41", after := #[{ on := 27, ground := Ground.data }, { on := 28, ground := Ground.data }, { on := 20, ground := Ground.guard }], guard := some (20, false) }) (v := ?_) rfl (by kernel_rfl) (by kernel_rfl) (by kernel_rfl) (fun _ _ _ h => h) (Or.inl ⟨by rfl, ?_⟩) (by assumption) ?_
              rotate_left
              · (intro W hSW; (try dsimp only at hSW); go_simp; first | done | with_reducible rfl)
              try simp only [Act.put, List.setIfInBounds_toArray, List.set_cons_zero, List.set_cons_succ]
              refine wpAnyH_take (i := 30) (oi := { dst := some 91, op := Op.fieldAddr 49 (Operand.tmp 90) 2, type := 0, pos := "law.go:41", after := #[{ on := 29, ground := Ground.data }, { on := 20, ground := Ground.guard }], guard := some (20, false) }) (v := ?_) rfl (by kernel_rfl) (by kernel_rfl) (by kernel_rfl) (fun _ _ _ h => h) (Or.inl ⟨by rfl, ?_⟩) (by assumption) ?_
              rotate_left
              · (intro W hSW; (try dsimp only at hSW); go_simp; first | done | with_reducible rfl)
              try simp only [Act.put, List.setIfInBounds_toArray, List.set_cons_zero, List.set_cons_succ]
              refine wpAnyH_take (i := 31) (oi := { dst := some 92, op := Op.load 46 (Operand.tmp 91), type := 46, pos := "law.go:41", after := #[{ on := 30, ground := Ground.data }, { on := 20, ground := Ground.guard }], guard := some (20, false) }) (v := ?_) rfl (by kernel_rfl) (by kernel_rfl) (by kernel_rfl) (fun _ _ _ h => h) (Or.inl ⟨by rfl, ?_⟩) (by assumption) ?_
              rotate_left
              · (intro W hSW; (try dsimp only at hSW); have ch2 := cell_old hSW hz2 h2; have ch3 := cell_old hSW hz2 h3; have ch4 := cell_old hSW hz2 h4; have ch5 := cell_old hSW hz2 h5; have ch6 := cell_old hSW hz2 h6; have ch7 := cell_old hSW hz2 h7; have ch8 := cell_old hSW hz2 h8; go_simp; first | done | with_reducible rfl)
              try simp only [Act.put, List.setIfInBounds_toArray, List.set_cons_zero, List.set_cons_succ]
              refine wpAnyH_ready (rs := [26, 32]) (by kernel_rfl) (by simp) ?_
              refine AllReadyH.cons (o := { dst := some 87, op := Op.buildSlice 22 1 #[(0, Operand.tmp 86)], type := 22, pos := "law.go:41", after := #[{ on := 25, ground := Ground.data }, { on := 20, ground := Ground.guard }], guard := some (20, false) }) rfl (fun KQ hKQ => ?_) (AllReadyH.cons (o := { dst := some 93, op := Op.buildSlice 22 1 #[(0, Operand.tmp 92)], type := 22, pos := "law.go:41", after := #[{ on := 31, ground := Ground.data }, { on := 20, ground := Ground.guard }], guard := some (20, false) }) rfl (fun KQ hKQ => ?_) AllReadyH.nil)
              · go_simp
                have hS1 : Below wr.heap.size wr (wr.alloc (.cells #[.int .u8 k, .int .u8 a1, .int .i64 a2, .int .u8 b1, .int .i64 b2, .slice Aa1 nx ca1, .slice Ab1 nb cb1] 46)).drew := ((Below.refl _ _).alloc (Nat.le_refl _) _).drew
                refine hKQ.out _ _ hS1 (fun _ => ?_)
                clear hKQ KQ
                try simp only [Act.put, List.setIfInBounds_toArray, List.set_cons_zero, List.set_cons_succ]
                refine wpAnyH_ready (rs := [32]) (by kernel_rfl) (by simp) ?_
                refine AllReadyH.cons (o := { dst := some 93, op := Op.buildSlice 22 1 #[(0, Operand.tmp 92)], type := 22, pos := "law.go:41", after := #[{ on := 31, ground := Ground.data }, { on := 20, ground := Ground.guard }], guard := some (20, false) }) rfl (fun KQ hKQ => ?_) AllReadyH.nil
                go_simp
                have hS2 : Below wr.heap.size wr ((wr.alloc (.cells #[.int .u8 k, .int .u8 a1, .int .i64 a2, .int .u8 b1, .int .i64 b2, .slice Aa1 nx ca1, .slice Ab1 nb cb1] 46)).alloc (.cells #[.int .u8 k, .int .u8 a1, .int .i64 a2, .int .u8 b1, .int .i64 b2, .slice Aa2 nx ca2, .slice Ab2 nb cb2] 46)).drew := (((Below.refl _ _).alloc (Nat.le_refl _) _).alloc (by simp) _).drew
                refine hKQ.out _ _ hS2 (fun _ => ?_)
                clear hKQ KQ
                try simp only [Act.put, List.setIfInBounds_toArray, List.set_cons_zero, List.set_cons_succ]
                refine wpAnyH_ready (rs := [33]) (by kernel_rfl) (by simp) ?_
                refine AllReadyH.cons (o := { dst := some 94, op := Op.call { callee := Callee.value (Operand.func 14), args := #[Operand.tmp 87, Operand.tmp 93], argTypes := #[22, 22] }, type := 4, pos := "law.go:41", after := #[{ on := 26, ground := Ground.data }, { on := 32, ground := Ground.data }, { on := 20, ground := Ground.chain }, { on := 20, ground := Ground.guard }], guard := some (20, false) }) rfl (fun KQ hKQ => ?_) AllReadyH.nil
                go_simp
                refine H14a.out.mono ?_
                rintro e w9 ⟨rfl, hb9, hS9⟩
                refine hKQ.out _ _ hS9 (fun _ => ?_)
                clear hKQ KQ
                try simp only [Act.put, List.setIfInBounds_toArray, List.set_cons_zero, List.set_cons_succ]
                refine wpAnyH_take (i := 34) (oi := { dst := some 95, op := Op.unOp UnOp.not 4 (Operand.tmp 94), type := 4, pos := "law.go:41", after := #[{ on := 33, ground := Ground.data }, { on := 20, ground := Ground.guard }], guard := some (20, false) }) (v := ?_) rfl (by kernel_rfl) (by kernel_rfl) (by kernel_rfl) (fun _ _ _ h => h) (Or.inl ⟨by rfl, ?_⟩) (by assumption) ?_
                rotate_left
                · (intro W hSW; (try dsimp only at hSW); go_simp; first | done | with_reducible rfl)
                try simp only [Act.put, List.setIfInBounds_toArray, List.set_cons_zero, List.set_cons_succ]
                refine wpAnyH_take (i := 35) (oi := { dst := some 96, op := Op.pick (Operand.tmp 81) (Operand.const (Value.bool true)) (Operand.tmp 95), type := 4, pos := "law.go:41", after := #[{ on := 20, ground := Ground.data }, { on := 34, ground := Ground.data }], guard := none }) (v := ?_) rfl (by kernel_rfl) (by kernel_rfl) (by kernel_rfl) (fun _ _ _ h => h) (Or.inl ⟨by rfl, ?_⟩) (by assumption) ?_
                rotate_left
                · (intro W hSW; (try dsimp only at hSW); go_simp; first | done | with_reducible rfl)
                try simp only [Act.put, List.setIfInBounds_toArray, List.set_cons_zero, List.set_cons_succ]
                refine wpAnyH_done (by kernel_rfl) ?_ _
                clear hHeld hS1 hS2 hS9 H14a H14b
                go_wp2
                go_roundw
                case rel => exact ⟨j + 1, by omega, by go_num, hb9⟩
                case measure => simp [intOf]; omega
              · go_simp
                have hS1 : Below wr.heap.size wr (wr.alloc (.cells #[.int .u8 k, .int .u8 a1, .int .i64 a2, .int .u8 b1, .int .i64 b2, .slice Aa2 nx ca2, .slice Ab2 nb cb2] 46)).drew := ((Below.refl _ _).alloc (Nat.le_refl _) _).drew
                refine hKQ.out _ _ hS1 (fun _ => ?_)
                clear hKQ KQ
                try simp only [Act.put, List.setIfInBounds_toArray, List.set_cons_zero, List.set_cons_succ]
                refine wpAnyH_ready (rs := [26]) (by kernel_rfl) (by simp) ?_
                refine AllReadyH.cons (o := { dst := some 87, op := Op.buildSlice 22 1 #[(0, Operand.tmp 86)], type := 22, pos := "law.go:41", after := #[{ on := 25, ground := Ground.data }, { on := 20, ground := Ground.guard }], guard := some (20, false) }) rfl (fun KQ hKQ => ?_) AllReadyH.nil
                go_simp
                have hS2 : Below wr.heap.size wr ((wr.alloc (.cells #[.int .u8 k, .int .u8 a1, .int .i64 a2, .int .u8 b1, .int .i64 b2, .slice Aa2 nx ca2, .slice Ab2 nb cb2] 46)).alloc (.cells #[.int .u8 k, .int .u8 a1, .int .i64 a2, .int .u8 b1, .int .i64 b2, .slice Aa1 nx ca1, .slice Ab1 nb cb1] 46)).drew := (((Below.refl _ _).alloc (Nat.le_refl _) _).alloc (by simp) _).drew
                refine hKQ.out _ _ hS2 (fun _ => ?_)
                clear hKQ KQ
                try simp only [Act.put, List.setIfInBounds_toArray, List.set_cons_zero, List.set_cons_succ]
                refine wpAnyH_ready (rs := [33]) (by kernel_rfl) (by simp) ?_
                refine AllReadyH.cons (o := { dst := some 94, op := Op.call { callee := Callee.value (Operand.func 14), args := #[Operand.tmp 87, Operand.tmp 93], argTypes := #[22, 22] }, type := 4, pos := "law.go:41", after := #[{ on := 26, ground := Ground.data }, { on := 32, ground := Ground.data }, { on := 20, ground := Ground.chain }, { on := 20, ground := Ground.guard }], guard := some (20, false) }) rfl (fun KQ hKQ => ?_) AllReadyH.nil
                go_simp
                refine H14b.out.mono ?_
                rintro e w9 ⟨rfl, hb9, hS9⟩
                refine hKQ.out _ _ hS9 (fun _ => ?_)
                clear hKQ KQ
                try simp only [Act.put, List.setIfInBounds_toArray, List.set_cons_zero, List.set_cons_succ]
                refine wpAnyH_take (i := 34) (oi := { dst := some 95, op := Op.unOp UnOp.not 4 (Operand.tmp 94), type := 4, pos := "law.go:41", after := #[{ on := 33, ground := Ground.data }, { on := 20, ground := Ground.guard }], guard := some (20, false) }) (v := ?_) rfl (by kernel_rfl) (by kernel_rfl) (by kernel_rfl) (fun _ _ _ h => h) (Or.inl ⟨by rfl, ?_⟩) (by assumption) ?_
                rotate_left
                · (intro W hSW; (try dsimp only at hSW); go_simp; first | done | with_reducible rfl)
                try simp only [Act.put, List.setIfInBounds_toArray, List.set_cons_zero, List.set_cons_succ]
                refine wpAnyH_take (i := 35) (oi := { dst := some 96, op := Op.pick (Operand.tmp 81) (Operand.const (Value.bool true)) (Operand.tmp 95), type := 4, pos := "law.go:41", after := #[{ on := 20, ground := Ground.data }, { on := 34, ground := Ground.data }], guard := none }) (v := ?_) rfl (by kernel_rfl) (by kernel_rfl) (by kernel_rfl) (fun _ _ _ h => h) (Or.inl ⟨by rfl, ?_⟩) (by assumption) ?_
                rotate_left
                · (intro W hSW; (try dsimp only at hSW); go_simp; first | done | with_reducible rfl)
                try simp only [Act.put, List.setIfInBounds_toArray, List.set_cons_zero, List.set_cons_succ]
                refine wpAnyH_done (by kernel_rfl) ?_ _
                clear hHeld hS1 hS2 hS9 H14a H14b
                go_wp2
                go_roundw
                case rel => exact ⟨j + 1, by omega, by go_num, hb9⟩
                case measure => simp [intOf]; omega
            · obtain rfl : n = j := by omega
              go_wp2
              go_roundw
              case rel => exact ⟨i + 1, by omega, by go_num, HB7.out.trans (hBj.out.mono HB7.out.size)⟩
              case measure => simp [intOf]; omega
        · obtain rfl : i = 2 := by omega
          go_wp2
          go_ret
          exact ⟨rfl, HBW.out.trans (hBr.out.mono HBW.out.size)⟩
end Go.Proofs.Ytpjoggefklohjaa
