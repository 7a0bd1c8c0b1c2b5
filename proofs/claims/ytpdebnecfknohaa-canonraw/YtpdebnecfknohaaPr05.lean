/-
  Parts: Xn Xa Tn.
-/
import Derived.Test.YtpdebnecfknohaaPr00
import Derived.Test.YtpdebnecfknohaaPr01
import Derived.Test.YtpdebnecfknohaaPr02
import Derived.Test.YtpdebnecfknohaaPr03
import Derived.Test.YtpdebnecfknohaaPr04
import Derived.Deep.DeepCutAuto
import Derived.Deep.CutBlock
import Derived.Deep.RegionHeld
import Derived.Sort.Walk0
import Derived.Maps.OwnSet
import Derived.StringKeys
namespace Go.Proofs.Ytpdebnecfknohaa
open Go.RowKit
set_option linter.unusedVariables false
set_option maxRecDepth 20000
set_option linter.unusedSimpArgs false
/-- A copy's own lists, in a box, those of numbers apart. -/
def CpCut2 (B0 : Nat) (w1 wz : World) (q3 ls lg lf le : Nat) (M : Md) : Prop := ∃ A1 c1 A2 c2 A3 c3 A4 c4, Below w1.heap.size w1 wz ∧ w1.heap.size ≤ q3 ∧ Blk wz q3 30 #[.slice A1 ls c1, .slice A2 lg c2, .slice A3 lf c3, .slice A4 le c4] ∧ wz.ownsRow w1.heap.size 9 1 (.slice A1 ls c1) ls (strV M.strs) ∧ wz.ownsRow w1.heap.size 3 1 (.slice A2 lg c2) lg (intV M.globs) ∧ (∃ cs, wz.ownsRow w1.heap.size 40 5 (.slice A3 lf c3) lf cs ∧ FnCells (fun k => k < B0) wz cs M.funcs) ∧ wz.ownsRow w1.heap.size 3 1 (.slice A4 le c4) le (intV M.ents) ∧ (∀ k, some k = (Value.slice A2 lg c2).ownBlock → some k ≠ (Value.slice A4 le c4).ownBlock)
theorem cpcut2_set {B0 : Nat} {w1 w5 : World} {q3 ls lg lf le c1 c2 c3 c4 : Nat} {A1 A2 A3 A4 : Option Addr} {M : Md} {cs : List Value} {zs : Array Value} (hB0 : B0 ≤ w1.heap.size) (hb : Below w1.heap.size w1 w5) (hq : w1.heap.size ≤ q3) (hB : Blk w5 q3 30 zs) (hz : zs.size = 4) (h1 : w5.ownsRow w1.heap.size 9 1 (.slice A1 ls c1) ls (strV M.strs)) (h2 : w5.ownsRow w1.heap.size 3 1 (.slice A2 lg c2) lg (intV M.globs)) (h3 : w5.ownsRow w1.heap.size 40 5 (.slice A3 lf c3) lf cs) (hf : FnCells (fun k => k < B0) w5 cs M.funcs) (h4 : w5.ownsRow w1.heap.size 3 1 (.slice A4 le c4) le (intV M.ents)) (hAp : (∀ k, some k = (Value.slice A2 lg c2).ownBlock → some k ≠ (Value.slice A4 le c4).ownBlock)) :
    CpCut2 B0 w1 ((((w5.setCell ⟨q3, 0, none⟩ (.slice A1 ls c1)).setCell ⟨q3, 1, none⟩ (.slice A2 lg c2)).setCell ⟨q3, 2, none⟩ (.slice A3 lf c3)).setCell ⟨q3, 3, none⟩ (.slice A4 le c4)) q3 ls lg lf le M := by
  have hk : ∀ k, k ≠ q3 → ((((w5.setCell ⟨q3, 0, none⟩ (.slice A1 ls c1)).setCell ⟨q3, 1, none⟩ (.slice A2 lg c2)).setCell ⟨q3, 2, none⟩ (.slice A3 lf c3)).setCell ⟨q3, 3, none⟩ (.slice A4 le c4)).heap[k]? = w5.heap[k]? := fun k hk => set4_far _ _ _ _ hk
  have ho : ∀ {B e s n c : Nat} {A : Option Addr} {xs : List Value}, w5.ownsRow B e s (.slice A n c) n xs → e ≠ 30 → ((((w5.setCell ⟨q3, 0, none⟩ (.slice A1 ls c1)).setCell ⟨q3, 1, none⟩ (.slice A2 lg c2)).setCell ⟨q3, 2, none⟩ (.slice A3 lf c3)).setCell ⟨q3, 3, none⟩ (.slice A4 le c4)).ownsRow B e s (.slice A n c) n xs := fun h he => own_blocks h (fun k hk' => hk k (fun e => by subst e; exact own_ne h hB he hk'))
  refine ⟨A1, c1, A2, c2, A3, c3, A4, c4, set4 hb hq _ _ _ _, hq, ?_, ho h1 (by decide), ho h2 (by decide), ⟨cs, ho h3 (by decide), hf.kept (fun k hk' _ => hk k (by omega)) (fun _ h _ => h)⟩, ho h4 (by decide), hAp⟩
  have := (((hB.set_ 0 (.slice A1 ls c1)).set_ 1 (.slice A2 lg c2)).set_ 2 (.slice A3 lf c3)).set_ 3 (.slice A4 le c4)
  obtain ⟨l⟩ := zs
  match l, hz with
  | [a, b, c, d], _ => exact this
theorem cpcut2_new {B0 : Nat} {w1 w5 : World} {ls lg lf le c1 c2 c3 c4 : Nat} {A1 A2 A3 A4 : Option Addr} {M : Md} {cs : List Value} (hb : Below w1.heap.size w1 w5) (h1 : w5.ownsRow w1.heap.size 9 1 (.slice A1 ls c1) ls (strV M.strs)) (h2 : w5.ownsRow w1.heap.size 3 1 (.slice A2 lg c2) lg (intV M.globs)) (h3 : w5.ownsRow w1.heap.size 40 5 (.slice A3 lf c3) lf cs) (hf : FnCells (fun k => k < B0) w5 cs M.funcs) (h4 : w5.ownsRow w1.heap.size 3 1 (.slice A4 le c4) le (intV M.ents)) (hAp : (∀ k, some k = (Value.slice A2 lg c2).ownBlock → some k ≠ (Value.slice A4 le c4).ownBlock)) :
    CpCut2 B0 w1 (w5.alloc (.cells #[.slice A1 ls c1, .slice A2 lg c2, .slice A3 lf c3, .slice A4 le c4] 30)) w5.heap.size ls lg lf le M := by
  have hA : Below w5.heap.size w5 (w5.alloc (.cells #[.slice A1 ls c1, .slice A2 lg c2, .slice A3 lf c3, .slice A4 le c4] 30)) := (Below.refl _ _).alloc (Nat.le_refl _) _
  exact ⟨A1, c1, A2, c2, A3, c3, A4, c4, hb.trans (hA.mono hb.size), hb.size, Blk.new w5 30 _, own_old h1 hA, own_old h2 hA, ⟨cs, own_old h3 hA, hf.kept (Below.keptS hA) (fun _ h _ => h)⟩, own_old h4 hA, hAp⟩
/-- What Copy leaves: a module that reads the same, in rows of the call's own. -/
def CopyPostR (w0 : Nat) (w : World) (M : Md) (e : Ending) (w' : World) : Prop := ∃ As cs Ag cg Af cf Ae ce, e = .returned (.agg #[.slice As M.strs.length cs, .slice Ag M.globs.length cg, .slice Af M.funcs.length cf, .slice Ae M.ents.length ce]) ∧ MdR w' As Ag Af Ae M ∧ Below w.heap.size w w' ∧
  w'.ownsRow w.heap.size 3 1 (.slice Ag M.globs.length cg) M.globs.length (intV M.globs) ∧
  w'.ownsRow w.heap.size 3 1 (.slice Ae M.ents.length ce) M.ents.length (intV M.ents) ∧ (∀ k, some k = (Value.slice Ag M.globs.length cg).ownBlock → some k ≠ (Value.slice Ae M.ents.length ce).ownBlock) ∧
  (0 < M.funcs.length → ∃ q lo, Af = some ⟨q, 0, none⟩ ∧ CpG w0 lo w' q M.funcs M.funcs.length ∧ (∀ k, some k = (Value.slice Ag M.globs.length cg).ownBlock ∨ some k = (Value.slice Ae M.ents.length ce).ownBlock → k < lo) ∧ w.heap.size ≤ q ∧ w.heap.size ≤ lo)
set_option maxRecDepth 20000 in
set_option maxHeartbeats 4000000 in
theorem copyR_any (M : Md) (As Ag Af Ae : Option Addr) (cs cg cf ce : Nat) (w : World) (hM : M.Fit) (hs : ∀ f ∈ M.funcs, f.body.size ≤ 1000 ∧ f.body.wide ≤ 1000) (h : MdR w As Ag Af Ae M) (w0 : Nat) (hw0 : w0 ≤ w.heap.size) (hF0 : FnsS (fun k => k < w0) w Af M.funcs) :
    Calls Try.prog 49 #[.agg #[.slice As M.strs.length cs, .slice Ag M.globs.length cg, .slice Af M.funcs.length cf, .slice Ae M.ents.length ce]] w (CopyPostR w0 w M) := by
  obtain ⟨m1, m2, m3, m4, m5⟩ := hM
  have HM := Lib.hid h
  have HF0 := Lib.hid hF0
  clear hF0
  have H5 := Lib.hid m5
  have HS := Lib.hid hs
  obtain ⟨ls, hls⟩ : ∃ ls, ls = M.strs.length := ⟨_, rfl⟩
  obtain ⟨lg, hlg⟩ : ∃ lg, lg = M.globs.length := ⟨_, rfl⟩
  obtain ⟨lf, hlf⟩ : ∃ lf, lf = M.funcs.length := ⟨_, rfl⟩
  obtain ⟨le, hle⟩ : ∃ le, le = M.ents.length := ⟨_, rfl⟩
  have HL : Hid (ls = M.strs.length ∧ lg = M.globs.length ∧ lf = M.funcs.length ∧ le = M.ents.length) := ⟨hls, hlg, hlf, hle⟩
  rw [← hls, ← hlg, ← hlf, ← hle]
  clear h hs m5
  obtain ⟨w1, hw1⟩ : ∃ w1, w1 = (w.alloc (.cells #[.slice As ls cs, .slice Ag lg cg, .slice Af lf cf, .slice Ae le ce] 30)).alloc (.cells #[.slice none 0 0, .slice none 0 0, .slice none 0 0, .slice none 0 0] 30) := ⟨_, rfl⟩
  have HB1 : Hid (Below w.heap.size w w1) := by rw [hw1]; exact ((Below.refl _ _).alloc (Nat.le_refl _) _).alloc (by simp) _
  have KX : Hid (Blk w1 w.heap.size 30 #[.slice As ls cs, .slice Ag lg cg, .slice Af lf cf, .slice Ae le ce]) := by rw [hw1]; exact (Blk.new w 30 _).alloc _
  have KR : Hid (Blk w1 (w.heap.size + 1) 30 #[.slice none 0 0, .slice none 0 0, .slice none 0 0, .slice none 0 0]) := by rw [hw1]; exact Blk.new' _ 30 _ _ (by simp)
  have h36 := fun W (hW : Below w1.heap.size w1 W) => cloneStr_any As cs M.strs W ((HM.out.strs.old HB1.out (by omega)).old hW (by omega)) (by omega)
  have h37g := fun W (hW : Below w1.heap.size w1 W) => cloneInt_any Ag cg M.globs W ((HM.out.globs.old HB1.out (by omega)).old hW (by omega)) (by omega)
  have h38 := fun W (hW : Below w1.heap.size w1 W) => cloneF_any (fun k => k < w0) Af cf M.funcs W ((HF0.out.kept (Below.keptS HB1.out) (fun _ h _ => h)).kept (fun k hk _ => hW.block k (by have h1 := HB1.out.size; have h2 : k < w0 := hk; omega)) (fun _ h _ => h)) (by omega)
  have h37e := fun W (hW : Below w1.heap.size w1 W) => cloneInt_any Ae ce M.ents W ((HM.out.ents.old HB1.out (by omega)).old hW (by omega)) (by omega)
  rw [← hls] at h36
  rw [← hlg] at h37g
  rw [← hlf] at h38
  rw [← hle] at h37e
  have H36 := Lib.hid h36
  have H37g := Lib.hid h37g
  have H38 := Lib.hid h38
  have H37e := Lib.hid h37e
  clear h36 h37g h38 h37e
  rw [← hls] at m1
  rw [← hlg] at m2
  rw [← hlf] at m3
  rw [← hle] at m4
  clear hls hlg hlf hle
  go_enter Try.func49, Try.ntmps49
  go_upto_region 1 with (fail)
  rw [← hw1]
  clear hw1
  obtain ⟨x0, x1, x2, x3⟩ := KX.out.c4
  have hz1 : w.heap.size < w1.heap.size := KX.out.lt
  go_cut [3] (fun s3 wz => ∃ q3, s3 = .pointer (some ⟨q3, 0, none⟩) ∧ Hid (CpCut2 w0 w1 wz q3 ls lg lf le M))
  case first =>
    refine wp_region_held_drew (S := (fun W => Below w1.heap.size w1 W)) (by kernel_rfl) (Below.refl _ _).drew (fun hHeld => ?_)
    refine wpAnyH_take (i := 0) (oi := ⟨_, _, _, _, _, _⟩) (v := ?_) rfl (by kernel_rfl) (by kernel_rfl) (by kernel_rfl) (fun _ _ _ h => h) (Or.inl ⟨by rfl, ?_⟩) (by assumption) ?_
    rotate_left
    · (intro W hSW; (try dsimp only at hSW); go_simp; first | done | with_reducible rfl)
    try simp only [Act.put, List.setIfInBounds_toArray, List.set_cons_zero, List.set_cons_succ]
    refine wpAnyH_take (i := 1) (oi := ⟨_, _, _, _, _, _⟩) (v := ?_) rfl (by kernel_rfl) (by kernel_rfl) (by kernel_rfl) (fun _ _ _ h => h) (Or.inl ⟨by rfl, ?_⟩) (by assumption) ?_
    rotate_left
    · (intro W hSW; (try dsimp only at hSW); have q0 := cell_old hSW hz1 x0; have q1 := cell_old hSW hz1 x1; have q2 := cell_old hSW hz1 x2; have q3 := cell_old hSW hz1 x3; go_simp; first | done | with_reducible rfl)
    try simp only [Act.put, List.setIfInBounds_toArray, List.set_cons_zero, List.set_cons_succ]
    refine wpAnyH_take (i := 3) (oi := ⟨_, _, _, _, _, _⟩) (v := ?_) rfl (by kernel_rfl) (by kernel_rfl) (by kernel_rfl) (fun _ _ _ h => h) (Or.inl ⟨by rfl, ?_⟩) (by assumption) ?_
    rotate_left
    · (intro W hSW; (try dsimp only at hSW); go_simp; first | done | with_reducible rfl)
    try simp only [Act.put, List.setIfInBounds_toArray, List.set_cons_zero, List.set_cons_succ]
    refine wpAnyH_take (i := 4) (oi := ⟨_, _, _, _, _, _⟩) (v := ?_) rfl (by kernel_rfl) (by kernel_rfl) (by kernel_rfl) (fun _ _ _ h => h) (Or.inl ⟨by rfl, ?_⟩) (by assumption) ?_
    rotate_left
    · (intro W hSW; (try dsimp only at hSW); have q0 := cell_old hSW hz1 x0; have q1 := cell_old hSW hz1 x1; have q2 := cell_old hSW hz1 x2; have q3 := cell_old hSW hz1 x3; go_simp; first | done | with_reducible rfl)
    try simp only [Act.put, List.setIfInBounds_toArray, List.set_cons_zero, List.set_cons_succ]
    refine wpAnyH_take (i := 6) (oi := ⟨_, _, _, _, _, _⟩) (v := ?_) rfl (by kernel_rfl) (by kernel_rfl) (by kernel_rfl) (fun _ _ _ h => h) (Or.inl ⟨by rfl, ?_⟩) (by assumption) ?_
    rotate_left
    · (intro W hSW; (try dsimp only at hSW); go_simp; first | done | with_reducible rfl)
    try simp only [Act.put, List.setIfInBounds_toArray, List.set_cons_zero, List.set_cons_succ]
    refine wpAnyH_take (i := 7) (oi := ⟨_, _, _, _, _, _⟩) (v := ?_) rfl (by kernel_rfl) (by kernel_rfl) (by kernel_rfl) (fun _ _ _ h => h) (Or.inl ⟨by rfl, ?_⟩) (by assumption) ?_
    rotate_left
    · (intro W hSW; (try dsimp only at hSW); have q0 := cell_old hSW hz1 x0; have q1 := cell_old hSW hz1 x1; have q2 := cell_old hSW hz1 x2; have q3 := cell_old hSW hz1 x3; go_simp; first | done | with_reducible rfl)
    try simp only [Act.put, List.setIfInBounds_toArray, List.set_cons_zero, List.set_cons_succ]
    refine wpAnyH_take (i := 9) (oi := ⟨_, _, _, _, _, _⟩) (v := ?_) rfl (by kernel_rfl) (by kernel_rfl) (by kernel_rfl) (fun _ _ _ h => h) (Or.inl ⟨by rfl, ?_⟩) (by assumption) ?_
    rotate_left
    · (intro W hSW; (try dsimp only at hSW); go_simp; first | done | with_reducible rfl)
    try simp only [Act.put, List.setIfInBounds_toArray, List.set_cons_zero, List.set_cons_succ]
    refine wpAnyH_take (i := 10) (oi := ⟨_, _, _, _, _, _⟩) (v := ?_) rfl (by kernel_rfl) (by kernel_rfl) (by kernel_rfl) (fun _ _ _ h => h) (Or.inl ⟨by rfl, ?_⟩) (by assumption) ?_
    rotate_left
    · (intro W hSW; (try dsimp only at hSW); have q0 := cell_old hSW hz1 x0; have q1 := cell_old hSW hz1 x1; have q2 := cell_old hSW hz1 x2; have q3 := cell_old hSW hz1 x3; go_simp; first | done | with_reducible rfl)
    try simp only [Act.put, List.setIfInBounds_toArray, List.set_cons_zero, List.set_cons_succ]
    refine wpAnyH_ready (rs := [2, 13]) (by kernel_rfl) (by simp) ?_
    refine AllReadyH.cons (o := ⟨_, _, _, _, _, _⟩) rfl (fun KQ hKQ => ?_) (AllReadyH.cons (o := ⟨_, _, _, _, _, _⟩) rfl (fun KQ hKQ => ?_) AllReadyH.nil)
    · go_simp
      refine (H36.out _ hHeld).mono ?_
      rintro e v1 ⟨A1, c1, rfl, hO1, hb⟩
      have hO1 := own_mono hO1 hHeld.size
      have hS1 : Below w1.heap.size w1 v1 := hHeld.trans (hb.mono hHeld.size)
      refine hKQ.out _ _ hS1 (fun _ => ?_)
      clear hKQ KQ hb
      try simp only [Act.put, List.setIfInBounds_toArray, List.set_cons_zero, List.set_cons_succ]
      refine wpAnyH_ready (rs := [5, 13]) (by kernel_rfl) (by simp) ?_
      refine AllReadyH.cons (o := ⟨_, _, _, _, _, _⟩) rfl (fun KQ hKQ => ?_) (AllReadyH.cons (o := ⟨_, _, _, _, _, _⟩) rfl (fun KQ hKQ => ?_) AllReadyH.nil)
      · go_simp
        refine (H37g.out _ hS1).mono ?_
        rintro e v2 ⟨A2, c2, rfl, hO2, hb⟩
        have hO1 := own_old hO1 hb
        have hO2 := own_mono hO2 hS1.size
        have hS2 : Below w1.heap.size w1 v2 := hS1.trans (hb.mono hS1.size)
        refine hKQ.out _ _ hS2 (fun _ => ?_)
        clear hKQ KQ hb
        try simp only [Act.put, List.setIfInBounds_toArray, List.set_cons_zero, List.set_cons_succ]
        refine wpAnyH_ready (rs := [8, 13]) (by kernel_rfl) (by simp) ?_
        refine AllReadyH.cons (o := ⟨_, _, _, _, _, _⟩) rfl (fun KQ hKQ => ?_) (AllReadyH.cons (o := ⟨_, _, _, _, _, _⟩) rfl (fun KQ hKQ => ?_) AllReadyH.nil)
        · go_simp
          refine (H38.out _ hS2).mono ?_
          rintro e v3 ⟨A3, c3, rfl, ⟨csf, hO3, hFC⟩, hb⟩
          have hO1 := own_old hO1 hb
          have hO2 := own_old hO2 hb
          have hO3 := own_mono hO3 hS2.size
          have hFC := hFC.kept (fun k hk _ => hb.block k (by have := hS2.size; omega)) (fun _ h _ => h)
          have hS3 : Below w1.heap.size w1 v3 := hS2.trans (hb.mono hS2.size)
          refine hKQ.out _ _ hS3 (fun _ => ?_)
          clear hKQ KQ hb
          try simp only [Act.put, List.setIfInBounds_toArray, List.set_cons_zero, List.set_cons_succ]
          refine wpAnyH_ready (rs := [11, 13]) (by kernel_rfl) (by simp) ?_
          refine AllReadyH.cons (o := ⟨_, _, _, _, _, _⟩) rfl (fun KQ hKQ => ?_) (AllReadyH.cons (o := ⟨_, _, _, _, _, _⟩) rfl (fun KQ hKQ => ?_) AllReadyH.nil)
          · go_simp
            refine (H37e.out _ hS3).mono ?_
            rintro e v4 ⟨A4, c4, rfl, hO4, hb⟩
            have hAp : (∀ k, some k = (Value.slice A2 lg c2).ownBlock → some k ≠ (Value.slice A4 le c4).ownBlock) := fun k e1 e2 => by have e3 := (hO2.lt k e1.symm).2; have e4 := (hO4.lt k e2.symm).1; omega
            have hO1 := own_old hO1 hb
            have hO2 := own_old hO2 hb
            have hO3 := own_old hO3 hb
            have hO4 := own_mono hO4 hS3.size
            have hFC := hFC.kept (fun k hk _ => hb.block k (by have := hS3.size; omega)) (fun _ h _ => h)
            have hS4 : Below w1.heap.size w1 v4 := hS3.trans (hb.mono hS3.size)
            refine hKQ.out _ _ hS4 (fun _ => ?_)
            clear hKQ KQ hb
            try simp only [Act.put, List.setIfInBounds_toArray, List.set_cons_zero, List.set_cons_succ]
            refine wpAnyH_take (i := 12) (oi := ⟨_, _, _, _, _, _⟩) (v := ?_) rfl (by kernel_rfl) (by kernel_rfl) (by kernel_rfl) (fun _ _ _ h => h) (Or.inl ⟨by rfl, ?_⟩) (by assumption) ?_
            rotate_left
            · (intro W hSW; (try dsimp only at hSW); go_simp; first | done | with_reducible rfl)
            try simp only [Act.put, List.setIfInBounds_toArray, List.set_cons_zero, List.set_cons_succ]
            refine wpAnyH_ready (rs := [13]) (by kernel_rfl) (by simp) ?_
            refine AllReadyH.cons (o := ⟨_, _, _, _, _, _⟩) rfl (fun KQ hKQ => ?_) AllReadyH.nil
            go_simp
            refine hKQ.out _ _ (Below.alloc hS4 hS4.size _) (fun _ => ?_)
            clear hKQ KQ
            try simp only [Act.put, List.setIfInBounds_toArray, List.set_cons_zero, List.set_cons_succ]
            refine wpAnyH_ready (rs := [14]) (by kernel_rfl) (by simp) ?_
            refine AllReadyH.cons (o := ⟨_, _, _, _, _, _⟩) rfl (fun KQ hKQ => ?_) AllReadyH.nil
            go_simp
            refine hKQ.out _ _ (Below.alloc hS4 hS4.size _) (fun _ => ?_)
            clear hKQ KQ
            try simp only [Act.put, List.setIfInBounds_toArray, List.set_cons_zero, List.set_cons_succ]
            have HC := Lib.hid (cpcut2_new hS4 hO1 hO2 hO3 hFC hO4 hAp)
            refine wpAnyH_done (by kernel_rfl) ?_ _
            clear hO1 hO2 hO3 hFC hO4
            go_wp2_with fail
            go_meet
            case rel => exact ⟨_, rfl, HC⟩
          · go_simp
            have hA : Below v3.heap.size v3 (v3.alloc (.cells #[.slice none 0 0, .slice none 0 0, .slice none 0 0, .slice none 0 0] 30)) := (Below.refl _ _).alloc (Nat.le_refl _) _
            have hSA : Below w1.heap.size w1 (v3.alloc (.cells #[.slice none 0 0, .slice none 0 0, .slice none 0 0, .slice none 0 0] 30)) := hS3.alloc hS3.size _
            have hq3 : w1.heap.size ≤ v3.heap.size := hS3.size
            have K3 : Blk (v3.alloc (.cells #[.slice none 0 0, .slice none 0 0, .slice none 0 0, .slice none 0 0] 30)) v3.heap.size 30 #[.slice none 0 0, .slice none 0 0, .slice none 0 0, .slice none 0 0] := Blk.new v3 30 _
            have hO1 := own_old hO1 hA
            have hO2 := own_old hO2 hA
            have hO3 := own_old hO3 hA
            have hFC := hFC.kept (Below.keptS hA) (fun _ h _ => h)
            refine hKQ.out _ _ hSA (fun _ => ?_)
            clear hKQ KQ hA
            try simp only [Act.put, List.setIfInBounds_toArray, List.set_cons_zero, List.set_cons_succ]
            refine wpAnyH_ready (rs := [11]) (by kernel_rfl) (by simp) ?_
            refine AllReadyH.cons (o := ⟨_, _, _, _, _, _⟩) rfl (fun KQ hKQ => ?_) AllReadyH.nil
            go_simp
            refine (H37e.out _ hSA).mono ?_
            rintro e v4 ⟨A4, c4, rfl, hO4, hb⟩
            have hAp : (∀ k, some k = (Value.slice A2 lg c2).ownBlock → some k ≠ (Value.slice A4 le c4).ownBlock) := fun k e1 e2 => by have e3 := (hO2.lt k e1.symm).2; have e4 := (hO4.lt k e2.symm).1; omega
            have hO1 := own_old hO1 hb
            have hO2 := own_old hO2 hb
            have hO3 := own_old hO3 hb
            have hO4 := own_mono hO4 hSA.size
            have hFC := hFC.kept (fun k hk _ => hb.block k (by have := hSA.size; omega)) (fun _ h _ => h)
            have K3 := K3.old hb
            have hS4 : Below w1.heap.size w1 v4 := hSA.trans (hb.mono hSA.size)
            refine hKQ.out _ _ hS4 (fun _ => ?_)
            clear hKQ KQ hb
            try simp only [Act.put, List.setIfInBounds_toArray, List.set_cons_zero, List.set_cons_succ]
            refine wpAnyH_take (i := 12) (oi := ⟨_, _, _, _, _, _⟩) (v := ?_) rfl (by kernel_rfl) (by kernel_rfl) (by kernel_rfl) (fun _ _ _ h => h) (Or.inl ⟨by rfl, ?_⟩) (by assumption) ?_
            rotate_left
            · (intro W hSW; (try dsimp only at hSW); go_simp; first | done | with_reducible rfl)
            try simp only [Act.put, List.setIfInBounds_toArray, List.set_cons_zero, List.set_cons_succ]
            have hq3z : v3.heap.size < v4.heap.size := K3.lt
            obtain ⟨r0, r1, r2, r3⟩ := K3.c4
            have f0 := K3.frozen 0
            have f1 := K3.frozen 1
            have f2 := K3.frozen 2
            have f3 := K3.frozen 3
            refine wpAnyH_ready (rs := [14]) (by kernel_rfl) (by simp) ?_
            refine AllReadyH.cons (o := ⟨_, _, _, _, _, _⟩) rfl (fun KQ hKQ => ?_) AllReadyH.nil
            go_simp
            refine hKQ.out _ _ (set4 hS4 hq3 _ _ _ _) (fun _ => ?_)
            clear hKQ KQ
            try simp only [Act.put, List.setIfInBounds_toArray, List.set_cons_zero, List.set_cons_succ]
            have HC := Lib.hid (cpcut2_set (Nat.le_trans hw0 (Nat.le_of_lt hz1)) hS4 hq3 K3 rfl hO1 hO2 hO3 hFC hO4 hAp)
            refine wpAnyH_done (by kernel_rfl) ?_ _
            clear hO1 hO2 hO3 hFC hO4 r0 r1 r2 r3 f0 f1 f2 f3 K3
            go_wp2_with fail
            go_meet
            case rel => exact ⟨_, rfl, HC⟩
        · go_simp
          have hA : Below v2.heap.size v2 (v2.alloc (.cells #[.slice none 0 0, .slice none 0 0, .slice none 0 0, .slice none 0 0] 30)) := (Below.refl _ _).alloc (Nat.le_refl _) _
          have hSA : Below w1.heap.size w1 (v2.alloc (.cells #[.slice none 0 0, .slice none 0 0, .slice none 0 0, .slice none 0 0] 30)) := hS2.alloc hS2.size _
          have hq3 : w1.heap.size ≤ v2.heap.size := hS2.size
          have K3 : Blk (v2.alloc (.cells #[.slice none 0 0, .slice none 0 0, .slice none 0 0, .slice none 0 0] 30)) v2.heap.size 30 #[.slice none 0 0, .slice none 0 0, .slice none 0 0, .slice none 0 0] := Blk.new v2 30 _
          have hO1 := own_old hO1 hA
          have hO2 := own_old hO2 hA
          refine hKQ.out _ _ hSA (fun _ => ?_)
          clear hKQ KQ hA
          try simp only [Act.put, List.setIfInBounds_toArray, List.set_cons_zero, List.set_cons_succ]
          refine wpAnyH_ready (rs := [8]) (by kernel_rfl) (by simp) ?_
          refine AllReadyH.cons (o := ⟨_, _, _, _, _, _⟩) rfl (fun KQ hKQ => ?_) AllReadyH.nil
          go_simp
          refine (H38.out _ hSA).mono ?_
          rintro e v3 ⟨A3, c3, rfl, ⟨csf, hO3, hFC⟩, hb⟩
          have hO1 := own_old hO1 hb
          have hO2 := own_old hO2 hb
          have hO3 := own_mono hO3 hSA.size
          have hFC := hFC.kept (fun k hk _ => hb.block k (by have := hSA.size; omega)) (fun _ h _ => h)
          have K3 := K3.old hb
          have hS3 : Below w1.heap.size w1 v3 := hSA.trans (hb.mono hSA.size)
          refine hKQ.out _ _ hS3 (fun _ => ?_)
          clear hKQ KQ hb
          try simp only [Act.put, List.setIfInBounds_toArray, List.set_cons_zero, List.set_cons_succ]
          refine wpAnyH_ready (rs := [11]) (by kernel_rfl) (by simp) ?_
          refine AllReadyH.cons (o := ⟨_, _, _, _, _, _⟩) rfl (fun KQ hKQ => ?_) AllReadyH.nil
          go_simp
          refine (H37e.out _ hS3).mono ?_
          rintro e v4 ⟨A4, c4, rfl, hO4, hb⟩
          have hAp : (∀ k, some k = (Value.slice A2 lg c2).ownBlock → some k ≠ (Value.slice A4 le c4).ownBlock) := fun k e1 e2 => by have e3 := (hO2.lt k e1.symm).2; have e4 := (hO4.lt k e2.symm).1; omega
          have hO1 := own_old hO1 hb
          have hO2 := own_old hO2 hb
          have hO3 := own_old hO3 hb
          have hO4 := own_mono hO4 hS3.size
          have hFC := hFC.kept (fun k hk _ => hb.block k (by have := hS3.size; omega)) (fun _ h _ => h)
          have K3 := K3.old hb
          have hS4 : Below w1.heap.size w1 v4 := hS3.trans (hb.mono hS3.size)
          refine hKQ.out _ _ hS4 (fun _ => ?_)
          clear hKQ KQ hb
          try simp only [Act.put, List.setIfInBounds_toArray, List.set_cons_zero, List.set_cons_succ]
          refine wpAnyH_take (i := 12) (oi := ⟨_, _, _, _, _, _⟩) (v := ?_) rfl (by kernel_rfl) (by kernel_rfl) (by kernel_rfl) (fun _ _ _ h => h) (Or.inl ⟨by rfl, ?_⟩) (by assumption) ?_
          rotate_left
          · (intro W hSW; (try dsimp only at hSW); go_simp; first | done | with_reducible rfl)
          try simp only [Act.put, List.setIfInBounds_toArray, List.set_cons_zero, List.set_cons_succ]
          have hq3z : v2.heap.size < v4.heap.size := K3.lt
          obtain ⟨r0, r1, r2, r3⟩ := K3.c4
          have f0 := K3.frozen 0
          have f1 := K3.frozen 1
          have f2 := K3.frozen 2
          have f3 := K3.frozen 3
          refine wpAnyH_ready (rs := [14]) (by kernel_rfl) (by simp) ?_
          refine AllReadyH.cons (o := ⟨_, _, _, _, _, _⟩) rfl (fun KQ hKQ => ?_) AllReadyH.nil
          go_simp
          refine hKQ.out _ _ (set4 hS4 hq3 _ _ _ _) (fun _ => ?_)
          clear hKQ KQ
          try simp only [Act.put, List.setIfInBounds_toArray, List.set_cons_zero, List.set_cons_succ]
          have HC := Lib.hid (cpcut2_set (Nat.le_trans hw0 (Nat.le_of_lt hz1)) hS4 hq3 K3 rfl hO1 hO2 hO3 hFC hO4 hAp)
          refine wpAnyH_done (by kernel_rfl) ?_ _
          clear hO1 hO2 hO3 hFC hO4 r0 r1 r2 r3 f0 f1 f2 f3 K3
          go_wp2_with fail
          go_meet
          case rel => exact ⟨_, rfl, HC⟩
      · go_simp
        have hA : Below v1.heap.size v1 (v1.alloc (.cells #[.slice none 0 0, .slice none 0 0, .slice none 0 0, .slice none 0 0] 30)) := (Below.refl _ _).alloc (Nat.le_refl _) _
        have hSA : Below w1.heap.size w1 (v1.alloc (.cells #[.slice none 0 0, .slice none 0 0, .slice none 0 0, .slice none 0 0] 30)) := hS1.alloc hS1.size _
        have hq3 : w1.heap.size ≤ v1.heap.size := hS1.size
        have K3 : Blk (v1.alloc (.cells #[.slice none 0 0, .slice none 0 0, .slice none 0 0, .slice none 0 0] 30)) v1.heap.size 30 #[.slice none 0 0, .slice none 0 0, .slice none 0 0, .slice none 0 0] := Blk.new v1 30 _
        have hO1 := own_old hO1 hA
        refine hKQ.out _ _ hSA (fun _ => ?_)
        clear hKQ KQ hA
        try simp only [Act.put, List.setIfInBounds_toArray, List.set_cons_zero, List.set_cons_succ]
        refine wpAnyH_ready (rs := [5]) (by kernel_rfl) (by simp) ?_
        refine AllReadyH.cons (o := ⟨_, _, _, _, _, _⟩) rfl (fun KQ hKQ => ?_) AllReadyH.nil
        go_simp
        refine (H37g.out _ hSA).mono ?_
        rintro e v2 ⟨A2, c2, rfl, hO2, hb⟩
        have hO1 := own_old hO1 hb
        have hO2 := own_mono hO2 hSA.size
        have K3 := K3.old hb
        have hS2 : Below w1.heap.size w1 v2 := hSA.trans (hb.mono hSA.size)
        refine hKQ.out _ _ hS2 (fun _ => ?_)
        clear hKQ KQ hb
        try simp only [Act.put, List.setIfInBounds_toArray, List.set_cons_zero, List.set_cons_succ]
        refine wpAnyH_ready (rs := [8]) (by kernel_rfl) (by simp) ?_
        refine AllReadyH.cons (o := ⟨_, _, _, _, _, _⟩) rfl (fun KQ hKQ => ?_) AllReadyH.nil
        go_simp
        refine (H38.out _ hS2).mono ?_
        rintro e v3 ⟨A3, c3, rfl, ⟨csf, hO3, hFC⟩, hb⟩
        have hO1 := own_old hO1 hb
        have hO2 := own_old hO2 hb
        have hO3 := own_mono hO3 hS2.size
        have hFC := hFC.kept (fun k hk _ => hb.block k (by have := hS2.size; omega)) (fun _ h _ => h)
        have K3 := K3.old hb
        have hS3 : Below w1.heap.size w1 v3 := hS2.trans (hb.mono hS2.size)
        refine hKQ.out _ _ hS3 (fun _ => ?_)
        clear hKQ KQ hb
        try simp only [Act.put, List.setIfInBounds_toArray, List.set_cons_zero, List.set_cons_succ]
        refine wpAnyH_ready (rs := [11]) (by kernel_rfl) (by simp) ?_
        refine AllReadyH.cons (o := ⟨_, _, _, _, _, _⟩) rfl (fun KQ hKQ => ?_) AllReadyH.nil
        go_simp
        refine (H37e.out _ hS3).mono ?_
        rintro e v4 ⟨A4, c4, rfl, hO4, hb⟩
        have hAp : (∀ k, some k = (Value.slice A2 lg c2).ownBlock → some k ≠ (Value.slice A4 le c4).ownBlock) := fun k e1 e2 => by have e3 := (hO2.lt k e1.symm).2; have e4 := (hO4.lt k e2.symm).1; omega
        have hO1 := own_old hO1 hb
        have hO2 := own_old hO2 hb
        have hO3 := own_old hO3 hb
        have hO4 := own_mono hO4 hS3.size
        have hFC := hFC.kept (fun k hk _ => hb.block k (by have := hS3.size; omega)) (fun _ h _ => h)
        have K3 := K3.old hb
        have hS4 : Below w1.heap.size w1 v4 := hS3.trans (hb.mono hS3.size)
        refine hKQ.out _ _ hS4 (fun _ => ?_)
        clear hKQ KQ hb
        try simp only [Act.put, List.setIfInBounds_toArray, List.set_cons_zero, List.set_cons_succ]
        refine wpAnyH_take (i := 12) (oi := ⟨_, _, _, _, _, _⟩) (v := ?_) rfl (by kernel_rfl) (by kernel_rfl) (by kernel_rfl) (fun _ _ _ h => h) (Or.inl ⟨by rfl, ?_⟩) (by assumption) ?_
        rotate_left
        · (intro W hSW; (try dsimp only at hSW); go_simp; first | done | with_reducible rfl)
        try simp only [Act.put, List.setIfInBounds_toArray, List.set_cons_zero, List.set_cons_succ]
        have hq3z : v1.heap.size < v4.heap.size := K3.lt
        obtain ⟨r0, r1, r2, r3⟩ := K3.c4
        have f0 := K3.frozen 0
        have f1 := K3.frozen 1
        have f2 := K3.frozen 2
        have f3 := K3.frozen 3
        refine wpAnyH_ready (rs := [14]) (by kernel_rfl) (by simp) ?_
        refine AllReadyH.cons (o := ⟨_, _, _, _, _, _⟩) rfl (fun KQ hKQ => ?_) AllReadyH.nil
        go_simp
        refine hKQ.out _ _ (set4 hS4 hq3 _ _ _ _) (fun _ => ?_)
        clear hKQ KQ
        try simp only [Act.put, List.setIfInBounds_toArray, List.set_cons_zero, List.set_cons_succ]
        have HC := Lib.hid (cpcut2_set (Nat.le_trans hw0 (Nat.le_of_lt hz1)) hS4 hq3 K3 rfl hO1 hO2 hO3 hFC hO4 hAp)
        refine wpAnyH_done (by kernel_rfl) ?_ _
        clear hO1 hO2 hO3 hFC hO4 r0 r1 r2 r3 f0 f1 f2 f3 K3
        go_wp2_with fail
        go_meet
        case rel => exact ⟨_, rfl, HC⟩
    · go_simp
      have hA : Below w1.drew.heap.size w1.drew (w1.drew.alloc (.cells #[.slice none 0 0, .slice none 0 0, .slice none 0 0, .slice none 0 0] 30)) := (Below.refl _ _).alloc (Nat.le_refl _) _
      have hSA : Below w1.heap.size w1 (w1.drew.alloc (.cells #[.slice none 0 0, .slice none 0 0, .slice none 0 0, .slice none 0 0] 30)) := hHeld.alloc hHeld.size _
      have hq3 : w1.heap.size ≤ w1.heap.size := hHeld.size
      have K3 : Blk (w1.drew.alloc (.cells #[.slice none 0 0, .slice none 0 0, .slice none 0 0, .slice none 0 0] 30)) w1.heap.size 30 #[.slice none 0 0, .slice none 0 0, .slice none 0 0, .slice none 0 0] := Blk.new w1.drew 30 _
      refine hKQ.out _ _ hSA (fun _ => ?_)
      clear hKQ KQ hA
      try simp only [Act.put, List.setIfInBounds_toArray, List.set_cons_zero, List.set_cons_succ]
      refine wpAnyH_ready (rs := [2]) (by kernel_rfl) (by simp) ?_
      refine AllReadyH.cons (o := ⟨_, _, _, _, _, _⟩) rfl (fun KQ hKQ => ?_) AllReadyH.nil
      go_simp
      refine (H36.out _ hSA).mono ?_
      rintro e v1 ⟨A1, c1, rfl, hO1, hb⟩
      have hO1 := own_mono hO1 hSA.size
      have K3 := K3.old hb
      have hS1 : Below w1.heap.size w1 v1 := hSA.trans (hb.mono hSA.size)
      refine hKQ.out _ _ hS1 (fun _ => ?_)
      clear hKQ KQ hb
      try simp only [Act.put, List.setIfInBounds_toArray, List.set_cons_zero, List.set_cons_succ]
      refine wpAnyH_ready (rs := [5]) (by kernel_rfl) (by simp) ?_
      refine AllReadyH.cons (o := ⟨_, _, _, _, _, _⟩) rfl (fun KQ hKQ => ?_) AllReadyH.nil
      go_simp
      refine (H37g.out _ hS1).mono ?_
      rintro e v2 ⟨A2, c2, rfl, hO2, hb⟩
      have hO1 := own_old hO1 hb
      have hO2 := own_mono hO2 hS1.size
      have K3 := K3.old hb
      have hS2 : Below w1.heap.size w1 v2 := hS1.trans (hb.mono hS1.size)
      refine hKQ.out _ _ hS2 (fun _ => ?_)
      clear hKQ KQ hb
      try simp only [Act.put, List.setIfInBounds_toArray, List.set_cons_zero, List.set_cons_succ]
      refine wpAnyH_ready (rs := [8]) (by kernel_rfl) (by simp) ?_
      refine AllReadyH.cons (o := ⟨_, _, _, _, _, _⟩) rfl (fun KQ hKQ => ?_) AllReadyH.nil
      go_simp
      refine (H38.out _ hS2).mono ?_
      rintro e v3 ⟨A3, c3, rfl, ⟨csf, hO3, hFC⟩, hb⟩
      have hO1 := own_old hO1 hb
      have hO2 := own_old hO2 hb
      have hO3 := own_mono hO3 hS2.size
      have hFC := hFC.kept (fun k hk _ => hb.block k (by have := hS2.size; omega)) (fun _ h _ => h)
      have K3 := K3.old hb
      have hS3 : Below w1.heap.size w1 v3 := hS2.trans (hb.mono hS2.size)
      refine hKQ.out _ _ hS3 (fun _ => ?_)
      clear hKQ KQ hb
      try simp only [Act.put, List.setIfInBounds_toArray, List.set_cons_zero, List.set_cons_succ]
      refine wpAnyH_ready (rs := [11]) (by kernel_rfl) (by simp) ?_
      refine AllReadyH.cons (o := ⟨_, _, _, _, _, _⟩) rfl (fun KQ hKQ => ?_) AllReadyH.nil
      go_simp
      refine (H37e.out _ hS3).mono ?_
      rintro e v4 ⟨A4, c4, rfl, hO4, hb⟩
      have hAp : (∀ k, some k = (Value.slice A2 lg c2).ownBlock → some k ≠ (Value.slice A4 le c4).ownBlock) := fun k e1 e2 => by have e3 := (hO2.lt k e1.symm).2; have e4 := (hO4.lt k e2.symm).1; omega
      have hO1 := own_old hO1 hb
      have hO2 := own_old hO2 hb
      have hO3 := own_old hO3 hb
      have hO4 := own_mono hO4 hS3.size
      have hFC := hFC.kept (fun k hk _ => hb.block k (by have := hS3.size; omega)) (fun _ h _ => h)
      have K3 := K3.old hb
      have hS4 : Below w1.heap.size w1 v4 := hS3.trans (hb.mono hS3.size)
      refine hKQ.out _ _ hS4 (fun _ => ?_)
      clear hKQ KQ hb
      try simp only [Act.put, List.setIfInBounds_toArray, List.set_cons_zero, List.set_cons_succ]
      refine wpAnyH_take (i := 12) (oi := ⟨_, _, _, _, _, _⟩) (v := ?_) rfl (by kernel_rfl) (by kernel_rfl) (by kernel_rfl) (fun _ _ _ h => h) (Or.inl ⟨by rfl, ?_⟩) (by assumption) ?_
      rotate_left
      · (intro W hSW; (try dsimp only at hSW); go_simp; first | done | with_reducible rfl)
      try simp only [Act.put, List.setIfInBounds_toArray, List.set_cons_zero, List.set_cons_succ]
      have hq3z : w1.heap.size < v4.heap.size := K3.lt
      obtain ⟨r0, r1, r2, r3⟩ := K3.c4
      have f0 := K3.frozen 0
      have f1 := K3.frozen 1
      have f2 := K3.frozen 2
      have f3 := K3.frozen 3
      refine wpAnyH_ready (rs := [14]) (by kernel_rfl) (by simp) ?_
      refine AllReadyH.cons (o := ⟨_, _, _, _, _, _⟩) rfl (fun KQ hKQ => ?_) AllReadyH.nil
      go_simp
      refine hKQ.out _ _ (set4 hS4 hq3 _ _ _ _) (fun _ => ?_)
      clear hKQ KQ
      try simp only [Act.put, List.setIfInBounds_toArray, List.set_cons_zero, List.set_cons_succ]
      have HC := Lib.hid (cpcut2_set (Nat.le_trans hw0 (Nat.le_of_lt hz1)) hS4 hq3 K3 rfl hO1 hO2 hO3 hFC hO4 hAp)
      refine wpAnyH_done (by kernel_rfl) ?_ _
      clear hO1 hO2 hO3 hFC hO4 r0 r1 r2 r3 f0 f1 f2 f3 K3
      go_wp2_with fail
      go_meet
      case rel => exact ⟨_, rfl, HC⟩
  case rest =>
    obtain ⟨q3, rfl, hC⟩ := hcut
    obtain ⟨A1, c1, A2, c2, A3, c3, A4, c4, hb, hq3, K3, hO1, hO2, ⟨csf, hO3, hFC⟩, hO4, hAp⟩ := hC.out
    have HAp := Lib.hid hAp
    clear hAp
    obtain ⟨lo, hlo⟩ : ∃ n, n = wc.heap.size := ⟨_, rfl⟩
    obtain ⟨qf, hqf⟩ : ∃ qf, 0 < lf → A3 = some ⟨qf, 0, none⟩ ∧ CpG w0 lo wc qf M.funcs 0 ∧ w1.heap.size ≤ qf := by
      rcases Nat.eq_zero_or_pos lf with h0 | h0
      · exact ⟨0, fun h => by omega⟩
      · obtain ⟨qf, hA, hF, hb1⟩ := CpG.first HL.out.2.2.1 hO3 (Nat.le_trans hw0 (Nat.le_of_lt hz1)) hlo hFC h0
        exact ⟨qf, fun _ => ⟨hA, hF, hb1⟩⟩
    have HLO : Hid (w.heap.size + 1 < lo ∧ ∀ k, some k = (Value.slice A2 lg c2).ownBlock ∨ some k = (Value.slice A4 le c4).ownBlock → k < lo) := ⟨by have h1 := KR.out.lt; have h2 := hb.size; omega, fun k hk => by rw [hlo]; exact hk.elim (fun hk => (hO2.lt k hk.symm).2) (fun hk => (hO4.lt k hk.symm).2)⟩
    have HI0 : Hid (Below w1.heap.size w1 wc ∧ Blk wc q3 30 #[.slice A1 ls c1, .slice A2 lg c2, .slice A3 lf c3, .slice A4 le c4] ∧ wc.ownsRow w1.heap.size 9 1 (.slice A1 ls c1) ls (strV M.strs) ∧ wc.ownsRow w1.heap.size 3 1 (.slice A2 lg c2) lg (intV M.globs) ∧ wc.ownsRow w1.heap.size 3 1 (.slice A4 le c4) le (intV M.ents) ∧ (0 < lf → A3 = some ⟨qf, 0, none⟩ ∧ CpG w0 lo wc qf M.funcs 0 ∧ w1.heap.size ≤ qf)) := ⟨hb, K3, hO1, hO2, hO4, hqf⟩
    have HQ3 := Lib.hid hq3
    clear hb hO1 hO2 hO3 hFC hO4 hlo hqf hC x0 x1 x2 x3 H36 H37g H38 H37e
    obtain ⟨k0, k1, k2, k3⟩ := K3.c4
    have zq3 : q3 < wc.heap.size := K3.lt
    go_upto_block 0 with (fail)
    clear k0 k1 k2 k3 zq3 K3
    go_wp2_with fail
    go_loopw [22] (fun s22 wr => ∃ (i : Nat), i ≤ lf ∧ s22 = .int .i64 (i : Int) ∧ Hid (Below w1.heap.size w1 wr ∧ Blk wr q3 30 #[.slice A1 ls c1, .slice A2 lg c2, .slice A3 lf c3, .slice A4 le c4] ∧ wr.ownsRow w1.heap.size 9 1 (.slice A1 ls c1) ls (strV M.strs) ∧ wr.ownsRow w1.heap.size 3 1 (.slice A2 lg c2) lg (intV M.globs) ∧ wr.ownsRow w1.heap.size 3 1 (.slice A4 le c4) le (intV M.ents) ∧ (0 < lf → A3 = some ⟨qf, 0, none⟩ ∧ CpG w0 lo wr qf M.funcs i ∧ w1.heap.size ≤ qf))) (fun s22 _ => lf - (intOf s22).toNat)
    case atStart => exact ⟨0, Nat.zero_le _, rfl, HI0⟩
    case round =>
      clear HI0
      obtain ⟨i, hi, rfl, hI⟩ := hrel
      have HBr := Lib.hid hI.out.1
      by_cases hlt : i < lf
      · obtain ⟨rfl, hCF, hqfb⟩ := hI.out.2.2.2.2.2 (by omega)
        have HQB := Lib.hid hqfb
        clear hqfb
        have hiM : i < M.funcs.length := by rw [← HL.out.2.2.1]; exact hlt
        obtain ⟨csr, hRow, hRsz⟩ := hCF.row
        obtain ⟨fs, ⟨Al, cl, At, ct, Ab, cb, rfl, r1, r2, r3⟩, hc⟩ := hCF.todo i hiM (Nat.le_refl _)
        have d0 := hc 0 _ rfl
        have d1 := hc 1 _ rfl
        have d2 := hc 2 _ rfl
        have d3 := hc 3 _ rfl
        have d4 := hc 4 _ rfl
        simp only [Nat.add_zero] at d0
        have HD : Hid (wr.cell? ⟨qf, i * 5, none⟩ = some (.int .i64 M.funcs[i].name) ∧ wr.cell? ⟨qf, i * 5 + 1, none⟩ = some (.int .i64 M.funcs[i].params) ∧ wr.cell? ⟨qf, i * 5 + 2, none⟩ = some (.slice Al M.funcs[i].locals.length cl) ∧ wr.cell? ⟨qf, i * 5 + 3, none⟩ = some (.slice At M.funcs[i].sites.length ct) ∧ wr.cell? ⟨qf, i * 5 + 4, none⟩ = some (.slice Ab M.funcs[i].body.len cb)) := ⟨d0, d1, d2, d3, d4⟩
        have HCF := Lib.hid hCF
        have HRow := Lib.hid hRow
        obtain ⟨f1, f2, f3, f4⟩ := H5.out _ (List.getElem_mem hiM)
        obtain ⟨s1, s2⟩ := HS.out _ (List.getElem_mem hiM)
        have hD1 := fun wx (hx : Below wr.heap.size wr wx) => cloneInt_any Al cl M.funcs[i].locals wx ((r1.old hx (by omega)).below (fun _ _ => trivial)) f1
        have hD2 := fun wx (hx : Below wr.heap.size wr wx) => cloneInt_any At ct M.funcs[i].sites wx ((r2.old hx (by omega)).below (fun _ _ => trivial)) f2
        have hD3 := fun wx (hx : Below wr.heap.size wr wx) => copyB_any (fun k => k < w0) Ab cb M.funcs[i].body wx (r3.kept (fun k hk _ => hx.block k (by have h1 := HBr.out.size; have h2 : k < w0 := hk; omega)) (fun _ h _ => h)) (by omega) (by omega)
        have HIM := Lib.hid hiM
        generalize hf : M.funcs[i] = f at *
        obtain ⟨fn, hfn⟩ : ∃ x, x = f.name := ⟨_, rfl⟩
        obtain ⟨fp, hfp⟩ : ∃ x, x = f.params := ⟨_, rfl⟩
        obtain ⟨ll, hll⟩ : ∃ x, x = f.locals.length := ⟨_, rfl⟩
        obtain ⟨lt, hlt2⟩ : ∃ x, x = f.sites.length := ⟨_, rfl⟩
        obtain ⟨lb, hlb⟩ : ∃ x, x = f.body.len := ⟨_, rfl⟩
        rw [← hll] at hD1 d2
        rw [← hlt2] at hD2 d3
        rw [← hlb] at hD3 d4
        rw [← hfn] at d0
        rw [← hfp] at d1
        have HF : Hid (M.funcs[i] = f) := hf
        have HFl : Hid (fn = f.name ∧ fp = f.params ∧ ll = f.locals.length ∧ lt = f.sites.length ∧ lb = f.body.len) := ⟨hfn, hfp, hll, hlt2, hlb⟩
        have HD1 := Lib.hid hD1
        have HD2 := Lib.hid hD2
        have HD3 := Lib.hid hD3
        have zqf : qf < wr.heap.size := hRow.lt
        have hil : (i : Int) < (lf : Int) := by omega
        have HBA : Hid (Below wr.heap.size wr (wr.alloc (.cells #[.int .i64 fn, .int .i64 fp, .slice Al ll cl, .slice At lt ct, .slice Ab lb cb] 40))) := (Below.refl _ _).alloc (Nat.le_refl _) _
        have KB : Hid (Blk (wr.alloc (.cells #[.int .i64 fn, .int .i64 fp, .slice Al ll cl, .slice At lt ct, .slice Ab lb cb] 40)) wr.heap.size 40 #[.int .i64 fn, .int .i64 fp, .slice Al ll cl, .slice At lt ct, .slice Ab lb cb]) := Blk.new wr 40 _
        clear hCF hc hRow r1 r2 r3 hD1 hD2 hD3 hf hfn hfp hll hlt2 hlb f1 f2 f3 f4 s1 s2
        go_upto_region 5 with (fail)
        obtain ⟨g, hgd⟩ : ∃ g, g = wr.heap.size := ⟨_, rfl⟩
        rw [← hgd] at KB ⊢
        generalize wr.alloc (.cells #[.int .i64 fn, .int .i64 fp, .slice Al ll cl, .slice At lt ct, .slice Ab lb cb] 40) = wa at *
        have HGD := Lib.hid hgd
        clear d0 d1 d2 d3 d4 hgd zqf
        obtain ⟨c0, c1', c2', c3', c4'⟩ := KB.out.c5
        have zg : g < wa.heap.size := KB.out.lt
        go_wp2_with fail
        refine (HD1.out wa HBA.out).mono ?_
        rintro e w2 ⟨B1, b1, rfl, hP1, hb2⟩
        have HB2 := Lib.hid ((HBA.out.trans (hb2.mono HBA.out.size)).setCell (p := ⟨g, 2, none⟩) (by rw [HGD.out]; exact Nat.le_refl _) (.slice B1 ll b1))
        have KB2 := Lib.hid (KB.out.old hb2)
        have KB2' : Hid (Blk (w2.setCell ⟨g, 2, none⟩ (.slice B1 ll b1)) g 40 #[.int .i64 fn, .int .i64 fp, .slice B1 ll b1, .slice At lt ct, .slice Ab lb cb]) := KB2.out.set_ 2 _
        have HP1 : Hid ((w2.setCell ⟨g, 2, none⟩ (.slice B1 ll b1)).ownsRow wa.heap.size 3 1 (.slice B1 ll b1) ll (intV f.locals)) := own_blocks hP1 (fun k hk => Below.heap_setCell _ _ _ _ (fun e => own_ne hP1 KB2.out (by decide) (by have e' : k = g := e; subst e'; exact hk)))
        have HLt1 : Hid (∀ k, some k = (Value.slice B1 ll b1).ownBlock → k < (w2.setCell ⟨g, 2, none⟩ (.slice B1 ll b1)).heap.size) := fun k hk => (HP1.out.lt k hk.symm).2
        have HGa : Hid (g < wa.heap.size) := zg
        have HW2 : Hid (wa.heap.size ≤ (w2.setCell ⟨g, 2, none⟩ (.slice B1 ll b1)).heap.size) := by show _ ≤ _; have := hb2.size; simp [World.setCell]; exact this
        clear hP1 hb2 c0 c1' c2' c3' c4' zg
        obtain ⟨c0, c1', c2', c3', c4'⟩ := KB2.out.c5
        have zg : g < w2.heap.size := KB2.out.lt
        have zf := KB2.out.frozen 2
        go_upto_region 6 with (fail)
        generalize w2.setCell ⟨g, 2, none⟩ (.slice B1 ll b1) = w3 at *
        clear c0 c1' c2' c3' c4' zg zf KB2 KB HBA
        obtain ⟨c0, c1', c2', c3', c4'⟩ := KB2'.out.c5
        have zg : g < w3.heap.size := KB2'.out.lt
        go_wp2_with fail
        refine (HD2.out w3 HB2.out).mono ?_
        rintro e w4 ⟨B2, b2, rfl, hP2, hb4⟩
        have HB4 := Lib.hid ((HB2.out.trans (hb4.mono HB2.out.size)).setCell (p := ⟨g, 3, none⟩) (by rw [HGD.out]; exact Nat.le_refl _) (.slice B2 lt b2))
        have KB4 := Lib.hid (KB2'.out.old hb4)
        have KB4' : Hid (Blk (w4.setCell ⟨g, 3, none⟩ (.slice B2 lt b2)) g 40 #[.int .i64 fn, .int .i64 fp, .slice B1 ll b1, .slice B2 lt b2, .slice Ab lb cb]) := KB4.out.set_ 3 _
        have HP1b : Hid ((w4.setCell ⟨g, 3, none⟩ (.slice B2 lt b2)).ownsRow wa.heap.size 3 1 (.slice B1 ll b1) ll (intV f.locals)) := own_blocks (own_old HP1.out hb4) (fun k hk => Below.heap_setCell _ _ _ _ (fun e => own_ne (own_old HP1.out hb4) KB4.out (by decide) (by have e' : k = g := e; subst e'; exact hk)))
        have HP2 : Hid ((w4.setCell ⟨g, 3, none⟩ (.slice B2 lt b2)).ownsRow w3.heap.size 3 1 (.slice B2 lt b2) lt (intV f.sites)) := own_blocks hP2 (fun k hk => Below.heap_setCell _ _ _ _ (fun e => own_ne hP2 KB4.out (by decide) (by have e' : k = g := e; subst e'; exact hk)))
        have HLt2 : Hid (∀ k, some k = (Value.slice B2 lt b2).ownBlock → k < (w4.setCell ⟨g, 3, none⟩ (.slice B2 lt b2)).heap.size) := fun k hk => (HP2.out.lt k hk.symm).2
        have HW4 : Hid (w3.heap.size ≤ (w4.setCell ⟨g, 3, none⟩ (.slice B2 lt b2)).heap.size) := by show _ ≤ _; have := hb4.size; simp [World.setCell]; exact this
        clear hP2 hb4 c0 c1' c2' c3' c4' zg HP1
        obtain ⟨c0, c1', c2', c3', c4'⟩ := KB4.out.c5
        have zg : g < w4.heap.size := KB4.out.lt
        have zf := KB4.out.frozen 3
        go_upto_region 7 with (fail)
        generalize w4.setCell ⟨g, 3, none⟩ (.slice B2 lt b2) = w5 at *
        clear c0 c1' c2' c3' c4' zg zf KB4 KB2' HB2
        obtain ⟨c0, c1', c2', c3', c4'⟩ := KB4'.out.c5
        have zg : g < w5.heap.size := KB4'.out.lt
        go_wp2_with fail
        refine (HD3.out w5 HB4.out).mono ?_
        rintro e w6 ⟨B3, b3, rfl, hP3⟩
        have hb6 := hP3.2.2
        have HB6 := Lib.hid ((HB4.out.trans (hb6.mono HB4.out.size)).setCell (p := ⟨g, 4, none⟩) (by rw [HGD.out]; exact Nat.le_refl _) (.slice B3 lb b3))
        have KB6 := Lib.hid (KB4'.out.old hb6)
        have KB6' : Hid (Blk (w6.setCell ⟨g, 4, none⟩ (.slice B3 lb b3)) g 40 #[.int .i64 fn, .int .i64 fp, .slice B1 ll b1, .slice B2 lt b2, .slice B3 lb b3]) := KB6.out.set_ 4 _
        have HP1c : Hid ((w6.setCell ⟨g, 4, none⟩ (.slice B3 lb b3)).ownsRow wa.heap.size 3 1 (.slice B1 ll b1) ll (intV f.locals)) := own_blocks (own_old HP1b.out hb6) (fun k hk => Below.heap_setCell _ _ _ _ (fun e => own_ne (own_old HP1b.out hb6) KB6.out (by decide) (by have e' : k = g := e; subst e'; exact hk)))
        have HP2b : Hid ((w6.setCell ⟨g, 4, none⟩ (.slice B3 lb b3)).ownsRow w3.heap.size 3 1 (.slice B2 lt b2) lt (intV f.sites)) := own_blocks (own_old HP2.out hb6) (fun k hk => Below.heap_setCell _ _ _ _ (fun e => own_ne (own_old HP2.out hb6) KB6.out (by decide) (by have e' : k = g := e; subst e'; exact hk)))
        have HP3 : Hid (CbV (fun k => k < w0) w5.heap.size (w6.setCell ⟨g, 4, none⟩ (.slice B3 lb b3)) B3 f.body) := CbV.far ⟨hP3.1, hP3.2.1⟩ KB6.out KB4'.out.lt (fun h => by have h1 := HGD.out; have h2 := HBr.out.size; have h3 : g < w0 := h; omega) (fun k hk hkg => Below.heap_setCell _ _ _ _ hkg)
        have HW7 : Hid (w5.heap.size ≤ (w6.setCell ⟨g, 4, none⟩ (.slice B3 lb b3)).heap.size) := by show _ ≤ _; have := hb6.size; simp [World.setCell]; exact this
        clear hP3 hb6 c0 c1' c2' c3' c4' zg HP1b HP2
        obtain ⟨c0, c1', c2', c3', c4'⟩ := KB6.out.c5
        have zg : g < w6.heap.size := KB6.out.lt
        have zf := KB6.out.frozen 4
        go_upto_region 8 with (fail)
        have HW6 : Hid (wa.heap.size ≤ w5.heap.size) := by show _ ≤ _; have := HW2.out; have := HW4.out; omega
        generalize w6.setCell ⟨g, 4, none⟩ (.slice B3 lb b3) = w7 at *
        clear c0 c1' c2' c3' c4' zg zf KB6 KB4' HB4
        obtain ⟨c0, c1', c2', c3', c4'⟩ := KB6'.out.c5
        have zg : g < w7.heap.size := KB6'.out.lt
        have HR7 := Lib.hid (HRow.out.old HB6.out)
        have K7 := Lib.hid (hI.out.2.1.old HB6.out)
        obtain ⟨k0, k1, k2, k3⟩ := K7.out.c4
        have zq3 : q3 < w7.heap.size := K7.out.lt
        have zqf : qf < w7.heap.size := HR7.out.lt
        have hqfl : qf < wr.heap.size := HRow.out.lt
        have y0 := cell_old HB6.out hqfl HD.out.1
        have y1 := cell_old HB6.out hqfl HD.out.2.1
        have y2 := cell_old HB6.out hqfl HD.out.2.2.1
        have y3 := cell_old HB6.out hqfl HD.out.2.2.2.1
        have y4 := cell_old HB6.out hqfl HD.out.2.2.2.2
        have p0 := HR7.out.frozen (i * 5)
        have p1 := HR7.out.frozen (i * 5 + 1)
        have p2 := HR7.out.frozen (i * 5 + 2)
        have p3 := HR7.out.frozen (i * 5 + 3)
        have p4 := HR7.out.frozen (i * 5 + 4)
        go_upto_region 9 with (fail)
        have hRi : CpG w0 lo (put5 w7 qf (i * 5) (.int .i64 fn) (.int .i64 fp) (.slice B1 ll b1) (.slice B2 lt b2) (.slice B3 lb b3)) qf M.funcs (i + 1) := by
          have hh := HF.out
          have hW2 := HW2.out
          have hW4 := HW4.out
          have hW6 := HW6.out
          have hGa := HGa.out
          have hGD := HGD.out
          have hz2 : w.heap.size + 1 < w1.heap.size := KR.out.lt
          have hs1 := HBr.out.size
          have hq3l : q3 < wr.heap.size := hI.out.2.1.lt
          obtain ⟨l1, l2, l3, l4, l5⟩ := HFl.out
          have hP1 := HP1c.out
          have hP2 := HP2b.out
          have hP3 := HP3.out
          subst hh
          rw [l1, l2]
          exact HCF.out.step HIM.out HB6.out l3 l4 l5 (Bl := wa.heap.size) (Bs := w3.heap.size) (B0 := w5.heap.size) (by omega) hW2 hW4 HW7.out (by omega) HCF.out.lo_le hP1 HLt1.out hP2 HLt2.out hP3.2
        have HRi := Lib.hid hRi
        have hqq : q3 ≠ qf := fun e => by
          have h1 := K7.out
          rw [e] at h1
          exact absurd (h1.uniq HR7.out) (by decide)
        have hk9 : ∀ {B e s n c : Nat} {A : Option Addr} {xs : List Value}, wr.ownsRow B e s (.slice A n c) n xs → e ≠ 40 → (put5 w7 qf (i * 5) (.int .i64 fn) (.int .i64 fp) (.slice B1 ll b1) (.slice B2 lt b2) (.slice B3 lb b3)).ownsRow B e s (.slice A n c) n xs := fun h he => own_blocks (own_old h HB6.out) (fun k hk => put5_heap (fun e2 => by subst e2; exact own_ne (own_old h HB6.out) HR7.out he hk))
        have HI8 : Hid (Below w1.heap.size w1 (put5 w7 qf (i * 5) (.int .i64 fn) (.int .i64 fp) (.slice B1 ll b1) (.slice B2 lt b2) (.slice B3 lb b3)) ∧ Blk (put5 w7 qf (i * 5) (.int .i64 fn) (.int .i64 fp) (.slice B1 ll b1) (.slice B2 lt b2) (.slice B3 lb b3)) q3 30 #[.slice A1 ls c1, .slice A2 lg c2, .slice (some ⟨qf, 0, none⟩) lf c3, .slice A4 le c4] ∧ (put5 w7 qf (i * 5) (.int .i64 fn) (.int .i64 fp) (.slice B1 ll b1) (.slice B2 lt b2) (.slice B3 lb b3)).ownsRow w1.heap.size 9 1 (.slice A1 ls c1) ls (strV M.strs) ∧ (put5 w7 qf (i * 5) (.int .i64 fn) (.int .i64 fp) (.slice B1 ll b1) (.slice B2 lt b2) (.slice B3 lb b3)).ownsRow w1.heap.size 3 1 (.slice A2 lg c2) lg (intV M.globs) ∧ (put5 w7 qf (i * 5) (.int .i64 fn) (.int .i64 fp) (.slice B1 ll b1) (.slice B2 lt b2) (.slice B3 lb b3)).ownsRow w1.heap.size 3 1 (.slice A4 le c4) le (intV M.ents) ∧ (0 < lf → (some ⟨qf, 0, none⟩ : Option Addr) = some ⟨qf, 0, none⟩ ∧ CpG w0 lo (put5 w7 qf (i * 5) (.int .i64 fn) (.int .i64 fp) (.slice B1 ll b1) (.slice B2 lt b2) (.slice B3 lb b3)) qf M.funcs (i + 1) ∧ w1.heap.size ≤ qf)) :=
          ⟨put5_below (HBr.out.trans (HB6.out.mono HBr.out.size)) HQB.out, (put5_heap hqq).trans K7.out, hk9 hI.out.2.2.1 (by decide), hk9 hI.out.2.2.2.1 (by decide), hk9 hI.out.2.2.2.2.1 (by decide), fun _ => ⟨rfl, HRi.out, HQB.out⟩⟩
        change Code.wp _ _ _ _ (put5 w7 qf (i * 5) (.int .i64 fn) (.int .i64 fp) (.slice B1 ll b1) (.slice B2 lt b2) (.slice B3 lb b3))
        generalize put5 w7 qf (i * 5) (.int .i64 fn) (.int .i64 fp) (.slice B1 ll b1) (.slice B2 lt b2) (.slice B3 lb b3) = w8 at *
        clear hRi hk9 hqq k0 k1 k2 k3 zq3 zqf y0 y1 y2 y3 y4 p0 p1 p2 p3 p4 c0 c1' c2' c3' c4' zg hI
        go_wp2
        go_roundw
        case rel => exact ⟨i + 1, by omega, by go_num, HI8.out.1, HI8.out.2.1, HI8.out.2.2.1, HI8.out.2.2.2.1, HI8.out.2.2.2.2.1, fun h => ⟨trivial, (HI8.out.2.2.2.2.2 h).2⟩⟩
        case measure => simp [intOf]; omega
      · obtain rfl : i = lf := by omega
        have KRr := Lib.hid (KR.out.old HBr.out)
        obtain ⟨k0, k1, k2, k3⟩ := hI.out.2.1.c4
        obtain ⟨g0, g1, g2, g3⟩ := KRr.out.c4
        have f0 := KRr.out.frozen 0
        have f1 := KRr.out.frozen 1
        have f2 := KRr.out.frozen 2
        have f3 := KRr.out.frozen 3
        have zq3 : q3 < wr.heap.size := hI.out.2.1.lt
        have zr : w.heap.size + 1 < wr.heap.size := KRr.out.lt
        go_wp2
        have hsz : w.heap.size + 1 < wr.heap.size := KRr.out.lt
        have hKf := ((((KRr.out.set_ 0 (.slice A1 ls c1)).set_ 1 (.slice A2 lg c2)).set_ 2 (.slice A3 i c3)).set_ 3 (.slice A4 le c4))
        obtain ⟨r0, r1, r2, r3⟩ := Blk.c4 hKf
        refine bodyPost_ret (v := .agg #[.slice A1 ls c1, .slice A2 lg c2, .slice A3 i c3, .slice A4 le c4]) (by simp [results, Try.results49, go_sem, r0, r1, r2, r3]) rfl ?_
        have hk : ∀ k, k ≠ w.heap.size + 1 → ((((wr.setCell ⟨w.heap.size + 1, 0, none⟩ (.slice A1 ls c1)).setCell ⟨w.heap.size + 1, 1, none⟩ (.slice A2 lg c2)).setCell ⟨w.heap.size + 1, 2, none⟩ (.slice A3 i c3)).setCell ⟨w.heap.size + 1, 3, none⟩ (.slice A4 le c4)).heap[k]? = wr.heap[k]? := fun k hk => set4_far _ _ _ _ hk
        have hbf := set4 (HB1.out.trans (HBr.out.mono HB1.out.size)) (Nat.le_succ w.heap.size) (.slice A1 ls c1) (.slice A2 lg c2) (.slice A3 i c3) (.slice A4 le c4)
        have hbf' : Below w.heap.size w ((((wr.setCell ⟨w.heap.size + 1, 0, none⟩ (.slice A1 ls c1)).setCell ⟨w.heap.size + 1, 1, none⟩ (.slice A2 lg c2)).setCell ⟨w.heap.size + 1, 2, none⟩ (.slice A3 i c3)).setCell ⟨w.heap.size + 1, 3, none⟩ (.slice A4 le c4)) := hbf
        have hsz' : wr.heap.size ≤ ((((wr.setCell ⟨w.heap.size + 1, 0, none⟩ (.slice A1 ls c1)).setCell ⟨w.heap.size + 1, 1, none⟩ (.slice A2 lg c2)).setCell ⟨w.heap.size + 1, 2, none⟩ (.slice A3 i c3)).setCell ⟨w.heap.size + 1, 3, none⟩ (.slice A4 le c4)).heap.size := by simp [World.setCell]
        clear hbf r0 r1 r2 r3
        generalize (((wr.setCell ⟨w.heap.size + 1, 0, none⟩ (.slice A1 ls c1)).setCell ⟨w.heap.size + 1, 1, none⟩ (.slice A2 lg c2)).setCell ⟨w.heap.size + 1, 2, none⟩ (.slice A3 i c3)).setCell ⟨w.heap.size + 1, 3, none⟩ (.slice A4 le c4) = wf at *
        obtain ⟨hb, hK3, hO1, hO2, hO4, hF⟩ := hI.out
        obtain ⟨el, eg, ef, ee⟩ := HL.out
        have hs1 := HB1.out.size
        have hz2 : w.heap.size + 1 < w1.heap.size := KR.out.lt
        have hw : ∀ {B e s n c : Nat} {A : Option Addr} {xs : List Value}, wr.ownsRow B e s (.slice A n c) n xs → e ≠ 30 → wf.ownsRow B e s (.slice A n c) n xs := fun h he => own_blocks h (fun k hk' => hk k (fun e => by subst e; exact own_ne h KRr.out he hk'))
        have h1 := hw hO1 (by decide)
        have h2 := hw hO2 (by decide)
        have h4 := hw hO4 (by decide)
        have hG : 0 < i → A3 = some ⟨qf, 0, none⟩ ∧ CpG w0 lo wf qf M.funcs M.funcs.length := fun hp => by
          obtain ⟨hA, hCF, hqb⟩ := hF hp
          rw [← ef]
          have h5 := HLO.out.1
          exact ⟨hA, hCF.kept hsz' (fun k hk' _ => hk k (by rcases hk' with h | h | h <;> omega))⟩
        refine ⟨A1, c1, A2, c2, A3, c3, A4, c4, by rw [el, eg, ef, ee], ⟨by rw [← el]; exact (RdS.own h1).below (fun _ _ => trivial), by rw [← eg]; exact (RdS.own h2).below (fun _ _ => trivial), fun hp => ?_, by rw [← ee]; exact (RdS.own h4).below (fun _ _ => trivial)⟩, hbf', by rw [← eg]; exact own_mono h2 (by omega), by rw [← ee]; exact own_mono h4 (by omega), by rw [← eg, ← ee]; exact HAp.out, fun hp => ?_⟩
        · obtain ⟨rfl, hCF⟩ := hG (by omega)
          exact hCF.reads hp
        · obtain ⟨rfl, hCF⟩ := hG (by omega)
          have h5 := HLO.out.1
          have h6 := (hF (by omega)).2.2
          exact ⟨qf, lo, rfl, hCF, by rw [← eg, ← ee]; exact HLO.out.2, by omega, by omega⟩
end Go.Proofs.Ytpdebnecfknohaa
namespace Go.Proofs.Ytpdebnecfknohaa
open Go.RowKit
set_option linter.unusedVariables false
set_option linter.unusedSimpArgs false
/-- A string more, if it isn't there. -/
def addF (l : List (List UInt8)) (x : List UInt8) : List (List UInt8) := if l.contains x = true then l else l ++ [x]
def addsF : List (List UInt8) → List (List UInt8) → List (List UInt8)
  | l, [] => l
  | l, x :: xs => addsF (addF l x) xs
theorem addF_mem (l : List (List UInt8)) (x y : List UInt8) : y ∈ addF l x ↔ y ∈ l ∨ y = x := by
  unfold addF
  split
  · rename_i h
    constructor
    · exact .inl
    · rintro (h1 | rfl)
      · exact h1
      · simpa using h
  · simp
theorem addF_nodup (l : List (List UInt8)) (x : List UInt8) (h : l.Nodup) : (addF l x).Nodup := by
  unfold addF
  split
  · exact h
  · rename_i h1
    rw [List.nodup_append]
    refine ⟨h, by simp, ?_⟩
    intro a ha b hb
    have hb : b = x := by simpa using hb
    subst hb
    rintro rfl
    exact h1 (by simpa using ha)
theorem addsF_mem : ∀ (xs l : List (List UInt8)) (y : List UInt8), y ∈ addsF l xs ↔ y ∈ l ∨ y ∈ xs
  | [], l, y => by simp [addsF]
  | x :: xs, l, y => by
    rw [addsF, addsF_mem xs, addF_mem]
    simp only [List.mem_cons]
    exact or_assoc
theorem addsF_nodup : ∀ (xs l : List (List UInt8)), l.Nodup → (addsF l xs).Nodup
  | [], l, h => h
  | x :: xs, l, h => addsF_nodup xs _ (addF_nodup l x h)
theorem addsF_snoc : ∀ (xs l : List (List UInt8)) (x : List UInt8), addsF l (xs ++ [x]) = addF (addsF l xs) x
  | [], l, x => rfl
  | y :: xs, l, x => by rw [List.cons_append, addsF, addsF_snoc xs, addsF]
theorem addF_len (l : List (List UInt8)) (x : List UInt8) : (addF l x).length ≤ l.length + 1 := by unfold addF; split <;> simp
/-- Rising, each once. -/
def Rising (l : List (List UInt8)) : Prop := l.Pairwise (· < ·)
theorem gtF_lt (a b : List UInt8) : gtF a b = true ↔ b < a := by
  unfold gtF
  rw [Go.Proofs.bytesLess_eq]
  simp only [Bool.not_eq_true', Bool.or_eq_false_iff, decide_eq_false_iff_not, beq_eq_false_iff_ne, ne_eq]
  constructor
  · rintro ⟨h1, h2⟩
    rcases Std.lt_trichotomy a b with h | h | h
    · exact absurd h h1
    · exact absurd h h2
    · exact h
  · intro h
    exact ⟨fun h1 => List.lt_irrefl _ (List.lt_trans h h1), fun h1 => by subst h1; exact List.lt_irrefl _ h⟩
/-- What stands at the end goes to its place. -/
theorem bub_rising : ∀ (k : Nat) (a : List (List UInt8)) (x : List UInt8) (b : List (List UInt8)), a.length = k → Rising (a ++ b) → (∀ y ∈ b, x < y) → x ∉ a → Rising (bub k (a ++ x :: b)) ∧ (bub k (a ++ x :: b)).Perm (a ++ x :: b)
  | 0, a, x, b, hk, hr, hb, hx => by
    have : a = [] := List.eq_nil_of_length_eq_zero hk
    subst this
    exact ⟨List.pairwise_cons.2 ⟨hb, hr⟩, List.Perm.refl _⟩
  | k + 1, a, x, b, hk, hr, hb, hx => by
    obtain ⟨a', y, rfl⟩ : ∃ a' y, a = a' ++ [y] := by
      rcases List.eq_nil_or_concat a with h | ⟨a', y, h⟩
      · subst h; simp at hk
      · exact ⟨a', y, by rw [h, List.concat_eq_append]⟩
    have hk' : a'.length = k := by simpa using hk
    have h0 : (a' ++ [y] ++ x :: b).getD k [] = y := by
      rw [List.append_assoc, List.getD_eq_getElem?_getD, List.getElem?_append_right (by omega), hk', Nat.sub_self]; rfl
    have h1 : (a' ++ [y] ++ x :: b).getD (k + 1) [] = x := by
      rw [List.getD_eq_getElem?_getD, List.getElem?_append_right (by simp; omega)]
      simp [hk']
    rw [bub, h0, h1]
    by_cases hg : gtF y x = true
    · rw [if_pos hg]
      have hsw : swp (a' ++ [y] ++ x :: b) k = a' ++ x :: (y :: b) := by
        unfold swp
        rw [h0, h1, List.append_assoc, List.set_append_right _ _ (by omega), List.set_append_right _ _ (by omega), hk']
        simp [Nat.add_sub_cancel_left]
      rw [hsw]
      have hyx := (gtF_lt y x).1 hg
      have hr2 : Rising (a' ++ (y :: b)) := by simpa using hr
      have ih := bub_rising k a' x (y :: b) hk' hr2 (fun z hz => by
        rcases List.mem_cons.1 hz with rfl | hz
        · exact hyx
        · exact hb z hz) (fun h => hx (List.mem_append_left _ h))
      refine ⟨ih.1, ih.2.trans ?_⟩
      rw [List.append_assoc]
      exact List.Perm.append_left a' (List.Perm.swap y x b)
    · rw [if_neg hg]
      refine ⟨?_, List.Perm.refl _⟩
      have hle : ¬ x < y := fun h => hg ((gtF_lt y x).2 h)
      have hyx : y < x := by
        rcases Std.lt_trichotomy x y with h | h | h
        · exact absurd h hle
        · exact absurd (by rw [h]; simp) hx
        · exact h
      have hr' := List.pairwise_append.1 hr
      refine List.pairwise_append.2 ⟨hr'.1, List.pairwise_cons.2 ⟨hb, hr'.2.1⟩, fun z hz u hu => ?_⟩
      rcases List.mem_cons.1 hu with rfl | hu
      · rcases List.mem_append.1 hz with hz | hz
        · exact List.lt_trans ((List.pairwise_append.1 hr'.1).2.2 z hz y (by simp)) hyx
        · have : z = y := by simpa using hz
          rw [this]; exact hyx
      · exact hr'.2.2 z hz u hu
theorem numF_neg : ∀ (l : List (List UInt8)) (s : List UInt8) (i : Nat), numF l s i < 0 ↔ s ∉ l
  | [], s, i => by simp [numF]
  | x :: l, s, i => by
    rw [numF]
    by_cases h : x = s
    · rw [if_pos h]; subst h; simp
    · rw [if_neg h, numF_neg l s (i + 1)]
      simp only [List.mem_cons, not_or]
      exact ⟨fun h2 => ⟨fun e => h e.symm, h2⟩, fun h2 => h2.2⟩
theorem numF_at : ∀ (l : List (List UInt8)) (j i : Nat) (hj : j < l.length), l.Nodup → numF l l[j] i = ((i + j : Nat) : Int)
  | x :: l, 0, i, hj, hn => by simp [numF]
  | x :: l, j + 1, i, hj, hn => by
    have hn' := List.nodup_cons.1 hn
    have hjl : j < l.length := by simpa using hj
    have hne : ¬ x = l[j] := fun h => hn'.1 (by rw [h]; exact List.getElem_mem hjl)
    rw [numF, List.getElem_cons_succ, if_neg hne, numF_at l j (i + 1) hjl hn'.2]
    congr 1; omega
/-- What the reference gathers: rising, each once, just those that are used. -/
theorem canL_spec (g : List Int) (L : List Fn) (strs : List (List UInt8)) : ∀ i, i ≤ strs.length → Rising (canL g L strs i) ∧ ∀ x, x ∈ canL g L strs i ↔ ∃ j, ∃ h : j < strs.length, j < i ∧ usedF g L (j : Int) = true ∧ strs[j] = x
  | 0, _ => ⟨List.Pairwise.nil, fun x => by simp [canL]⟩
  | i + 1, hi => by
    obtain ⟨h1, h2⟩ := canL_spec g L strs i (by omega)
    have hil : i < strs.length := hi
    have hgd : strs.getD i [] = strs[i] := by rw [List.getD_eq_getElem?_getD, List.getElem?_eq_getElem hil]; rfl
    rw [canL, hgd]
    by_cases hc : usedF g L (i : Int) = true ∧ numF (canL g L strs i) strs[i] 0 < 0
    · rw [if_pos hc]
      have hx := (numF_neg _ _ _).1 hc.2
      have hb := bub_rising _ (canL g L strs i) strs[i] [] rfl (by simpa using h1) (by simp) hx
      refine ⟨hb.1, fun x => ?_⟩
      rw [hb.2.mem_iff]
      simp only [List.mem_append, List.mem_singleton, h2]
      constructor
      · rintro (⟨j, hj, hji, hu, he⟩ | rfl)
        · exact ⟨j, hj, by omega, hu, he⟩
        · exact ⟨i, hil, by omega, hc.1, rfl⟩
      · rintro ⟨j, hj, hji, hu, he⟩
        by_cases hjl : j < i
        · exact .inl ⟨j, hj, hjl, hu, he⟩
        · obtain rfl : j = i := by omega
          exact .inr he.symm
    · rw [if_neg hc]
      refine ⟨h1, fun x => ?_⟩
      rw [h2]
      constructor
      · rintro ⟨j, hj, hji, hu, he⟩
        exact ⟨j, hj, by omega, hu, he⟩
      · rintro ⟨j, hj, hji, hu, he⟩
        by_cases hjl : j < i
        · exact ⟨j, hj, hjl, hu, he⟩
        · obtain rfl : j = i := by omega
          have hin : strs[j] ∈ canL g L strs j := by
            refine Decidable.byContradiction fun hn => hc ⟨hu, (numF_neg _ _ _).2 hn⟩
          rw [he] at hin
          exact (h2 x).1 hin
theorem rising_nodup {l : List (List UInt8)} (h : Rising l) : l.Nodup := h.imp fun h e => by subst e; exact List.lt_irrefl _ h
theorem rising_eq : ∀ {a b : List (List UInt8)}, Rising a → Rising b → (∀ x, x ∈ a ↔ x ∈ b) → a = b
  | [], [], _, _, _ => rfl
  | [], y :: b, _, _, h => absurd ((h y).2 (by simp)) (by simp)
  | x :: a, [], _, _, h => absurd ((h x).1 (by simp)) (by simp)
  | x :: a, y :: b, ha, hb, h => by
    have ha' := List.pairwise_cons.1 ha
    have hb' := List.pairwise_cons.1 hb
    have hxy : x = y := by
      rcases List.mem_cons.1 ((h x).1 (by simp)) with e | e
      · exact e
      · rcases List.mem_cons.1 ((h y).2 (by simp)) with e2 | e2
        · exact e2.symm
        · exact absurd (List.lt_trans (ha'.1 y e2) (hb'.1 x e)) (List.lt_irrefl _)
    subst hxy
    congr 1
    refine rising_eq ha'.2 hb'.2 fun z => ?_
    constructor
    · intro hz
      rcases List.mem_cons.1 ((h z).1 (List.mem_cons_of_mem _ hz)) with e | e
      · subst e; exact absurd (ha'.1 z hz) (List.lt_irrefl _)
      · exact e
    · intro hz
      rcases List.mem_cons.1 ((h z).2 (List.mem_cons_of_mem _ hz)) with e | e
      · subst e; exact absurd (hb'.1 z hz) (List.lt_irrefl _)
      · exact e
/-- Sorted. -/
def srtF (l : List (List UInt8)) : List (List UInt8) := l.mergeSort fun x y => decide (x ≤ y)
theorem srt_mem (l : List (List UInt8)) (x : List UInt8) : x ∈ srtF l ↔ x ∈ l := (List.mergeSort_perm l _).mem_iff
theorem srt_len (l : List (List UInt8)) : (srtF l).length = l.length := List.length_mergeSort l
theorem srt_rising (l : List (List UInt8)) (h : l.Nodup) : Rising (srtF l) := by
  have h1 : (srtF l).Pairwise (fun x y => (decide (x ≤ y)) = true) := List.pairwise_mergeSort (fun a b c hab hbc => by
    simp only [decide_eq_true_eq] at *
    exact List.le_trans hab hbc) (fun a b => by
    rcases Std.lt_trichotomy a b with h | h | h
    · simp [List.le_of_lt h]
    · subst h; simp
    · simp [List.le_of_lt h]) l
  have h2 : (srtF l).Nodup := (List.mergeSort_perm l _).nodup_iff.2 h
  refine (h1.and h2).imp fun {a b} hab => ?_
  have hle : a ≤ b := by simpa using hab.1
  rcases Std.lt_trichotomy a b with h | h | h
  · exact h
  · exact absurd h hab.2
  · exact absurd h (List.not_lt.2 hle)
end Go.Proofs.Ytpdebnecfknohaa
namespace Go.Proofs.Ytpdebnecfknohaa
open Go.RowKit Go.Maps
set_option linter.unusedVariables false
set_option linter.unusedSimpArgs false
set_option maxRecDepth 20000
/-- A string by its number; empty: there is none. -/
def strF (L : List (List UInt8)) (n : Int) : List UInt8 := if 0 ≤ n ∧ n < L.length then L.getD n.toNat [] else []
/-- The first rule that names break: 1, 3; 0: none. -/
def nmF (L : List (List UInt8)) : List (List UInt8) → List Int → Int
  | _, [] => 0
  | seen, n :: l => if (strF L n).length < 1 ∨ 40 < (strF L n).length then 1 else if seen.contains (strF L n) then 3 else nmF L (seen ++ [strF L n]) l
theorem bs_size (x : List UInt8) : (bs x).size = x.length := by simp [bs, ByteArray.size]
theorem bs_data (x : List UInt8) : (bs x).data.toList = x := by simp [bs]
theorem law9 : Keyed Try.prog 9 := string_keyed Try.underlying9
theorem zero125 (w : World) : (zeroValue 125).run Try.prog w = .ok (.agg #[]) w := by kernel_rfl
/-- The set of these. -/
def setS (l : List (List UInt8)) : DataW Unit := setOf (.agg []) (l.map Lit.string)
theorem has_setS (l : List (List UInt8)) (x : List UInt8) : Maps.has (setS l) (.string x) = l.contains x := by
  unfold setS
  rw [has_setOf _ _ _ (fun y hy => by obtain ⟨_, _, rfl⟩ := List.mem_map.1 hy; trivial), List.any_map]
  induction l with
  | nil => rfl
  | cons a r ih =>
    rw [List.any_cons, List.contains_cons, ih]
    congr 1
    show (a == x) = (x == a)
    exact Bool.beq_comm
theorem setS_snoc (l : List (List UInt8)) (x : List UInt8) : setS (l ++ [x]) = (setS l).put (.string x) (.agg []) := by
  unfold setS
  rw [List.map_append, List.map_singleton, setOf_snoc]
theorem ownsMap_old {H : Type} {P : Program} {k b n : Nat} {R : Value → Option (DataW H × List MemPlace)} {D : DataW H} {w w' : World} (h : w.ownsMap P k R b n D) (hb : Below w.heap.size w w') : w'.ownsMap P k R b n D := by
  have hl := h.lt
  obtain ⟨es, clock, he, r⟩ := h
  exact ⟨es, clock, (hb.block b hl).trans he, r⟩
set_option maxHeartbeats 400000 in
theorem str_any (L : List (List UInt8)) (As Ag Af Ae : Option Addr) (cs ng cg nf cf ne ce : Nat) (n : Int) (w : World) (hn1 : -9223372036854775808 ≤ n) (hn2 : n ≤ 9223372036854775807) (h : RdS (fun _ => True) w As L.length 1 (strV L)) (hl : L.length ≤ 1000000) :
    Calls Try.prog 48 #[.agg #[.slice As L.length cs, .slice Ag ng cg, .slice Af nf cf, .slice Ae ne ce], .int .i64 n] w fun e w' => e = .returned (.string (bs (strF L n))) ∧ Below w.heap.size w w' := by
  obtain ⟨x, hx⟩ : ∃ x, strF L n = x := ⟨_, rfl⟩
  rw [hx]
  unfold strF at hx
  have HR := Lib.hid h
  have HX := Lib.hid hx
  obtain ⟨ls, hls⟩ : ∃ ls, ls = L.length := ⟨_, rfl⟩
  have HLS := Lib.hid hls
  rw [← hls] at hl ⊢
  clear h hx hls
  have HB : Hid (Below w.heap.size w (w.alloc (.cells #[.slice As ls cs, .slice Ag ng cg, .slice Af nf cf, .slice Ae ne ce] 30))) := (Below.refl _ _).alloc (Nat.le_refl _) _
  by_cases h0 : 0 ≤ n
  · by_cases h1 : n < ls
    · obtain ⟨k, rfl⟩ : ∃ k : Nat, n = k := ⟨n.toNat, by omega⟩
      have hk : k < L.length := by rw [← HLS.out]; omega
      obtain ⟨b, o, rfl, _, hc⟩ := HR.out.2 (by omega)
      have hcell := hc k _ (strV_get L k hk)
      have hbl := World.block_lt_of_cell? w ⟨b, o + k, none⟩ hcell
      have e : L[k] = x := by
        rw [← HX.out, if_pos (by rw [← HLS.out]; omega)]
        simp [List.getD, hk]
      rw [e] at hcell
      clear hc e
      go_enter Try.func48, Try.ntmps48
      go_wp2
      go_ret
      exact ⟨rfl, HB.out⟩
    · obtain rfl : [] = x := by rw [← HX.out, if_neg (by rw [← HLS.out]; omega)]
      go_enter Try.func48, Try.ntmps48
      go_wp2
      go_ret
      exact ⟨rfl, HB.out⟩
  · obtain rfl : [] = x := by rw [← HX.out, if_neg (by omega)]
    go_enter Try.func48, Try.ntmps48
    go_wp2
    go_ret
    exact ⟨rfl, HB.out⟩
/-- What a call that answers a number leaves. -/
def InB (w : World) (v : Int) (e : Ending) (w' : World) : Prop := e = .returned (.int .i64 v) ∧ Below w.heap.size w w'
set_option maxHeartbeats 2000000 in
theorem names_any (L : List (List UInt8)) (As Ag Af Ae Al : Option Addr) (cs ng cg nf cf ne ce cl : Nat) (l : List Int) (w : World) (h : RdS (fun _ => True) w As L.length 1 (strV L)) (hl : L.length ≤ 1000000) (h2 : RdS (fun _ => True) w Al l.length 1 (intV l)) (hll : l.length ≤ 1000000) (hw : ∀ n ∈ l, -9223372036854775808 ≤ n ∧ n ≤ 9223372036854775807) :
    Calls Try.prog 59 #[.agg #[.slice As L.length cs, .slice Ag ng cg, .slice Af nf cf, .slice Ae ne ce], .slice Al l.length cl] w (InB w (nmF L [] l)) := by
  have hmm := @run_makeMap Try.prog
  obtain ⟨v, hv⟩ : ∃ v, nmF L [] l = v := ⟨_, rfl⟩
  have HV0 : Hid (nmF L ((l.take 0).map (strF L)) (l.drop 0) = v) := hv
  rw [hv]
  have HR := Lib.hid h
  have HR2 := Lib.hid h2
  have HW := Lib.hid hw
  have hst := fun (wx : World) (hx : Below w.heap.size w wx) (n : Int) (h1 : -9223372036854775808 ≤ n) (h2 : n ≤ 9223372036854775807) => str_any L As Ag Af Ae cs ng cg nf cf ne ce n wx h1 h2 (HR.out.old hx (by omega)) hl
  obtain ⟨ls, hls⟩ : ∃ ls, ls = L.length := ⟨_, rfl⟩
  obtain ⟨ll, hl2⟩ : ∃ ll, ll = l.length := ⟨_, rfl⟩
  have HLL := Lib.hid hl2
  rw [← hls] at hst hl ⊢
  rw [← hl2] at hll ⊢
  have HSt := Lib.hid hst
  clear h h2 hw hv hls hl2 hst
  have HB0 : Hid (Below w.heap.size w ((w.alloc (.cells #[.slice As ls cs, .slice Ag ng cg, .slice Af nf cf, .slice Ae ne ce] 30)).alloc (.map #[] 0))) := ((Below.refl _ _).alloc (Nat.le_refl _) _).alloc (by simp) _
  have K0 : Hid (Blk ((w.alloc (.cells #[.slice As ls cs, .slice Ag ng cg, .slice Af nf cf, .slice Ae ne ce] 30)).alloc (.map #[] 0)) w.heap.size 30 #[.slice As ls cs, .slice Ag ng cg, .slice Af nf cf, .slice Ae ne ce]) := (Blk.new w 30 _).alloc _
  have M0 : Hid (((w.alloc (.cells #[.slice As ls cs, .slice Ag ng cg, .slice Af nf cf, .slice Ae ne ce] 30)).alloc (.map #[] 0)).ownsMap Try.prog 9 (unitElem (H := Unit)) (w.heap.size + 1) 0 (setS ((l.take 0).map (strF L)))) := by
    have := World.ownsMap_made (w.alloc (.cells #[.slice As ls cs, .slice Ag ng cg, .slice Af nf cf, .slice Ae ne ce] 30)) Try.prog 9 (unitElem (H := Unit))
    show World.ownsMap _ _ _ _ _ _ _
    rw [show setS ((l.take 0).map (strF L)) = .map [] from rfl]
    simpa using this
  go_enter Try.func59, Try.ntmps59
  go_wp2_with fail
  go_loopw [14] (fun s wr => ∃ (k : Nat), k ≤ ll ∧ s = .int .i64 (k : Int) ∧ Hid (nmF L ((l.take k).map (strF L)) (l.drop k) = v) ∧ Hid (wr.ownsMap Try.prog 9 (unitElem (H := Unit)) (w.heap.size + 1) k (setS ((l.take k).map (strF L)))) ∧ Hid (Below w.heap.size w wr) ∧ Hid (Blk wr w.heap.size 30 #[.slice As ls cs, .slice Ag ng cg, .slice Af nf cf, .slice Ae ne ce])) (fun s _ => ll - (intOf s).toNat)
  case atStart => exact ⟨0, Nat.zero_le _, rfl, HV0, M0, HB0, K0⟩
  case round =>
    clear HV0 M0 HB0 K0
    obtain ⟨k, hk, rfl, hV, hM, hB, hK⟩ := hrel
    by_cases hlt : k < ll
    · have hkl : k < l.length := by rw [← HLL.out]; exact hlt
      have hli : (k : Int) < (ll : Int) := by omega
      obtain ⟨b, o, rfl, _, hc⟩ := HR2.out.2 (by omega)
      have hcell : wr.cell? ⟨b, o + k, none⟩ = some (.int .i64 l[k]) := cell_old hB.out (World.block_lt_of_cell? w ⟨b, o + k, none⟩ (hc k _ (intV_get l k hkl))) (hc k _ (intV_get l k hkl))
      have hbl : b < wr.heap.size := World.block_lt_of_cell? wr ⟨b, o + k, none⟩ hcell
      obtain ⟨n, hn⟩ : ∃ n, n = l[k] := ⟨_, rfl⟩
      have hdr : l.drop k = n :: l.drop (k + 1) := by rw [hn]; exact List.drop_eq_getElem_cons hkl
      have htk : (l.take (k + 1)).map (strF L) = (l.take k).map (strF L) ++ [strF L n] := by rw [hn, List.take_succ_eq_append_getElem hkl, List.map_append]; rfl
      obtain ⟨n1, n2⟩ := HW.out n (by rw [hn]; exact List.getElem_mem hkl)
      rw [← hn] at hcell
      have hV2 := hV.out
      rw [hdr] at hV2
      simp only [nmF] at hV2
      have HTK := Lib.hid htk
      obtain ⟨x, hx⟩ : ∃ x, x = strF L n := ⟨_, rfl⟩
      rw [← hx] at hV2
      have hS := HSt.out wr hB.out n n1 n2
      rw [← hx] at hS
      have HV2 := Lib.hid hV2
      have HS := Lib.hid hS
      have HX := Lib.hid hx
      clear hc hn hdr htk hV2 hS hV n1 n2 hx
      obtain ⟨c0, c1, c2, c3⟩ := hK.out.c4
      have zw : w.heap.size < wr.heap.size := hK.out.lt
      go_wp2_with fail
      refine HS.out.mono ?_
      rintro e w2 ⟨rfl, hb2⟩
      have HB2 := Lib.hid (hB.out.trans (hb2.mono hB.out.size))
      have HK2 := Lib.hid (hK.out.old hb2)
      have HM2 := Lib.hid (ownsMap_old hM.out hb2)
      have hkey : x.length ≤ 40 → keyOf Try.prog 9 (.string (bs x)) = some (.string x) := fun h => by
        have := Go.WideMaps.keyOf_string_mk (P := Try.prog) (k := 9) (s := bs x) Try.underlying9 (by rw [bs_size]; unfold maxLen; omega)
        rwa [bs_data] at this
      have hsz := bs_size x
      clear hb2 c0 c1 c2 c3 zw hcell hbl HS hM hB hK
      obtain ⟨lx, hlx⟩ : ∃ lx, lx = x.length := ⟨_, rfl⟩
      rw [← hlx] at hsz hkey
      have HLX := Lib.hid hlx
      generalize hbx : bs x = bx at *
      clear hbx hlx
      by_cases h1 : lx < 1
      · obtain rfl : 1 = v := by rw [← HV2.out, if_pos (.inl (by have := HLX.out; omega))]
        have h1i : (lx : Int) < 1 := by omega
        go_wp2
        go_ret
        exact ⟨rfl, HB2.out⟩
      · have h1i : ¬ (lx : Int) < 1 := by omega
        by_cases h40 : 40 < lx
        · obtain rfl : 1 = v := by rw [← HV2.out, if_pos (.inr (by have := HLX.out; omega))]
          have h40i : (40 : Int) < (lx : Int) := by omega
          go_wp2
          go_ret
          exact ⟨rfl, HB2.out⟩
        · have h40i : ¬ (40 : Int) < (lx : Int) := by omega
          have hk9 := hkey (by omega)
          have hV3 := HV2.out
          rw [if_neg (by have := HLX.out; omega)] at hV3
          have HV3 := Lib.hid hV3
          clear hkey hV3 HV2
          have hhas := has_setS ((l.take k).map (strF L)) x
          obtain ⟨D, hD⟩ : ∃ D, D = setS ((l.take k).map (strF L)) := ⟨_, rfl⟩
          have HD := Lib.hid hD
          have HM3 : Hid (w2.ownsMap Try.prog 9 (unitElem (H := Unit)) (w.heap.size + 1) k D) := by rw [hD]; exact HM2.out
          rw [← hD] at hhas
          clear hD HM2
          cases hcon : ((l.take k).map (strF L)).contains x with
          | true =>
            rw [hcon] at hhas
            obtain rfl : 3 = v := by have := HV3.out; rw [hcon] at this; simpa using this
            clear hcon
            go_wp2_with (first
              | (at_lookup; refine wpList_lookup_own_unit _ rfl _ _ 124 rfl 9 125 law9 Try.underlying124 (zero125 _) (w.heap.size + 1) k _ rfl HM3.out _ _ rfl hk9 ?_)
              | go_in)
            go_ret
            exact ⟨rfl, HB2.out.alloc HB2.out.size _⟩
          | false =>
            rw [hcon] at hhas
            have hV4 : nmF L ((l.take (k + 1)).map (strF L)) (l.drop (k + 1)) = v := by
              have := HV3.out
              rw [hcon] at this
              rw [HTK.out, ← HX.out]
              simpa using this
            have HV4 := Lib.hid hV4
            clear hcon hV4
            go_wp2_with (first
              | (at_lookup; refine wpList_lookup_own_unit _ rfl _ _ 124 rfl 9 125 law9 Try.underlying124 (zero125 _) (w.heap.size + 1) k _ rfl HM3.out _ _ rfl hk9 ?_)
              | (at_mapUpdate; refine wpList_mapUpdate_own _ rfl _ _ _ 124 rfl 9 125 law9 Try.underlying124 (unitElem (H := Unit)) (w.heap.size + 1) k _ rfl (HM3.out.alloc _) (by unfold maxLen; omega) _ _ _ rfl rfl hk9 _ [] unitElem_mk ?_; intro w3 hown3 hgrow3)
              | go_in)
            have HM4 : Hid (w3.ownsMap Try.prog 9 (unitElem (H := Unit)) (w.heap.size + 1) (k + 1) (setS ((l.take (k + 1)).map (strF L)))) := by
              rw [HTK.out, setS_snoc, ← HX.out, ← HD.out]
              exact hown3
            have HB3 : Hid (Below w.heap.size w w3) := (HB2.out.alloc HB2.out.size (.cells #[] 125)).grown hgrow3 (by have := HB2.out.size; simp; omega) (fun j hj => by cases hj; omega)
            have HK3 : Hid (Blk w3 w.heap.size 30 #[.slice As ls cs, .slice Ag ng cg, .slice Af nf cf, .slice Ae ne ce]) := (HK2.out.alloc (.cells #[] 125)).grown hgrow3 (by simp)
            clear hown3 hgrow3
            go_roundw
            case rel => exact ⟨k + 1, by omega, by go_num, HV4, HM4, HB3, HK3⟩
            case measure => simp [intOf]; omega
    · obtain rfl : k = ll := by omega
      have hV2 := hV.out
      rw [List.drop_of_length_le (by rw [← HLL.out]; omega)] at hV2
      obtain rfl : 0 = v := hV2
      go_wp2
      go_ret
      exact ⟨rfl, hB.out⟩
end Go.Proofs.Ytpdebnecfknohaa
