
/-
  What Copy leaves, and that the row of its Globals is its own.
-/
import Derived.Test.YtpdebnecfknohaaCe
import Derived.Deep.DeepCutAuto
import Derived.Deep.CutBlock
import Derived.Deep.RegionHeld
namespace Go.Proofs.Ytpdebnecfknohaa
open Go.RowKit
set_option linter.unusedVariables false
set_option maxRecDepth 20000
set_option linter.unusedSimpArgs false

/-- What Copy leaves: a module that reads the same, in rows of the call's own. -/
def CopyPostG (w : World) (M : Md) (e : Ending) (w' : World) : Prop := ∃ As cs Ag cg Af cf Ae ce, e = .returned (.agg #[.slice As M.strs.length cs, .slice Ag M.globs.length cg, .slice Af M.funcs.length cf, .slice Ae M.ents.length ce]) ∧ MdR w' As Ag Af Ae M ∧ Below w.heap.size w w' ∧
  w'.ownsRow w.heap.size 3 1 (.slice Ag M.globs.length cg) M.globs.length (intV M.globs) ∧
  (0 < M.strs.length → ∃ q ds, As = some ⟨q, 0, none⟩ ∧ w.heap.size ≤ q ∧ Blk w' q 9 ds) ∧
  (0 < M.funcs.length → ∃ q ds, Af = some ⟨q, 0, none⟩ ∧ w.heap.size ≤ q ∧ Blk w' q 40 ds ∧ ∀ j, j < M.funcs.length → FMut w.heap.size w' q j)

set_option maxRecDepth 20000 in
set_option maxHeartbeats 4000000 in
theorem copyG_any (M : Md) (As Ag Af Ae : Option Addr) (cs cg cf ce : Nat) (w : World) (hM : M.Fit) (hs : ∀ f ∈ M.funcs, f.body.size ≤ 1000 ∧ f.body.wide ≤ 1000) (h : MdR w As Ag Af Ae M) :
    Calls Try.prog 49 #[.agg #[.slice As M.strs.length cs, .slice Ag M.globs.length cg, .slice Af M.funcs.length cf, .slice Ae M.ents.length ce]] w (CopyPostG w M) := by
  obtain ⟨m1, m2, m3, m4, m5⟩ := hM
  have HM := Lib.hid h
  have H5 := Lib.hid m5
  have HS := Lib.hid hs
  obtain ⟨ls, hls⟩ : ∃ ls, ls = M.strs.length := ⟨_, rfl⟩
  obtain ⟨lg, hlg⟩ : ∃ lg, lg = M.globs.length := ⟨_, rfl⟩
  obtain ⟨lf, hlf⟩ : ∃ lf, lf = M.funcs.length := ⟨_, rfl⟩
  obtain ⟨le, hle⟩ : ∃ le, le = M.ents.length := ⟨_, rfl⟩
  have HL : Hid (ls = M.strs.length ∧ lg = M.globs.length ∧ lf = M.funcs.length ∧ le = M.ents.length) := ⟨hls, hlg, hlf, hle⟩
  rw [← hls, ← hlg, ← hlf, ← hle]
  clear h hs m5
  obtain ⟨w1, hw1⟩ : ∃ w1, w1 = (w.alloc (.cells #[.slice As ls cs, .slice Ag lg cg, .slice Af lf cf, .slice Ae le ce] 30)).alloc (.cells #[.slice none 0 0, .slice none 0 0, .slice none 0 0, .slice none 0 0] 30) := ⟨_, rfl⟩
  have HB1 : Hid (Below w.heap.size w w1) := by rw [hw1]; exact ((Below.refl _ _).alloc (Nat.le_refl _) _).alloc (by simp) _
  have KX : Hid (Blk w1 w.heap.size 30 #[.slice As ls cs, .slice Ag lg cg, .slice Af lf cf, .slice Ae le ce]) := by rw [hw1]; exact (Blk.new w 30 _).alloc _
  have KR : Hid (Blk w1 (w.heap.size + 1) 30 #[.slice none 0 0, .slice none 0 0, .slice none 0 0, .slice none 0 0]) := by rw [hw1]; exact Blk.new' _ 30 _ _ (by simp)
  have h36 := fun W (hW : Below w1.heap.size w1 W) => cloneStr_any As cs M.strs W ((HM.out.strs.old HB1.out (by omega)).old hW (by omega)) (by omega)
  have h37g := fun W (hW : Below w1.heap.size w1 W) => cloneInt_any Ag cg M.globs W ((HM.out.globs.old HB1.out (by omega)).old hW (by omega)) (by omega)
  have h38 := fun W (hW : Below w1.heap.size w1 W) => cloneF_any (fun k => k < w.heap.size) Af cf M.funcs W ((HM.out.funcs.low.kept (S' := fun k => k < w.heap.size) (Below.keptS HB1.out) (fun k hk _ => hk.1)).kept (fun k hk _ => hW.block k (by have := HB1.out.size; omega)) (fun _ h _ => h)) (by omega)
  have h37e := fun W (hW : Below w1.heap.size w1 W) => cloneInt_any Ae ce M.ents W ((HM.out.ents.old HB1.out (by omega)).old hW (by omega)) (by omega)
  rw [← hls] at h36
  rw [← hlg] at h37g
  rw [← hlf] at h38
  rw [← hle] at h37e
  have H36 := Lib.hid h36
  have H37g := Lib.hid h37g
  have H38 := Lib.hid h38
  have H37e := Lib.hid h37e
  clear h36 h37g h38 h37e
  rw [← hls] at m1
  rw [← hlg] at m2
  rw [← hlf] at m3
  rw [← hle] at m4
  clear hls hlg hlf hle
  go_enter Try.func49, Try.ntmps49
  go_upto_region 1 with (fail)
  rw [← hw1]
  clear hw1
  obtain ⟨x0, x1, x2, x3⟩ := KX.out.c4
  have hz1 : w.heap.size < w1.heap.size := KX.out.lt
  go_cut [3] (fun s3 wz => ∃ q3, s3 = .pointer (some ⟨q3, 0, none⟩) ∧ Hid (CpCut w.heap.size w1 wz q3 ls lg lf le M))
  case first =>
    refine wp_region_held_drew (S := (fun W => Below w1.heap.size w1 W)) (by kernel_rfl) (Below.refl _ _).drew (fun hHeld => ?_)
    refine wpAnyH_take (i := 0) (oi := { dst := some 6, op := Op.fieldAddr 30 (Operand.tmp 1) 0, type := 0, pos := "module.go:96", after := #[], guard := none }) (v := ?_) rfl (by kernel_rfl) (by kernel_rfl) (by kernel_rfl) (fun _ _ _ h => h) (Or.inl ⟨by rfl, ?_⟩) (by assumption) ?_
    rotate_left
    · (intro W hSW; (try dsimp only at hSW); go_simp; first | done | with_reducible rfl)
    try simp only [Act.put, List.setIfInBounds_toArray, List.set_cons_zero, List.set_cons_succ]
    refine wpAnyH_take (i := 1) (oi := { dst := some 7, op := Op.load 26 (Operand.tmp 6), type := 26, pos := "module.go:96", after := #[{ on := 0, ground := Ground.data }], guard := none }) (v := ?_) rfl (by kernel_rfl) (by kernel_rfl) (by kernel_rfl) (fun _ _ _ h => h) (Or.inl ⟨by rfl, ?_⟩) (by assumption) ?_
    rotate_left
    · (intro W hSW; (try dsimp only at hSW); have q0 := cell_old hSW hz1 x0; have q1 := cell_old hSW hz1 x1; have q2 := cell_old hSW hz1 x2; have q3 := cell_old hSW hz1 x3; go_simp; first | done | with_reducible rfl)
    try simp only [Act.put, List.setIfInBounds_toArray, List.set_cons_zero, List.set_cons_succ]
    refine wpAnyH_take (i := 3) (oi := { dst := some 9, op := Op.fieldAddr 30 (Operand.tmp 1) 1, type := 0, pos := "module.go:96", after := #[], guard := none }) (v := ?_) rfl (by kernel_rfl) (by kernel_rfl) (by kernel_rfl) (fun _ _ _ h => h) (Or.inl ⟨by rfl, ?_⟩) (by assumption) ?_
    rotate_left
    · (intro W hSW; (try dsimp only at hSW); go_simp; first | done | with_reducible rfl)
    try simp only [Act.put, List.setIfInBounds_toArray, List.set_cons_zero, List.set_cons_succ]
    refine wpAnyH_take (i := 4) (oi := { dst := some 10, op := Op.load 27 (Operand.tmp 9), type := 27, pos := "module.go:96", after := #[{ on := 3, ground := Ground.data }], guard := none }) (v := ?_) rfl (by kernel_rfl) (by kernel_rfl) (by kernel_rfl) (fun _ _ _ h => h) (Or.inl ⟨by rfl, ?_⟩) (by assumption) ?_
    rotate_left
    · (intro W hSW; (try dsimp only at hSW); have q0 := cell_old hSW hz1 x0; have q1 := cell_old hSW hz1 x1; have q2 := cell_old hSW hz1 x2; have q3 := cell_old hSW hz1 x3; go_simp; first | done | with_reducible rfl)
    try simp only [Act.put, List.setIfInBounds_toArray, List.set_cons_zero, List.set_cons_succ]
    refine wpAnyH_take (i := 6) (oi := { dst := some 12, op := Op.fieldAddr 30 (Operand.tmp 1) 2, type := 0, pos := "module.go:96", after := #[], guard := none }) (v := ?_) rfl (by kernel_rfl) (by kernel_rfl) (by kernel_rfl) (fun _ _ _ h => h) (Or.inl ⟨by rfl, ?_⟩) (by assumption) ?_
    rotate_left
    · (intro W hSW; (try dsimp only at hSW); go_simp; first | done | with_reducible rfl)
    try simp only [Act.put, List.setIfInBounds_toArray, List.set_cons_zero, List.set_cons_succ]
    refine wpAnyH_take (i := 7) (oi := { dst := some 13, op := Op.load 28 (Operand.tmp 12), type := 28, pos := "module.go:96", after := #[{ on := 6, ground := Ground.data }], guard := none }) (v := ?_) rfl (by kernel_rfl) (by kernel_rfl) (by kernel_rfl) (fun _ _ _ h => h) (Or.inl ⟨by rfl, ?_⟩) (by assumption) ?_
    rotate_left
    · (intro W hSW; (try dsimp only at hSW); have q0 := cell_old hSW hz1 x0; have q1 := cell_old hSW hz1 x1; have q2 := cell_old hSW hz1 x2; have q3 := cell_old hSW hz1 x3; go_simp; first | done | with_reducible rfl)
    try simp only [Act.put, List.setIfInBounds_toArray, List.set_cons_zero, List.set_cons_succ]
    refine wpAnyH_take (i := 9) (oi := { dst := some 15, op := Op.fieldAddr 30 (Operand.tmp 1) 3, type := 0, pos := "module.go:96", after := #[], guard := none }) (v := ?_) rfl (by kernel_rfl) (by kernel_rfl) (by kernel_rfl) (fun _ _ _ h => h) (Or.inl ⟨by rfl, ?_⟩) (by assumption) ?_
    rotate_left
    · (intro W hSW; (try dsimp only at hSW); go_simp; first | done | with_reducible rfl)
    try simp only [Act.put, List.setIfInBounds_toArray, List.set_cons_zero, List.set_cons_succ]
    refine wpAnyH_take (i := 10) (oi := { dst := some 16, op := Op.load 27 (Operand.tmp 15), type := 27, pos := "module.go:96", after := #[{ on := 9, ground := Ground.data }], guard := none }) (v := ?_) rfl (by kernel_rfl) (by kernel_rfl) (by kernel_rfl) (fun _ _ _ h => h) (Or.inl ⟨by rfl, ?_⟩) (by assumption) ?_
    rotate_left
    · (intro W hSW; (try dsimp only at hSW); have q0 := cell_old hSW hz1 x0; have q1 := cell_old hSW hz1 x1; have q2 := cell_old hSW hz1 x2; have q3 := cell_old hSW hz1 x3; go_simp; first | done | with_reducible rfl)
    try simp only [Act.put, List.setIfInBounds_toArray, List.set_cons_zero, List.set_cons_succ]
    refine wpAnyH_ready (rs := [2, 13]) (by kernel_rfl) (by simp) ?_
    refine AllReadyH.cons (o := { dst := some 8, op := Op.call { callee := Callee.value (Operand.func 57), args := #[Operand.tmp 7], argTypes := #[26] }, type := 26, pos := "module.go:97", after := #[{ on := 1, ground := Ground.data }], guard := none }) rfl (fun KQ hKQ => ?_) (AllReadyH.cons (o := { dst := some 3, op := Op.alloc 30, type := 0, pos := "module.go:96", after := #[], guard := none }) rfl (fun KQ hKQ => ?_) AllReadyH.nil)
    · go_simp
      refine (H36.out _ hHeld).mono ?_
      rintro e v1 ⟨A1, c1, rfl, hO1, hb⟩
      have hO1 := own_mono hO1 hHeld.size
      have hS1 : Below w1.heap.size w1 v1 := hHeld.trans (hb.mono hHeld.size)
      refine hKQ.out _ _ hS1 (fun _ => ?_)
      clear hKQ KQ hb
      try simp only [Act.put, List.setIfInBounds_toArray, List.set_cons_zero, List.set_cons_succ]
      refine wpAnyH_ready (rs := [5, 13]) (by kernel_rfl) (by simp) ?_
      refine AllReadyH.cons (o := { dst := some 11, op := Op.call { callee := Callee.value (Operand.func 77), args := #[Operand.tmp 10], argTypes := #[27] }, type := 27, pos := "module.go:98", after := #[{ on := 4, ground := Ground.data }, { on := 2, ground := Ground.chain }], guard := none }) rfl (fun KQ hKQ => ?_) (AllReadyH.cons (o := { dst := some 3, op := Op.alloc 30, type := 0, pos := "module.go:96", after := #[], guard := none }) rfl (fun KQ hKQ => ?_) AllReadyH.nil)
      · go_simp
        refine (H37g.out _ hS1).mono ?_
        rintro e v2 ⟨A2, c2, rfl, hO2, hb⟩
        have hO1 := own_old hO1 hb
        have hO2 := own_mono hO2 hS1.size
        have hS2 : Below w1.heap.size w1 v2 := hS1.trans (hb.mono hS1.size)
        refine hKQ.out _ _ hS2 (fun _ => ?_)
        clear hKQ KQ hb
        try simp only [Act.put, List.setIfInBounds_toArray, List.set_cons_zero, List.set_cons_succ]
        refine wpAnyH_ready (rs := [8, 13]) (by kernel_rfl) (by simp) ?_
        refine AllReadyH.cons (o := { dst := some 14, op := Op.call { callee := Callee.value (Operand.func 78), args := #[Operand.tmp 13], argTypes := #[28] }, type := 28, pos := "module.go:99", after := #[{ on := 7, ground := Ground.data }, { on := 5, ground := Ground.chain }], guard := none }) rfl (fun KQ hKQ => ?_) (AllReadyH.cons (o := { dst := some 3, op := Op.alloc 30, type := 0, pos := "module.go:96", after := #[], guard := none }) rfl (fun KQ hKQ => ?_) AllReadyH.nil)
        · go_simp
          refine (H38.out _ hS2).mono ?_
          rintro e v3 ⟨A3, c3, rfl, ⟨csf, hO3, hFC⟩, hb⟩
          have hO1 := own_old hO1 hb
          have hO2 := own_old hO2 hb
          have hO3 := own_mono hO3 hS2.size
          have hFC := hFC.kept (fun k hk _ => hb.block k (by have := hS2.size; omega)) (fun _ h _ => h)
          have hS3 : Below w1.heap.size w1 v3 := hS2.trans (hb.mono hS2.size)
          refine hKQ.out _ _ hS3 (fun _ => ?_)
          clear hKQ KQ hb
          try simp only [Act.put, List.setIfInBounds_toArray, List.set_cons_zero, List.set_cons_succ]
          refine wpAnyH_ready (rs := [11, 13]) (by kernel_rfl) (by simp) ?_
          refine AllReadyH.cons (o := { dst := some 17, op := Op.call { callee := Callee.value (Operand.func 77), args := #[Operand.tmp 16], argTypes := #[27] }, type := 27, pos := "module.go:100", after := #[{ on := 10, ground := Ground.data }, { on := 8, ground := Ground.chain }], guard := none }) rfl (fun KQ hKQ => ?_) (AllReadyH.cons (o := { dst := some 3, op := Op.alloc 30, type := 0, pos := "module.go:96", after := #[], guard := none }) rfl (fun KQ hKQ => ?_) AllReadyH.nil)
          · go_simp
            refine (H37e.out _ hS3).mono ?_
            rintro e v4 ⟨A4, c4, rfl, hO4, hb⟩
            have hO1 := own_old hO1 hb
            have hO2 := own_old hO2 hb
            have hO3 := own_old hO3 hb
            have hO4 := own_mono hO4 hS3.size
            have hFC := hFC.kept (fun k hk _ => hb.block k (by have := hS3.size; omega)) (fun _ h _ => h)
            have hS4 : Below w1.heap.size w1 v4 := hS3.trans (hb.mono hS3.size)
            refine hKQ.out _ _ hS4 (fun _ => ?_)
            clear hKQ KQ hb
            try simp only [Act.put, List.setIfInBounds_toArray, List.set_cons_zero, List.set_cons_succ]
            refine wpAnyH_take (i := 12) (oi := { dst := some 18, op := Op.build 30 #[(0, Operand.tmp 8), (1, Operand.tmp 11), (2, Operand.tmp 14), (3, Operand.tmp 17)], type := 30, pos := "module.go:96", after := #[{ on := 2, ground := Ground.data }, { on := 5, ground := Ground.data }, { on := 8, ground := Ground.data }, { on := 11, ground := Ground.data }], guard := none }) (v := ?_) rfl (by kernel_rfl) (by kernel_rfl) (by kernel_rfl) (fun _ _ _ h => h) (Or.inl ⟨by rfl, ?_⟩) (by assumption) ?_
            rotate_left
            · (intro W hSW; (try dsimp only at hSW); go_simp; first | done | with_reducible rfl)
            try simp only [Act.put, List.setIfInBounds_toArray, List.set_cons_zero, List.set_cons_succ]
            refine wpAnyH_ready (rs := [13]) (by kernel_rfl) (by simp) ?_
            refine AllReadyH.cons (o := { dst := some 3, op := Op.alloc 30, type := 0, pos := "module.go:96", after := #[], guard := none }) rfl (fun KQ hKQ => ?_) AllReadyH.nil
            go_simp
            refine hKQ.out _ _ (Below.alloc hS4 hS4.size _) (fun _ => ?_)
            clear hKQ KQ
            try simp only [Act.put, List.setIfInBounds_toArray, List.set_cons_zero, List.set_cons_succ]
            refine wpAnyH_ready (rs := [14]) (by kernel_rfl) (by simp) ?_
            refine AllReadyH.cons (o := { dst := none, op := Op.store 30 (Operand.tmp 3) (Operand.tmp 18), type := 0, pos := "module.go:96", after := #[{ on := 13, ground := Ground.data }, { on := 12, ground := Ground.data }, { on := 11, ground := Ground.chain }, { on := 0, ground := Ground.phase }, { on := 1, ground := Ground.phase }, { on := 2, ground := Ground.phase }, { on := 3, ground := Ground.phase }, { on := 4, ground := Ground.phase }, { on := 5, ground := Ground.phase }, { on := 6, ground := Ground.phase }, { on := 7, ground := Ground.phase }, { on := 8, ground := Ground.phase }, { on := 9, ground := Ground.phase }, { on := 10, ground := Ground.phase }, { on := 11, ground := Ground.phase }, { on := 12, ground := Ground.phase }, { on := 13, ground := Ground.phase }], guard := none }) rfl (fun KQ hKQ => ?_) AllReadyH.nil
            go_simp
            refine hKQ.out _ _ (Below.alloc hS4 hS4.size _) (fun _ => ?_)
            clear hKQ KQ
            try simp only [Act.put, List.setIfInBounds_toArray, List.set_cons_zero, List.set_cons_succ]
            have HC := Lib.hid (cpcut_new hS4 hO1 hO2 hO3 hFC hO4)
            refine wpAnyH_done (by kernel_rfl) ?_ _
            clear hO1 hO2 hO3 hFC hO4
            go_wp2_with fail
            go_meet
            case rel => exact ⟨_, rfl, HC⟩
          · go_simp
            have hA : Below v3.heap.size v3 (v3.alloc (.cells #[.slice none 0 0, .slice none 0 0, .slice none 0 0, .slice none 0 0] 30)) := (Below.refl _ _).alloc (Nat.le_refl _) _
            have hSA : Below w1.heap.size w1 (v3.alloc (.cells #[.slice none 0 0, .slice none 0 0, .slice none 0 0, .slice none 0 0] 30)) := hS3.alloc hS3.size _
            have hq3 : w1.heap.size ≤ v3.heap.size := hS3.size
            have K3 : Blk (v3.alloc (.cells #[.slice none 0 0, .slice none 0 0, .slice none 0 0, .slice none 0 0] 30)) v3.heap.size 30 #[.slice none 0 0, .slice none 0 0, .slice none 0 0, .slice none 0 0] := Blk.new v3 30 _
            have hO1 := own_old hO1 hA
            have hO2 := own_old hO2 hA
            have hO3 := own_old hO3 hA
            have hFC := hFC.kept (Below.keptS hA) (fun _ h _ => h)
            refine hKQ.out _ _ hSA (fun _ => ?_)
            clear hKQ KQ hA
            try simp only [Act.put, List.setIfInBounds_toArray, List.set_cons_zero, List.set_cons_succ]
            refine wpAnyH_ready (rs := [11]) (by kernel_rfl) (by simp) ?_
            refine AllReadyH.cons (o := { dst := some 17, op := Op.call { callee := Callee.value (Operand.func 77), args := #[Operand.tmp 16], argTypes := #[27] }, type := 27, pos := "module.go:100", after := #[{ on := 10, ground := Ground.data }, { on := 8, ground := Ground.chain }], guard := none }) rfl (fun KQ hKQ => ?_) AllReadyH.nil
            go_simp
            refine (H37e.out _ hSA).mono ?_
            rintro e v4 ⟨A4, c4, rfl, hO4, hb⟩
            have hO1 := own_old hO1 hb
            have hO2 := own_old hO2 hb
            have hO3 := own_old hO3 hb
            have hO4 := own_mono hO4 hSA.size
            have hFC := hFC.kept (fun k hk _ => hb.block k (by have := hSA.size; omega)) (fun _ h _ => h)
            have K3 := K3.old hb
            have hS4 : Below w1.heap.size w1 v4 := hSA.trans (hb.mono hSA.size)
            refine hKQ.out _ _ hS4 (fun _ => ?_)
            clear hKQ KQ hb
            try simp only [Act.put, List.setIfInBounds_toArray, List.set_cons_zero, List.set_cons_succ]
            refine wpAnyH_take (i := 12) (oi := { dst := some 18, op := Op.build 30 #[(0, Operand.tmp 8), (1, Operand.tmp 11), (2, Operand.tmp 14), (3, Operand.tmp 17)], type := 30, pos := "module.go:96", after := #[{ on := 2, ground := Ground.data }, { on := 5, ground := Ground.data }, { on := 8, ground := Ground.data }, { on := 11, ground := Ground.data }], guard := none }) (v := ?_) rfl (by kernel_rfl) (by kernel_rfl) (by kernel_rfl) (fun _ _ _ h => h) (Or.inl ⟨by rfl, ?_⟩) (by assumption) ?_
            rotate_left
            · (intro W hSW; (try dsimp only at hSW); go_simp; first | done | with_reducible rfl)
            try simp only [Act.put, List.setIfInBounds_toArray, List.set_cons_zero, List.set_cons_succ]
            have hq3z : v3.heap.size < v4.heap.size := K3.lt
            obtain ⟨r0, r1, r2, r3⟩ := K3.c4
            have f0 := K3.frozen 0
            have f1 := K3.frozen 1
            have f2 := K3.frozen 2
            have f3 := K3.frozen 3
            refine wpAnyH_ready (rs := [14]) (by kernel_rfl) (by simp) ?_
            refine AllReadyH.cons (o := { dst := none, op := Op.store 30 (Operand.tmp 3) (Operand.tmp 18), type := 0, pos := "module.go:96", after := #[{ on := 13, ground := Ground.data }, { on := 12, ground := Ground.data }, { on := 11, ground := Ground.chain }, { on := 0, ground := Ground.phase }, { on := 1, ground := Ground.phase }, { on := 2, ground := Ground.phase }, { on := 3, ground := Ground.phase }, { on := 4, ground := Ground.phase }, { on := 5, ground := Ground.phase }, { on := 6, ground := Ground.phase }, { on := 7, ground := Ground.phase }, { on := 8, ground := Ground.phase }, { on := 9, ground := Ground.phase }, { on := 10, ground := Ground.phase }, { on := 11, ground := Ground.phase }, { on := 12, ground := Ground.phase }, { on := 13, ground := Ground.phase }], guard := none }) rfl (fun KQ hKQ => ?_) AllReadyH.nil
            go_simp
            refine hKQ.out _ _ (set4 hS4 hq3 _ _ _ _) (fun _ => ?_)
            clear hKQ KQ
            try simp only [Act.put, List.setIfInBounds_toArray, List.set_cons_zero, List.set_cons_succ]
            have HC := Lib.hid (cpcut_set (Nat.le_of_lt hz1) hS4 hq3 K3 rfl hO1 hO2 hO3 hFC hO4)
            refine wpAnyH_done (by kernel_rfl) ?_ _
            clear hO1 hO2 hO3 hFC hO4 r0 r1 r2 r3 f0 f1 f2 f3 K3
            go_wp2_with fail
            go_meet
            case rel => exact ⟨_, rfl, HC⟩
        · go_simp
          have hA : Below v2.heap.size v2 (v2.alloc (.cells #[.slice none 0 0, .slice none 0 0, .slice none 0 0, .slice none 0 0] 30)) := (Below.refl _ _).alloc (Nat.le_refl _) _
          have hSA : Below w1.heap.size w1 (v2.alloc (.cells #[.slice none 0 0, .slice none 0 0, .slice none 0 0, .slice none 0 0] 30)) := hS2.alloc hS2.size _
          have hq3 : w1.heap.size ≤ v2.heap.size := hS2.size
          have K3 : Blk (v2.alloc (.cells #[.slice none 0 0, .slice none 0 0, .slice none 0 0, .slice none 0 0] 30)) v2.heap.size 30 #[.slice none 0 0, .slice none 0 0, .slice none 0 0, .slice none 0 0] := Blk.new v2 30 _
          have hO1 := own_old hO1 hA
          have hO2 := own_old hO2 hA
          refine hKQ.out _ _ hSA (fun _ => ?_)
          clear hKQ KQ hA
          try simp only [Act.put, List.setIfInBounds_toArray, List.set_cons_zero, List.set_cons_succ]
          refine wpAnyH_ready (rs := [8]) (by kernel_rfl) (by simp) ?_
          refine AllReadyH.cons (o := { dst := some 14, op := Op.call { callee := Callee.value (Operand.func 78), args := #[Operand.tmp 13], argTypes := #[28] }, type := 28, pos := "module.go:99", after := #[{ on := 7, ground := Ground.data }, { on := 5, ground := Ground.chain }], guard := none }) rfl (fun KQ hKQ => ?_) AllReadyH.nil
          go_simp
          refine (H38.out _ hSA).mono ?_
          rintro e v3 ⟨A3, c3, rfl, ⟨csf, hO3, hFC⟩, hb⟩
          have hO1 := own_old hO1 hb
          have hO2 := own_old hO2 hb
          have hO3 := own_mono hO3 hSA.size
          have hFC := hFC.kept (fun k hk _ => hb.block k (by have := hSA.size; omega)) (fun _ h _ => h)
          have K3 := K3.old hb
          have hS3 : Below w1.heap.size w1 v3 := hSA.trans (hb.mono hSA.size)
          refine hKQ.out _ _ hS3 (fun _ => ?_)
          clear hKQ KQ hb
          try simp only [Act.put, List.setIfInBounds_toArray, List.set_cons_zero, List.set_cons_succ]
          refine wpAnyH_ready (rs := [11]) (by kernel_rfl) (by simp) ?_
          refine AllReadyH.cons (o := { dst := some 17, op := Op.call { callee := Callee.value (Operand.func 77), args := #[Operand.tmp 16], argTypes := #[27] }, type := 27, pos := "module.go:100", after := #[{ on := 10, ground := Ground.data }, { on := 8, ground := Ground.chain }], guard := none }) rfl (fun KQ hKQ => ?_) AllReadyH.nil
          go_simp
          refine (H37e.out _ hS3).mono ?_
          rintro e v4 ⟨A4, c4, rfl, hO4, hb⟩
          have hO1 := own_old hO1 hb
          have hO2 := own_old hO2 hb
          have hO3 := own_old hO3 hb
          have hO4 := own_mono hO4 hS3.size
          have hFC := hFC.kept (fun k hk _ => hb.block k (by have := hS3.size; omega)) (fun _ h _ => h)
          have K3 := K3.old hb
          have hS4 : Below w1.heap.size w1 v4 := hS3.trans (hb.mono hS3.size)
          refine hKQ.out _ _ hS4 (fun _ => ?_)
          clear hKQ KQ hb
          try simp only [Act.put, List.setIfInBounds_toArray, List.set_cons_zero, List.set_cons_succ]
          refine wpAnyH_take (i := 12) (oi := { dst := some 18, op := Op.build 30 #[(0, Operand.tmp 8), (1, Operand.tmp 11), (2, Operand.tmp 14), (3, Operand.tmp 17)], type := 30, pos := "module.go:96", after := #[{ on := 2, ground := Ground.data }, { on := 5, ground := Ground.data }, { on := 8, ground := Ground.data }, { on := 11, ground := Ground.data }], guard := none }) (v := ?_) rfl (by kernel_rfl) (by kernel_rfl) (by kernel_rfl) (fun _ _ _ h => h) (Or.inl ⟨by rfl, ?_⟩) (by assumption) ?_
          rotate_left
          · (intro W hSW; (try dsimp only at hSW); go_simp; first | done | with_reducible rfl)
          try simp only [Act.put, List.setIfInBounds_toArray, List.set_cons_zero, List.set_cons_succ]
          have hq3z : v2.heap.size < v4.heap.size := K3.lt
          obtain ⟨r0, r1, r2, r3⟩ := K3.c4
          have f0 := K3.frozen 0
          have f1 := K3.frozen 1
          have f2 := K3.frozen 2
          have f3 := K3.frozen 3
          refine wpAnyH_ready (rs := [14]) (by kernel_rfl) (by simp) ?_
          refine AllReadyH.cons (o := { dst := none, op := Op.store 30 (Operand.tmp 3) (Operand.tmp 18), type := 0, pos := "module.go:96", after := #[{ on := 13, ground := Ground.data }, { on := 12, ground := Ground.data }, { on := 11, ground := Ground.chain }, { on := 0, ground := Ground.phase }, { on := 1, ground := Ground.phase }, { on := 2, ground := Ground.phase }, { on := 3, ground := Ground.phase }, { on := 4, ground := Ground.phase }, { on := 5, ground := Ground.phase }, { on := 6, ground := Ground.phase }, { on := 7, ground := Ground.phase }, { on := 8, ground := Ground.phase }, { on := 9, ground := Ground.phase }, { on := 10, ground := Ground.phase }, { on := 11, ground := Ground.phase }, { on := 12, ground := Ground.phase }, { on := 13, ground := Ground.phase }], guard := none }) rfl (fun KQ hKQ => ?_) AllReadyH.nil
          go_simp
          refine hKQ.out _ _ (set4 hS4 hq3 _ _ _ _) (fun _ => ?_)
          clear hKQ KQ
          try simp only [Act.put, List.setIfInBounds_toArray, List.set_cons_zero, List.set_cons_succ]
          have HC := Lib.hid (cpcut_set (Nat.le_of_lt hz1) hS4 hq3 K3 rfl hO1 hO2 hO3 hFC hO4)
          refine wpAnyH_done (by kernel_rfl) ?_ _
          clear hO1 hO2 hO3 hFC hO4 r0 r1 r2 r3 f0 f1 f2 f3 K3
          go_wp2_with fail
          go_meet
          case rel => exact ⟨_, rfl, HC⟩
      · go_simp
        have hA : Below v1.heap.size v1 (v1.alloc (.cells #[.slice none 0 0, .slice none 0 0, .slice none 0 0, .slice none 0 0] 30)) := (Below.refl _ _).alloc (Nat.le_refl _) _
        have hSA : Below w1.heap.size w1 (v1.alloc (.cells #[.slice none 0 0, .slice none 0 0, .slice none 0 0, .slice none 0 0] 30)) := hS1.alloc hS1.size _
        have hq3 : w1.heap.size ≤ v1.heap.size := hS1.size
        have K3 : Blk (v1.alloc (.cells #[.slice none 0 0, .slice none 0 0, .slice none 0 0, .slice none 0 0] 30)) v1.heap.size 30 #[.slice none 0 0, .slice none 0 0, .slice none 0 0, .slice none 0 0] := Blk.new v1 30 _
        have hO1 := own_old hO1 hA
        refine hKQ.out _ _ hSA (fun _ => ?_)
        clear hKQ KQ hA
        try simp only [Act.put, List.setIfInBounds_toArray, List.set_cons_zero, List.set_cons_succ]
        refine wpAnyH_ready (rs := [5]) (by kernel_rfl) (by simp) ?_
        refine AllReadyH.cons (o := { dst := some 11, op := Op.call { callee := Callee.value (Operand.func 77), args := #[Operand.tmp 10], argTypes := #[27] }, type := 27, pos := "module.go:98", after := #[{ on := 4, ground := Ground.data }, { on := 2, ground := Ground.chain }], guard := none }) rfl (fun KQ hKQ => ?_) AllReadyH.nil
        go_simp
        refine (H37g.out _ hSA).mono ?_
        rintro e v2 ⟨A2, c2, rfl, hO2, hb⟩
        have hO1 := own_old hO1 hb
        have hO2 := own_mono hO2 hSA.size
        have K3 := K3.old hb
        have hS2 : Below w1.heap.size w1 v2 := hSA.trans (hb.mono hSA.size)
        refine hKQ.out _ _ hS2 (fun _ => ?_)
        clear hKQ KQ hb
        try simp only [Act.put, List.setIfInBounds_toArray, List.set_cons_zero, List.set_cons_succ]
        refine wpAnyH_ready (rs := [8]) (by kernel_rfl) (by simp) ?_
        refine AllReadyH.cons (o := { dst := some 14, op := Op.call { callee := Callee.value (Operand.func 78), args := #[Operand.tmp 13], argTypes := #[28] }, type := 28, pos := "module.go:99", after := #[{ on := 7, ground := Ground.data }, { on := 5, ground := Ground.chain }], guard := none }) rfl (fun KQ hKQ => ?_) AllReadyH.nil
        go_simp
        refine (H38.out _ hS2).mono ?_
        rintro e v3 ⟨A3, c3, rfl, ⟨csf, hO3, hFC⟩, hb⟩
        have hO1 := own_old hO1 hb
        have hO2 := own_old hO2 hb
        have hO3 := own_mono hO3 hS2.size
        have hFC := hFC.kept (fun k hk _ => hb.block k (by have := hS2.size; omega)) (fun _ h _ => h)
        have K3 := K3.old hb
        have hS3 : Below w1.heap.size w1 v3 := hS2.trans (hb.mono hS2.size)
        refine hKQ.out _ _ hS3 (fun _ => ?_)
        clear hKQ KQ hb
        try simp only [Act.put, List.setIfInBounds_toArray, List.set_cons_zero, List.set_cons_succ]
        refine wpAnyH_ready (rs := [11]) (by kernel_rfl) (by simp) ?_
        refine AllReadyH.cons (o := { dst := some 17, op := Op.call { callee := Callee.value (Operand.func 77), args := #[Operand.tmp 16], argTypes := #[27] }, type := 27, pos := "module.go:100", after := #[{ on := 10, ground := Ground.data }, { on := 8, ground := Ground.chain }], guard := none }) rfl (fun KQ hKQ => ?_) AllReadyH.nil
        go_simp
        refine (H37e.out _ hS3).mono ?_
        rintro e v4 ⟨A4, c4, rfl, hO4, hb⟩
        have hO1 := own_old hO1 hb
        have hO2 := own_old hO2 hb
        have hO3 := own_old hO3 hb
        have hO4 := own_mono hO4 hS3.size
        have hFC := hFC.kept (fun k hk _ => hb.block k (by have := hS3.size; omega)) (fun _ h _ => h)
        have K3 := K3.old hb
        have hS4 : Below w1.heap.size w1 v4 := hS3.trans (hb.mono hS3.size)
        refine hKQ.out _ _ hS4 (fun _ => ?_)
        clear hKQ KQ hb
        try simp only [Act.put, List.setIfInBounds_toArray, List.set_cons_zero, List.set_cons_succ]
        refine wpAnyH_take (i := 12) (oi := { dst := some 18, op := Op.build 30 #[(0, Operand.tmp 8), (1, Operand.tmp 11), (2, Operand.tmp 14), (3, Operand.tmp 17)], type := 30, pos := "module.go:96", after := #[{ on := 2, ground := Ground.data }, { on := 5, ground := Ground.data }, { on := 8, ground := Ground.data }, { on := 11, ground := Ground.data }], guard := none }) (v := ?_) rfl (by kernel_rfl) (by kernel_rfl) (by kernel_rfl) (fun _ _ _ h => h) (Or.inl ⟨by rfl, ?_⟩) (by assumption) ?_
        rotate_left
        · (intro W hSW; (try dsimp only at hSW); go_simp; first | done | with_reducible rfl)
        try simp only [Act.put, List.setIfInBounds_toArray, List.set_cons_zero, List.set_cons_succ]
        have hq3z : v1.heap.size < v4.heap.size := K3.lt
        obtain ⟨r0, r1, r2, r3⟩ := K3.c4
        have f0 := K3.frozen 0
        have f1 := K3.frozen 1
        have f2 := K3.frozen 2
        have f3 := K3.frozen 3
        refine wpAnyH_ready (rs := [14]) (by kernel_rfl) (by simp) ?_
        refine AllReadyH.cons (o := { dst := none, op := Op.store 30 (Operand.tmp 3) (Operand.tmp 18), type := 0, pos := "module.go:96", after := #[{ on := 13, ground := Ground.data }, { on := 12, ground := Ground.data }, { on := 11, ground := Ground.chain }, { on := 0, ground := Ground.phase }, { on := 1, ground := Ground.phase }, { on := 2, ground := Ground.phase }, { on := 3, ground := Ground.phase }, { on := 4, ground := Ground.phase }, { on := 5, ground := Ground.phase }, { on := 6, ground := Ground.phase }, { on := 7, ground := Ground.phase }, { on := 8, ground := Ground.phase }, { on := 9, ground := Ground.phase }, { on := 10, ground := Ground.phase }, { on := 11, ground := Ground.phase }, { on := 12, ground := Ground.phase }, { on := 13, ground := Ground.phase }], guard := none }) rfl (fun KQ hKQ => ?_) AllReadyH.nil
        go_simp
        refine hKQ.out _ _ (set4 hS4 hq3 _ _ _ _) (fun _ => ?_)
        clear hKQ KQ
        try simp only [Act.put, List.setIfInBounds_toArray, List.set_cons_zero, List.set_cons_succ]
        have HC := Lib.hid (cpcut_set (Nat.le_of_lt hz1) hS4 hq3 K3 rfl hO1 hO2 hO3 hFC hO4)
        refine wpAnyH_done (by kernel_rfl) ?_ _
        clear hO1 hO2 hO3 hFC hO4 r0 r1 r2 r3 f0 f1 f2 f3 K3
        go_wp2_with fail
        go_meet
        case rel => exact ⟨_, rfl, HC⟩
    · go_simp
      have hA : Below w1.drew.heap.size w1.drew (w1.drew.alloc (.cells #[.slice none 0 0, .slice none 0 0, .slice none 0 0, .slice none 0 0] 30)) := (Below.refl _ _).alloc (Nat.le_refl _) _
      have hSA : Below w1.heap.size w1 (w1.drew.alloc (.cells #[.slice none 0 0, .slice none 0 0, .slice none 0 0, .slice none 0 0] 30)) := hHeld.alloc hHeld.size _
      have hq3 : w1.heap.size ≤ w1.heap.size := hHeld.size
      have K3 : Blk (w1.drew.alloc (.cells #[.slice none 0 0, .slice none 0 0, .slice none 0 0, .slice none 0 0] 30)) w1.heap.size 30 #[.slice none 0 0, .slice none 0 0, .slice none 0 0, .slice none 0 0] := Blk.new w1.drew 30 _
      refine hKQ.out _ _ hSA (fun _ => ?_)
      clear hKQ KQ hA
      try simp only [Act.put, List.setIfInBounds_toArray, List.set_cons_zero, List.set_cons_succ]
      refine wpAnyH_ready (rs := [2]) (by kernel_rfl) (by simp) ?_
      refine AllReadyH.cons (o := { dst := some 8, op := Op.call { callee := Callee.value (Operand.func 57), args := #[Operand.tmp 7], argTypes := #[26] }, type := 26, pos := "module.go:97", after := #[{ on := 1, ground := Ground.data }], guard := none }) rfl (fun KQ hKQ => ?_) AllReadyH.nil
      go_simp
      refine (H36.out _ hSA).mono ?_
      rintro e v1 ⟨A1, c1, rfl, hO1, hb⟩
      have hO1 := own_mono hO1 hSA.size
      have K3 := K3.old hb
      have hS1 : Below w1.heap.size w1 v1 := hSA.trans (hb.mono hSA.size)
      refine hKQ.out _ _ hS1 (fun _ => ?_)
      clear hKQ KQ hb
      try simp only [Act.put, List.setIfInBounds_toArray, List.set_cons_zero, List.set_cons_succ]
      refine wpAnyH_ready (rs := [5]) (by kernel_rfl) (by simp) ?_
      refine AllReadyH.cons (o := { dst := some 11, op := Op.call { callee := Callee.value (Operand.func 77), args := #[Operand.tmp 10], argTypes := #[27] }, type := 27, pos := "module.go:98", after := #[{ on := 4, ground := Ground.data }, { on := 2, ground := Ground.chain }], guard := none }) rfl (fun KQ hKQ => ?_) AllReadyH.nil
      go_simp
      refine (H37g.out _ hS1).mono ?_
      rintro e v2 ⟨A2, c2, rfl, hO2, hb⟩
      have hO1 := own_old hO1 hb
      have hO2 := own_mono hO2 hS1.size
      have K3 := K3.old hb
      have hS2 : Below w1.heap.size w1 v2 := hS1.trans (hb.mono hS1.size)
      refine hKQ.out _ _ hS2 (fun _ => ?_)
      clear hKQ KQ hb
      try simp only [Act.put, List.setIfInBounds_toArray, List.set_cons_zero, List.set_cons_succ]
      refine wpAnyH_ready (rs := [8]) (by kernel_rfl) (by simp) ?_
      refine AllReadyH.cons (o := { dst := some 14, op := Op.call { callee := Callee.value (Operand.func 78), args := #[Operand.tmp 13], argTypes := #[28] }, type := 28, pos := "module.go:99", after := #[{ on := 7, ground := Ground.data }, { on := 5, ground := Ground.chain }], guard := none }) rfl (fun KQ hKQ => ?_) AllReadyH.nil
      go_simp
      refine (H38.out _ hS2).mono ?_
      rintro e v3 ⟨A3, c3, rfl, ⟨csf, hO3, hFC⟩, hb⟩
      have hO1 := own_old hO1 hb
      have hO2 := own_old hO2 hb
      have hO3 := own_mono hO3 hS2.size
      have hFC := hFC.kept (fun k hk _ => hb.block k (by have := hS2.size; omega)) (fun _ h _ => h)
      have K3 := K3.old hb
      have hS3 : Below w1.heap.size w1 v3 := hS2.trans (hb.mono hS2.size)
      refine hKQ.out _ _ hS3 (fun _ => ?_)
      clear hKQ KQ hb
      try simp only [Act.put, List.setIfInBounds_toArray, List.set_cons_zero, List.set_cons_succ]
      refine wpAnyH_ready (rs := [11]) (by kernel_rfl) (by simp) ?_
      refine AllReadyH.cons (o := { dst := some 17, op := Op.call { callee := Callee.value (Operand.func 77), args := #[Operand.tmp 16], argTypes := #[27] }, type := 27, pos := "module.go:100", after := #[{ on := 10, ground := Ground.data }, { on := 8, ground := Ground.chain }], guard := none }) rfl (fun KQ hKQ => ?_) AllReadyH.nil
      go_simp
      refine (H37e.out _ hS3).mono ?_
      rintro e v4 ⟨A4, c4, rfl, hO4, hb⟩
      have hO1 := own_old hO1 hb
      have hO2 := own_old hO2 hb
      have hO3 := own_old hO3 hb
      have hO4 := own_mono hO4 hS3.size
      have hFC := hFC.kept (fun k hk _ => hb.block k (by have := hS3.size; omega)) (fun _ h _ => h)
      have K3 := K3.old hb
      have hS4 : Below w1.heap.size w1 v4 := hS3.trans (hb.mono hS3.size)
      refine hKQ.out _ _ hS4 (fun _ => ?_)
      clear hKQ KQ hb
      try simp only [Act.put, List.setIfInBounds_toArray, List.set_cons_zero, List.set_cons_succ]
      refine wpAnyH_take (i := 12) (oi := { dst := some 18, op := Op.build 30 #[(0, Operand.tmp 8), (1, Operand.tmp 11), (2, Operand.tmp 14), (3, Operand.tmp 17)], type := 30, pos := "module.go:96", after := #[{ on := 2, ground := Ground.data }, { on := 5, ground := Ground.data }, { on := 8, ground := Ground.data }, { on := 11, ground := Ground.data }], guard := none }) (v := ?_) rfl (by kernel_rfl) (by kernel_rfl) (by kernel_rfl) (fun _ _ _ h => h) (Or.inl ⟨by rfl, ?_⟩) (by assumption) ?_
      rotate_left
      · (intro W hSW; (try dsimp only at hSW); go_simp; first | done | with_reducible rfl)
      try simp only [Act.put, List.setIfInBounds_toArray, List.set_cons_zero, List.set_cons_succ]
      have hq3z : w1.heap.size < v4.heap.size := K3.lt
      obtain ⟨r0, r1, r2, r3⟩ := K3.c4
      have f0 := K3.frozen 0
      have f1 := K3.frozen 1
      have f2 := K3.frozen 2
      have f3 := K3.frozen 3
      refine wpAnyH_ready (rs := [14]) (by kernel_rfl) (by simp) ?_
      refine AllReadyH.cons (o := { dst := none, op := Op.store 30 (Operand.tmp 3) (Operand.tmp 18), type := 0, pos := "module.go:96", after := #[{ on := 13, ground := Ground.data }, { on := 12, ground := Ground.data }, { on := 11, ground := Ground.chain }, { on := 0, ground := Ground.phase }, { on := 1, ground := Ground.phase }, { on := 2, ground := Ground.phase }, { on := 3, ground := Ground.phase }, { on := 4, ground := Ground.phase }, { on := 5, ground := Ground.phase }, { on := 6, ground := Ground.phase }, { on := 7, ground := Ground.phase }, { on := 8, ground := Ground.phase }, { on := 9, ground := Ground.phase }, { on := 10, ground := Ground.phase }, { on := 11, ground := Ground.phase }, { on := 12, ground := Ground.phase }, { on := 13, ground := Ground.phase }], guard := none }) rfl (fun KQ hKQ => ?_) AllReadyH.nil
      go_simp
      refine hKQ.out _ _ (set4 hS4 hq3 _ _ _ _) (fun _ => ?_)
      clear hKQ KQ
      try simp only [Act.put, List.setIfInBounds_toArray, List.set_cons_zero, List.set_cons_succ]
      have HC := Lib.hid (cpcut_set (Nat.le_of_lt hz1) hS4 hq3 K3 rfl hO1 hO2 hO3 hFC hO4)
      refine wpAnyH_done (by kernel_rfl) ?_ _
      clear hO1 hO2 hO3 hFC hO4 r0 r1 r2 r3 f0 f1 f2 f3 K3
      go_wp2_with fail
      go_meet
      case rel => exact ⟨_, rfl, HC⟩
  case rest =>
    obtain ⟨q3, rfl, hC⟩ := hcut
    obtain ⟨A1, c1, A2, c2, A3, c3, A4, c4, hb, hq3, K3, hO1, hO2, ⟨csf, hO3, hFC⟩, hO4⟩ := hC.out
    have hF0 : 0 < lf → ∃ qf, A3 = some ⟨qf, 0, none⟩ ∧ CpF (fun k => some k ≠ (Value.slice A3 lf c3).ownBlock ∧ k ≠ q3 ∧ k ≠ w.heap.size + 1) w1.heap.size wc qf M.funcs 0 := fun hp => CpF.first HL.out.2.2.1 hO3 hFC (fun k hk => ⟨fun e => by have := own_geB hO3 k e; omega, by omega, by omega⟩) hp
    obtain ⟨qf, hqf⟩ : ∃ qf, 0 < lf → A3 = some ⟨qf, 0, none⟩ ∧ CpF (fun k => k ≠ qf ∧ k ≠ q3 ∧ k ≠ w.heap.size + 1) w1.heap.size wc qf M.funcs 0 := by
      rcases Nat.eq_zero_or_pos lf with h0 | h0
      · exact ⟨0, fun h => by omega⟩
      · obtain ⟨qf, hA, hF⟩ := hF0 h0
        refine ⟨qf, fun _ => ⟨hA, ?_⟩⟩
        have e : (fun k => some k ≠ (Value.slice A3 lf c3).ownBlock ∧ k ≠ q3 ∧ k ≠ w.heap.size + 1) = (fun k => k ≠ qf ∧ k ≠ q3 ∧ k ≠ w.heap.size + 1) := by
          funext k
          rw [hA]
          simp [Value.ownBlock]
        rw [← e]
        exact hF
    have HI0 : Hid (Below w1.heap.size w1 wc ∧ Blk wc q3 30 #[.slice A1 ls c1, .slice A2 lg c2, .slice A3 lf c3, .slice A4 le c4] ∧ wc.ownsRow w1.heap.size 9 1 (.slice A1 ls c1) ls (strV M.strs) ∧ wc.ownsRow w1.heap.size 3 1 (.slice A2 lg c2) lg (intV M.globs) ∧ wc.ownsRow w1.heap.size 3 1 (.slice A4 le c4) le (intV M.ents) ∧ (0 < lf → A3 = some ⟨qf, 0, none⟩ ∧ CpF (fun k => k ≠ qf ∧ k ≠ q3 ∧ k ≠ w.heap.size + 1) w1.heap.size wc qf M.funcs 0)) := ⟨hb, K3, hO1, hO2, hO4, hqf⟩
    have HQ3 := Lib.hid hq3
    clear hb hO1 hO2 hO3 hFC hO4 hF0 hqf hC x0 x1 x2 x3 H36 H37g H38 H37e
    obtain ⟨k0, k1, k2, k3⟩ := K3.c4
    have zq3 : q3 < wc.heap.size := K3.lt
    go_upto_block 0 with (fail)
    clear k0 k1 k2 k3 zq3 K3
    go_wp2_with fail
    go_loopw [22] (fun s22 wr => ∃ (i : Nat), i ≤ lf ∧ s22 = .int .i64 (i : Int) ∧ Hid (Below w1.heap.size w1 wr ∧ Blk wr q3 30 #[.slice A1 ls c1, .slice A2 lg c2, .slice A3 lf c3, .slice A4 le c4] ∧ wr.ownsRow w1.heap.size 9 1 (.slice A1 ls c1) ls (strV M.strs) ∧ wr.ownsRow w1.heap.size 3 1 (.slice A2 lg c2) lg (intV M.globs) ∧ wr.ownsRow w1.heap.size 3 1 (.slice A4 le c4) le (intV M.ents) ∧ (0 < lf → A3 = some ⟨qf, 0, none⟩ ∧ CpF (fun k => k ≠ qf ∧ k ≠ q3 ∧ k ≠ w.heap.size + 1) w1.heap.size wr qf M.funcs i))) (fun s22 _ => lf - (intOf s22).toNat)
    case atStart => exact ⟨0, Nat.zero_le _, rfl, HI0⟩
    case round =>
      clear HI0
      obtain ⟨i, hi, rfl, hI⟩ := hrel
      have HBr := Lib.hid hI.out.1
      by_cases hlt : i < lf
      · obtain ⟨rfl, hCF⟩ := hI.out.2.2.2.2.2 (by omega)
        have hiM : i < M.funcs.length := by rw [← HL.out.2.2.1]; exact hlt
        obtain ⟨csr, hRow, hRsz⟩ := hCF.row
        obtain ⟨fs, ⟨Al, cl, At, ct, Ab, cb, rfl, r1, r2, r3⟩, hc⟩ := hCF.fns i hiM
        have d0 := hc 0 _ rfl
        have d1 := hc 1 _ rfl
        have d2 := hc 2 _ rfl
        have d3 := hc 3 _ rfl
        have d4 := hc 4 _ rfl
        simp only [Nat.add_zero] at d0
        have HD : Hid (wr.cell? ⟨qf, i * 5, none⟩ = some (.int .i64 M.funcs[i].name) ∧ wr.cell? ⟨qf, i * 5 + 1, none⟩ = some (.int .i64 M.funcs[i].params) ∧ wr.cell? ⟨qf, i * 5 + 2, none⟩ = some (.slice Al M.funcs[i].locals.length cl) ∧ wr.cell? ⟨qf, i * 5 + 3, none⟩ = some (.slice At M.funcs[i].sites.length ct) ∧ wr.cell? ⟨qf, i * 5 + 4, none⟩ = some (.slice Ab M.funcs[i].body.len cb)) := ⟨d0, d1, d2, d3, d4⟩
        have HCF := Lib.hid hCF
        have HRow := Lib.hid hRow
        obtain ⟨f1, f2, f3, f4⟩ := H5.out _ (List.getElem_mem hiM)
        obtain ⟨s1, s2⟩ := HS.out _ (List.getElem_mem hiM)
        have hD1 := fun wx (hx : Below wr.heap.size wr wx) => cloneInt_any Al cl M.funcs[i].locals wx ((r1.old hx (by omega)).below (fun _ _ => trivial)) f1
        have hD2 := fun wx (hx : Below wr.heap.size wr wx) => cloneInt_any At ct M.funcs[i].sites wx ((r2.old hx (by omega)).below (fun _ _ => trivial)) f2
        have hD3 := fun wx (hx : Below wr.heap.size wr wx) => copyB_any (fun k => k < wr.heap.size ∧ (k ≠ qf ∧ k ≠ q3 ∧ k ≠ w.heap.size + 1)) Ab cb M.funcs[i].body wx (r3.low.kept (fun k hk _ => hx.block k hk.1) (fun _ h _ => h)) (by omega) (by omega)
        have HIM := Lib.hid hiM
        generalize hf : M.funcs[i] = f at *
        obtain ⟨fn, hfn⟩ : ∃ x, x = f.name := ⟨_, rfl⟩
        obtain ⟨fp, hfp⟩ : ∃ x, x = f.params := ⟨_, rfl⟩
        obtain ⟨ll, hll⟩ : ∃ x, x = f.locals.length := ⟨_, rfl⟩
        obtain ⟨lt, hlt2⟩ : ∃ x, x = f.sites.length := ⟨_, rfl⟩
        obtain ⟨lb, hlb⟩ : ∃ x, x = f.body.len := ⟨_, rfl⟩
        rw [← hll] at hD1 d2
        rw [← hlt2] at hD2 d3
        rw [← hlb] at hD3 d4
        rw [← hfn] at d0
        rw [← hfp] at d1
        have HF : Hid (M.funcs[i] = f) := hf
        have HFl : Hid (fn = f.name ∧ fp = f.params ∧ ll = f.locals.length ∧ lt = f.sites.length ∧ lb = f.body.len) := ⟨hfn, hfp, hll, hlt2, hlb⟩
        have HD1 := Lib.hid hD1
        have HD2 := Lib.hid hD2
        have HD3 := Lib.hid hD3
        have zqf : qf < wr.heap.size := hRow.lt
        have hil : (i : Int) < (lf : Int) := by omega
        have HBA : Hid (Below wr.heap.size wr (wr.alloc (.cells #[.int .i64 fn, .int .i64 fp, .slice Al ll cl, .slice At lt ct, .slice Ab lb cb] 40))) := (Below.refl _ _).alloc (Nat.le_refl _) _
        have KB : Hid (Blk (wr.alloc (.cells #[.int .i64 fn, .int .i64 fp, .slice Al ll cl, .slice At lt ct, .slice Ab lb cb] 40)) wr.heap.size 40 #[.int .i64 fn, .int .i64 fp, .slice Al ll cl, .slice At lt ct, .slice Ab lb cb]) := Blk.new wr 40 _
        clear hCF hc hRow r1 r2 r3 hD1 hD2 hD3 hf hfn hfp hll hlt2 hlb f1 f2 f3 f4 s1 s2
        go_upto_region 5 with (fail)
        obtain ⟨g, hgd⟩ : ∃ g, g = wr.heap.size := ⟨_, rfl⟩
        rw [← hgd] at KB ⊢
        generalize wr.alloc (.cells #[.int .i64 fn, .int .i64 fp, .slice Al ll cl, .slice At lt ct, .slice Ab lb cb] 40) = wa at *
        have HGD := Lib.hid hgd
        clear d0 d1 d2 d3 d4 hgd zqf
        obtain ⟨c0, c1', c2', c3', c4'⟩ := KB.out.c5
        have zg : g < wa.heap.size := KB.out.lt
        go_wp2_with fail
        refine (HD1.out wa HBA.out).mono ?_
        rintro e w2 ⟨B1, b1, rfl, hP1, hb2⟩
        have HB2 := Lib.hid ((HBA.out.trans (hb2.mono HBA.out.size)).setCell (p := ⟨g, 2, none⟩) (by rw [HGD.out]; exact Nat.le_refl _) (.slice B1 ll b1))
        have KB2 := Lib.hid (KB.out.old hb2)
        have KB2' : Hid (Blk (w2.setCell ⟨g, 2, none⟩ (.slice B1 ll b1)) g 40 #[.int .i64 fn, .int .i64 fp, .slice B1 ll b1, .slice At lt ct, .slice Ab lb cb]) := KB2.out.set_ 2 _
        have HP1 : Hid ((w2.setCell ⟨g, 2, none⟩ (.slice B1 ll b1)).ownsRow wa.heap.size 3 1 (.slice B1 ll b1) ll (intV f.locals)) := own_blocks hP1 (fun k hk => Below.heap_setCell _ _ _ _ (fun e => own_ne hP1 KB2.out (by decide) (by have e' : k = g := e; subst e'; exact hk)))
        have HGa : Hid (g < wa.heap.size) := zg
        have HW2 : Hid (wa.heap.size ≤ (w2.setCell ⟨g, 2, none⟩ (.slice B1 ll b1)).heap.size) := by show _ ≤ _; have := hb2.size; simp [World.setCell]; exact this
        clear hP1 hb2 c0 c1' c2' c3' c4' zg
        obtain ⟨c0, c1', c2', c3', c4'⟩ := KB2.out.c5
        have zg : g < w2.heap.size := KB2.out.lt
        have zf := KB2.out.frozen 2
        go_upto_region 6 with (fail)
        generalize w2.setCell ⟨g, 2, none⟩ (.slice B1 ll b1) = w3 at *
        clear c0 c1' c2' c3' c4' zg zf KB2 KB HBA
        obtain ⟨c0, c1', c2', c3', c4'⟩ := KB2'.out.c5
        have zg : g < w3.heap.size := KB2'.out.lt
        go_wp2_with fail
        refine (HD2.out w3 HB2.out).mono ?_
        rintro e w4 ⟨B2, b2, rfl, hP2, hb4⟩
        have HB4 := Lib.hid ((HB2.out.trans (hb4.mono HB2.out.size)).setCell (p := ⟨g, 3, none⟩) (by rw [HGD.out]; exact Nat.le_refl _) (.slice B2 lt b2))
        have KB4 := Lib.hid (KB2'.out.old hb4)
        have KB4' : Hid (Blk (w4.setCell ⟨g, 3, none⟩ (.slice B2 lt b2)) g 40 #[.int .i64 fn, .int .i64 fp, .slice B1 ll b1, .slice B2 lt b2, .slice Ab lb cb]) := KB4.out.set_ 3 _
        have HP1b : Hid ((w4.setCell ⟨g, 3, none⟩ (.slice B2 lt b2)).ownsRow wa.heap.size 3 1 (.slice B1 ll b1) ll (intV f.locals)) := own_blocks (own_old HP1.out hb4) (fun k hk => Below.heap_setCell _ _ _ _ (fun e => own_ne (own_old HP1.out hb4) KB4.out (by decide) (by have e' : k = g := e; subst e'; exact hk)))
        have HP2 : Hid ((w4.setCell ⟨g, 3, none⟩ (.slice B2 lt b2)).ownsRow w3.heap.size 3 1 (.slice B2 lt b2) lt (intV f.sites)) := own_blocks hP2 (fun k hk => Below.heap_setCell _ _ _ _ (fun e => own_ne hP2 KB4.out (by decide) (by have e' : k = g := e; subst e'; exact hk)))
        have HW4 : Hid (w3.heap.size ≤ (w4.setCell ⟨g, 3, none⟩ (.slice B2 lt b2)).heap.size) := by show _ ≤ _; have := hb4.size; simp [World.setCell]; exact this
        clear hP2 hb4 c0 c1' c2' c3' c4' zg HP1
        obtain ⟨c0, c1', c2', c3', c4'⟩ := KB4.out.c5
        have zg : g < w4.heap.size := KB4.out.lt
        have zf := KB4.out.frozen 3
        go_upto_region 7 with (fail)
        generalize w4.setCell ⟨g, 3, none⟩ (.slice B2 lt b2) = w5 at *
        clear c0 c1' c2' c3' c4' zg zf KB4 KB2' HB2
        obtain ⟨c0, c1', c2', c3', c4'⟩ := KB4'.out.c5
        have zg : g < w5.heap.size := KB4'.out.lt
        go_wp2_with fail
        refine (HD3.out w5 HB4.out).mono ?_
        rintro e w6 ⟨B3, b3, rfl, hP3⟩
        have hb6 := hP3.2.2
        have HB6 := Lib.hid ((HB4.out.trans (hb6.mono HB4.out.size)).setCell (p := ⟨g, 4, none⟩) (by rw [HGD.out]; exact Nat.le_refl _) (.slice B3 lb b3))
        have KB6 := Lib.hid (KB4'.out.old hb6)
        have KB6' : Hid (Blk (w6.setCell ⟨g, 4, none⟩ (.slice B3 lb b3)) g 40 #[.int .i64 fn, .int .i64 fp, .slice B1 ll b1, .slice B2 lt b2, .slice B3 lb b3]) := KB6.out.set_ 4 _
        have HP1c : Hid ((w6.setCell ⟨g, 4, none⟩ (.slice B3 lb b3)).ownsRow wa.heap.size 3 1 (.slice B1 ll b1) ll (intV f.locals)) := own_blocks (own_old HP1b.out hb6) (fun k hk => Below.heap_setCell _ _ _ _ (fun e => own_ne (own_old HP1b.out hb6) KB6.out (by decide) (by have e' : k = g := e; subst e'; exact hk)))
        have HP2b : Hid ((w6.setCell ⟨g, 4, none⟩ (.slice B3 lb b3)).ownsRow w3.heap.size 3 1 (.slice B2 lt b2) lt (intV f.sites)) := own_blocks (own_old HP2.out hb6) (fun k hk => Below.heap_setCell _ _ _ _ (fun e => own_ne (own_old HP2.out hb6) KB6.out (by decide) (by have e' : k = g := e; subst e'; exact hk)))
        have HP3 : Hid (CbV (fun k => k < wr.heap.size ∧ (k ≠ qf ∧ k ≠ q3 ∧ k ≠ w.heap.size + 1)) w5.heap.size (w6.setCell ⟨g, 4, none⟩ (.slice B3 lb b3)) B3 f.body) := CbV.far ⟨hP3.1, hP3.2.1⟩ KB6.out KB4'.out.lt (fun h => by have := HGD.out; omega) (fun k hk hkg => Below.heap_setCell _ _ _ _ hkg)
        clear hP3 hb6 c0 c1' c2' c3' c4' zg HP1b HP2
        obtain ⟨c0, c1', c2', c3', c4'⟩ := KB6.out.c5
        have zg : g < w6.heap.size := KB6.out.lt
        have zf := KB6.out.frozen 4
        go_upto_region 8 with (fail)
        have HW6 : Hid (wa.heap.size ≤ w5.heap.size) := by show _ ≤ _; have := HW2.out; have := HW4.out; omega
        generalize w6.setCell ⟨g, 4, none⟩ (.slice B3 lb b3) = w7 at *
        clear c0 c1' c2' c3' c4' zg zf KB6 KB4' HB4
        obtain ⟨c0, c1', c2', c3', c4'⟩ := KB6'.out.c5
        have zg : g < w7.heap.size := KB6'.out.lt
        have HR7 := Lib.hid (HRow.out.old HB6.out)
        have K7 := Lib.hid (hI.out.2.1.old HB6.out)
        obtain ⟨k0, k1, k2, k3⟩ := K7.out.c4
        have zq3 : q3 < w7.heap.size := K7.out.lt
        have zqf : qf < w7.heap.size := HR7.out.lt
        have hqfl : qf < wr.heap.size := HRow.out.lt
        have y0 := cell_old HB6.out hqfl HD.out.1
        have y1 := cell_old HB6.out hqfl HD.out.2.1
        have y2 := cell_old HB6.out hqfl HD.out.2.2.1
        have y3 := cell_old HB6.out hqfl HD.out.2.2.2.1
        have y4 := cell_old HB6.out hqfl HD.out.2.2.2.2
        have p0 := HR7.out.frozen (i * 5)
        have p1 := HR7.out.frozen (i * 5 + 1)
        have p2 := HR7.out.frozen (i * 5 + 2)
        have p3 := HR7.out.frozen (i * 5 + 3)
        have p4 := HR7.out.frozen (i * 5 + 4)
        go_upto_region 9 with (fail)
        have hRi : CpF (fun k => k ≠ qf ∧ k ≠ q3 ∧ k ≠ w.heap.size + 1) w1.heap.size (put5 w7 qf (i * 5) (.int .i64 fn) (.int .i64 fp) (.slice B1 ll b1) (.slice B2 lt b2) (.slice B3 lb b3)) qf M.funcs (i + 1) := by
          have hh := HF.out
          have hW2 := HW2.out
          have hW4 := HW4.out
          have hW6 := HW6.out
          have hGa := HGa.out
          have hGD := HGD.out
          have hz2 : w.heap.size + 1 < w1.heap.size := KR.out.lt
          have hs1 := HBr.out.size
          have hq3l : q3 < wr.heap.size := hI.out.2.1.lt
          obtain ⟨l1, l2, l3, l4, l5⟩ := HFl.out
          have hP1 := HP1c.out
          have hP2 := HP2b.out
          have hP3 := HP3.out
          subst hh
          rw [l1, l2]
          exact HCF.out.step HIM.out HB6.out l3 l4 l5 (Bl := wa.heap.size) (Bs := w3.heap.size) (B0 := w5.heap.size) (by omega) (by omega) hP1 hP2 (by omega) (fun k hk => hk.1) (fun k hk => ⟨by omega, by omega, by omega⟩) (fun k hk => hk.2) hP3
        have HRi := Lib.hid hRi
        have hqq : q3 ≠ qf := fun e => by
          have h1 := K7.out
          rw [e] at h1
          exact absurd (h1.uniq HR7.out) (by decide)
        have hk9 : ∀ {B e s n c : Nat} {A : Option Addr} {xs : List Value}, wr.ownsRow B e s (.slice A n c) n xs → e ≠ 40 → (put5 w7 qf (i * 5) (.int .i64 fn) (.int .i64 fp) (.slice B1 ll b1) (.slice B2 lt b2) (.slice B3 lb b3)).ownsRow B e s (.slice A n c) n xs := fun h he => own_blocks (own_old h HB6.out) (fun k hk => put5_heap (fun e2 => by subst e2; exact own_ne (own_old h HB6.out) HR7.out he hk))
        have HI8 : Hid (Below w1.heap.size w1 (put5 w7 qf (i * 5) (.int .i64 fn) (.int .i64 fp) (.slice B1 ll b1) (.slice B2 lt b2) (.slice B3 lb b3)) ∧ Blk (put5 w7 qf (i * 5) (.int .i64 fn) (.int .i64 fp) (.slice B1 ll b1) (.slice B2 lt b2) (.slice B3 lb b3)) q3 30 #[.slice A1 ls c1, .slice A2 lg c2, .slice (some ⟨qf, 0, none⟩) lf c3, .slice A4 le c4] ∧ (put5 w7 qf (i * 5) (.int .i64 fn) (.int .i64 fp) (.slice B1 ll b1) (.slice B2 lt b2) (.slice B3 lb b3)).ownsRow w1.heap.size 9 1 (.slice A1 ls c1) ls (strV M.strs) ∧ (put5 w7 qf (i * 5) (.int .i64 fn) (.int .i64 fp) (.slice B1 ll b1) (.slice B2 lt b2) (.slice B3 lb b3)).ownsRow w1.heap.size 3 1 (.slice A2 lg c2) lg (intV M.globs) ∧ (put5 w7 qf (i * 5) (.int .i64 fn) (.int .i64 fp) (.slice B1 ll b1) (.slice B2 lt b2) (.slice B3 lb b3)).ownsRow w1.heap.size 3 1 (.slice A4 le c4) le (intV M.ents) ∧ (0 < lf → (some ⟨qf, 0, none⟩ : Option Addr) = some ⟨qf, 0, none⟩ ∧ CpF (fun k => k ≠ qf ∧ k ≠ q3 ∧ k ≠ w.heap.size + 1) w1.heap.size (put5 w7 qf (i * 5) (.int .i64 fn) (.int .i64 fp) (.slice B1 ll b1) (.slice B2 lt b2) (.slice B3 lb b3)) qf M.funcs (i + 1))) :=
          ⟨put5_below (HBr.out.trans (HB6.out.mono HBr.out.size)) HCF.out.qb, (put5_heap hqq).trans K7.out, hk9 hI.out.2.2.1 (by decide), hk9 hI.out.2.2.2.1 (by decide), hk9 hI.out.2.2.2.2.1 (by decide), fun _ => ⟨rfl, HRi.out⟩⟩
        change Code.wp _ _ _ _ (put5 w7 qf (i * 5) (.int .i64 fn) (.int .i64 fp) (.slice B1 ll b1) (.slice B2 lt b2) (.slice B3 lb b3))
        generalize put5 w7 qf (i * 5) (.int .i64 fn) (.int .i64 fp) (.slice B1 ll b1) (.slice B2 lt b2) (.slice B3 lb b3) = w8 at *
        clear hRi hk9 hqq k0 k1 k2 k3 zq3 zqf y0 y1 y2 y3 y4 p0 p1 p2 p3 p4 c0 c1' c2' c3' c4' zg hI
        go_wp2
        go_roundw
        case rel => exact ⟨i + 1, by omega, by go_num, HI8.out.1, HI8.out.2.1, HI8.out.2.2.1, HI8.out.2.2.2.1, HI8.out.2.2.2.2.1, fun h => ⟨trivial, (HI8.out.2.2.2.2.2 h).2⟩⟩
        case measure => simp [intOf]; omega
      · obtain rfl : i = lf := by omega
        have KRr := Lib.hid (KR.out.old HBr.out)
        obtain ⟨k0, k1, k2, k3⟩ := hI.out.2.1.c4
        obtain ⟨g0, g1, g2, g3⟩ := KRr.out.c4
        have f0 := KRr.out.frozen 0
        have f1 := KRr.out.frozen 1
        have f2 := KRr.out.frozen 2
        have f3 := KRr.out.frozen 3
        have zq3 : q3 < wr.heap.size := hI.out.2.1.lt
        have zr : w.heap.size + 1 < wr.heap.size := KRr.out.lt
        go_wp2
        have hsz : w.heap.size + 1 < wr.heap.size := KRr.out.lt
        have hKf := ((((KRr.out.set_ 0 (.slice A1 ls c1)).set_ 1 (.slice A2 lg c2)).set_ 2 (.slice A3 i c3)).set_ 3 (.slice A4 le c4))
        obtain ⟨r0, r1, r2, r3⟩ := Blk.c4 hKf
        refine bodyPost_ret (v := .agg #[.slice A1 ls c1, .slice A2 lg c2, .slice A3 i c3, .slice A4 le c4]) (by simp [results, Try.results49, go_sem, r0, r1, r2, r3]) rfl ?_
        have hk : ∀ k, k ≠ w.heap.size + 1 → ((((wr.setCell ⟨w.heap.size + 1, 0, none⟩ (.slice A1 ls c1)).setCell ⟨w.heap.size + 1, 1, none⟩ (.slice A2 lg c2)).setCell ⟨w.heap.size + 1, 2, none⟩ (.slice A3 i c3)).setCell ⟨w.heap.size + 1, 3, none⟩ (.slice A4 le c4)).heap[k]? = wr.heap[k]? := fun k hk => set4_far _ _ _ _ hk
        have hbf := set4 (HB1.out.trans (HBr.out.mono HB1.out.size)) (Nat.le_succ w.heap.size) (.slice A1 ls c1) (.slice A2 lg c2) (.slice A3 i c3) (.slice A4 le c4)
        have hbf' : Below w.heap.size w ((((wr.setCell ⟨w.heap.size + 1, 0, none⟩ (.slice A1 ls c1)).setCell ⟨w.heap.size + 1, 1, none⟩ (.slice A2 lg c2)).setCell ⟨w.heap.size + 1, 2, none⟩ (.slice A3 i c3)).setCell ⟨w.heap.size + 1, 3, none⟩ (.slice A4 le c4)) := hbf
        clear hbf r0 r1 r2 r3
        generalize (((wr.setCell ⟨w.heap.size + 1, 0, none⟩ (.slice A1 ls c1)).setCell ⟨w.heap.size + 1, 1, none⟩ (.slice A2 lg c2)).setCell ⟨w.heap.size + 1, 2, none⟩ (.slice A3 i c3)).setCell ⟨w.heap.size + 1, 3, none⟩ (.slice A4 le c4) = wf at *
        obtain ⟨hb, hK3, hO1, hO2, hO4, hF⟩ := hI.out
        obtain ⟨el, eg, ef, ee⟩ := HL.out
        have hs1 := HB1.out.size
        have hz2 : w.heap.size + 1 < w1.heap.size := KR.out.lt
        have hw : ∀ {B e s n c : Nat} {A : Option Addr} {xs : List Value}, wr.ownsRow B e s (.slice A n c) n xs → e ≠ 30 → wf.ownsRow B e s (.slice A n c) n xs := fun h he => own_blocks h (fun k hk' => hk k (fun e => by subst e; exact own_ne h KRr.out he hk'))
        have h1 := hw hO1 (by decide)
        have h2 := hw hO2 (by decide)
        have h4 := hw hO4 (by decide)
        refine ⟨A1, c1, A2, c2, A3, c3, A4, c4, by rw [el, eg, ef, ee], ⟨by rw [← el]; exact (RdS.own h1).below (fun _ _ => trivial), by rw [← eg]; exact (RdS.own h2).below (fun _ _ => trivial), fun hp => ?_, by rw [← ee]; exact (RdS.own h4).below (fun _ _ => trivial)⟩, hbf', by rw [← eg]; exact own_mono h2 (by omega), fun hp => ?_, fun hp => ?_⟩
        · obtain ⟨rfl, hCF⟩ := hF (by omega)
          refine ⟨qf, 0, rfl, trivial, fun j hj => ?_⟩
          obtain ⟨fs, hfs, hc⟩ := hCF.fns j hj
          obtain ⟨csr, hRow, _⟩ := hCF.row
          refine ⟨fs, hfs.kept (S' := fun _ => True) (fun k hk' _ => hk k hk'.2.2) (fun _ _ _ => trivial), fun t u ht => ?_⟩
          rw [Nat.zero_add]
          exact (World.cell?_of_block (hk qf (fun e => by subst e; exact absurd (hRow.uniq KRr.out) (by decide)))).trans (hc t u ht)
        · obtain ⟨q, cap, hv, hbq, _⟩ := own_formM h1 (by omega)
          obtain ⟨_, cur, hB⟩ := own_blk h1 q (by rw [hv]; rfl)
          injection hv with hv1 hv2 hv3
          exact ⟨q, cur, hv1, by omega, hB⟩
        · obtain ⟨rfl, hCF⟩ := hF (by omega)
          obtain ⟨csr, hRow, _⟩ := hCF.row
          have hne : qf ≠ w.heap.size + 1 := fun e => by subst e; exact absurd (hRow.uniq KRr.out) (by decide)
          refine ⟨qf, csr, rfl, by have := hCF.qb; omega, (hk qf hne).trans hRow, fun j hj => ?_⟩
          have hm := (hCF.muts j (by omega)).base (base := w.heap.size) (by omega)
          exact hm.farb KRr.out hRow (fun k _ hk' => hk k hk')
end Go.Proofs.Ytpdebnecfknohaa
