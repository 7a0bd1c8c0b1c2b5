/-
  The walk of LexEscapes.
-/
import Derived.Test.YtgaedkaohjphaaaMc
import Derived.Test.YtgaedkaohjphaaaMw
import Derived.Test.YtgaedkaohjphaaaNc
import Derived.Deep.RegionHeld3
import Derived.Deep.RegionLaw
import Derived.Deep.CutBlock
namespace Go.Proofs.Ytgaedkaohjphaaa
open Go.RowKit
set_option linter.unusedVariables false
set_option linter.unusedSimpArgs false
set_option maxRecDepth 20000

instance : DecidableEq Tok := fun a b => decidable_of_iff (a.kind = b.kind ∧ a.mark = b.mark ∧ a.text = b.text ∧ a.at_ = b.at_) (by cases a; cases b; simp)
theorem told_all : ∀ c, c < 256 → nextF [36, 34, 92, 120, digs.getD (c / 16) 0, digs.getD (c % 16) 0, 34] 0 = (⟨2, 36, [UInt8.ofNat c], 0⟩, 0, 0, 7) := by decide +kernel
theorem skip_none (p : List UInt8) (hp : 0 < p.length) (h : gapF p = (0, true)) : skipF p (p.length + 1) 0 = (0, true) := skip_stop p p.length 0 hp h
def rightF (a b : UInt8) : Bool := a == 34 || (a == 92 || (a == 120 && ((decide (48 ≤ b.toNat) && decide (b.toNat ≤ 57)) || (decide (97 ≤ b.toNat) && decide (b.toNat ≤ 102)))))
theorem dig_hex : ∀ b, b < 256 → ((decide (48 ≤ b) && decide (b ≤ 57)) || (decide (97 ≤ b) && decide (b ≤ 102))) = false → Lib.indexByte digs (UInt8.ofNat b) = -1 := by decide +kernel
theorem told_not (a b : UInt8) (h : rightF a b = false) : nextF [36, 34, 122, 92, a, b, 49, 34] 0 = (tok0, 3, 7, 0) := by
  simp only [rightF, Bool.or_eq_false_iff, beq_eq_false_iff_ne, ne_eq] at h
  obtain ⟨h1, h2, h3⟩ := h
  have hq : qbF [92, a, b, 49, 34] = (0, 0) := by
    have p1 : [92, 34].isPrefixOf [92, a, b, 49, 34] = false := by
      simp [List.isPrefixOf]; exact fun e => h1 e.symm
    have p2 : [92, 92].isPrefixOf [92, a, b, 49, 34] = false := by
      simp [List.isPrefixOf]; exact fun e => h2 e.symm
    unfold qbF
    rw [if_neg (by simp), p1, p2]
    simp only [Bool.false_eq_true, or_self, if_false]
    by_cases ha : a = 120
    · subst ha
      have hb : Lib.indexByte digs b = -1 := by
        have := dig_hex b.toNat b.toNat_lt (by simpa using h3)
        simpa using this
      rw [if_pos (by simp [List.isPrefixOf])]
      simp [hb]
    · have p3 : [92, 120].isPrefixOf [92, a, b, 49, 34] = false := by
        simp [List.isPrefixOf]; exact fun e => ha e.symm
      simp [p3]
  have s : skipF [36, 34, 122, 92, a, b, 49, 34] ([36, 34, 122, 92, a, b, 49, 34].length + 1) 0 = (0, true) := skip_none _ (by simp) (by simp [gapF, blankF, List.isPrefixOf])
  have r : readF [36, 34, 122, 92, a, b, 49, 34] 0 = (⟨2, 36, [], 0⟩, 3, false) := by
    have hrn : rnF [36, 34, 122, 92, a, b, 49, 34] 1 = ([], 3, false) := by
      have q1 : qbF [122, 92, a, b, 49, 34] = (122, 1) := by
        unfold qbF
        rw [if_pos (by simp [seenF])]; rfl
      unfold rnF
      rw [if_pos (by simp)]
      simp only [List.length_cons, List.length_nil]
      rw [rqF, if_pos (by simp)]
      simp only [List.drop_succ_cons, List.drop_zero, q1]
      rw [if_neg (by simp), rqF, if_pos (by simp)]
      simp only [List.drop_succ_cons, List.drop_zero, hq]
      simp
    unfold readF
    rw [if_neg (by simp), if_neg (by simp [smallB, smallF]), if_pos (by simp [Lib.indexByte, marks]), hrn]
    rfl
  simp only [nextF, s, r]
  simp
theorem src2 (w : World) (d1 d2 : UInt8) : Src (w.alloc (.cells #[.int .u8 (d1.toNat : Int), .int .u8 (d2.toNat : Int)] 5)) (some ⟨w.heap.size, 0, none⟩) 2 [d1, d2] := ⟨rfl, fun _ => ⟨w.heap.size, 0, rfl, fun i hi => by
  have h0 : (w.alloc (.cells #[.int .u8 (d1.toNat : Int), .int .u8 (d2.toNat : Int)] 5)).heap[w.heap.size]? = some (.cells #[.int .u8 (d1.toNat : Int), .int .u8 (d2.toNat : Int)] 5 (0, 0)) := heap_alloc_new w _
  rw [cell_of_row _ w.heap.size _ _ 5 (0, 0) h0, Nat.zero_add]
  have hi2 : i < 2 := hi
  rcases (show i = 0 ∨ i = 1 by omega) with rfl | rfl <;> rfl⟩⟩
set_option maxHeartbeats 8000000 in
theorem escapes_walk (c a b : Int) (hc : 0 ≤ c ∧ c < 256) (ha : 0 ≤ a ∧ a < 256) (hb : 0 ≤ b ∧ b < 256) (w : World) (hg : G0 w) :
    Calls Try.prog 7 #[.int .u8 c, .int .u8 a, .int .u8 b] w fun e w' => e = .returned (.bool true) ∧ Below w.heap.size w w' := by
  obtain ⟨cn, rfl⟩ : ∃ n : Nat, c = n := ⟨c.toNat, by omega⟩
  obtain ⟨k1, hk1, hk1l⟩ : ∃ k : Nat, (cn : Int) / 16 = (k : Int) ∧ k < 16 := ⟨cn / 16, by omega, by omega⟩
  obtain ⟨k2, hk2, hk2l⟩ : ∃ k : Nat, (cn : Int) % 16 = (k : Int) ∧ k < 16 := ⟨cn % 16, by omega, by omega⟩
  have hd1 : (cn : Int).tdiv 16 = (k1 : Int) := by rw [Int.tdiv_eq_ediv_of_nonneg (by omega)]; exact hk1
  have hd2 : (cn : Int).tmod 16 = (k2 : Int) := by rw [Int.tmod_eq_emod_of_nonneg (by omega)]; exact hk2
  have hk1i : (k1 : Int) < 16 := by omega
  have hk2i : (k2 : Int) < 16 := by omega
  have hw1 : IntKind.u8.wrap (k1 : Int) = (k1 : Int) := by simp [IntKind.wrap, IntKind.signed, IntKind.bits]; omega
  obtain ⟨d1, hd1e⟩ : ∃ d, d = digs.getD k1 0 := ⟨_, rfl⟩
  obtain ⟨d2, hd2e⟩ : ∃ d, d = digs.getD k2 0 := ⟨_, rfl⟩
  have hx1 : ∀ h, (((⟨#[48, 49, 50, 51, 52, 53, 54, 55, 56, 57, 97, 98, 99, 100, 101, 102]⟩ : ByteArray)[k1]'h).toNat : Int) = (d1.toNat : Int) := fun h => by
    rw [hd1e, List.getD_eq_getElem?_getD, List.getElem?_eq_getElem (by exact h)]; rfl
  have hx2 : ∀ h, (((⟨#[48, 49, 50, 51, 52, 53, 54, 55, 56, 57, 97, 98, 99, 100, 101, 102]⟩ : ByteArray)[k2]'h).toNat : Int) = (d2.toNat : Int) := fun h => by
    rw [hd2e, List.getD_eq_getElem?_getD, List.getElem?_eq_getElem (by exact h)]; rfl
  have hT := told_all cn (by omega)
  rw [show cn / 16 = k1 from by omega, show cn % 16 = k2 from by omega, ← hd1e, ← hd2e] at hT
  have HT := Lib.hid hT
  clear hT hd1e hd2e
  have hz : (bs [d1, d2]).size = 2 := rfl
  have hz1 : ((⟨#[36, 34, 92, 120]⟩ : ByteArray) ++ bs [d1, d2]).size = 6 := by rw [show (⟨#[36, 34, 92, 120]⟩ : ByteArray) = bs [36, 34, 92, 120] from rfl, bs_app]; rfl
  have HPS : Hid ((⟨#[36, 34, 92, 120]⟩ : ByteArray) ++ bs [d1, d2] ++ (⟨#[34]⟩ : ByteArray) = bs [36, 34, 92, 120, d1, d2, 34]) := by
    show _ = _
    rw [show (⟨#[36, 34, 92, 120]⟩ : ByteArray) = bs [36, 34, 92, 120] from rfl, show (⟨#[34]⟩ : ByteArray) = bs [34] from rfl, bs_app, bs_app]; rfl
  have HG := Lib.hid hg
  clear hg
  go_enter Try.func7, Try.ntmps7
  go_upto_region 2 with (fail)
  go_cut [8, 9, 10] (fun s8 s9 s10 wz => ∃ g, s8 = .pointer (some ⟨g, 0, none⟩) ∧ s9 = .int .i64 0 ∧ s10 = .int .i64 0 ∧ Hid (w.heap.size ≤ g) ∧ Hid (Blk wz g 30 #[.int .u8 2, .int .u8 36, .string (bs [UInt8.ofNat cn]), .int .i64 0]) ∧ Hid (Below w.heap.size w wz))
  case first =>
    have HBV0 : Hid (Below w.heap.size w w.drew) := (Below.refl _ _).drew
    obtain ⟨V0, hV0⟩ : ∃ V, V = w.drew := ⟨_, rfl⟩
    rw [← hV0] at HBV0
    refine wp_region_held_drew (S := (fun _ => True)) (by kernel_rfl) trivial (fun _ => ?_)
    try simp only [Act.put, List.setIfInBounds_toArray, List.set_cons_zero, List.set_cons_succ]
    rw [← hV0]
    clear hV0
    refine wpAnyH_take (i := 0) (oi := { dst := some 16, op := Op.move (Operand.tmp 7), type := 9, pos := "more.go:12", after := #[], guard := none }) (v := ?_) rfl (by kernel_rfl) (by kernel_rfl) (by kernel_rfl) (fun _ _ _ h => h) (Or.inl ⟨by rfl, ?_⟩) (by assumption) ?_
    rotate_left
    · (intro W hSW; (try dsimp only at hSW); go_simp; first | done | with_reducible rfl)
    try simp only [Act.put, List.setIfInBounds_toArray, List.set_cons_zero, List.set_cons_succ]
    refine wpAnyH_take (i := 1) (oi := { dst := some 17, op := Op.move (Operand.tmp 0), type := 5, pos := "more.go:12", after := #[], guard := none }) (v := ?_) rfl (by kernel_rfl) (by kernel_rfl) (by kernel_rfl) (fun _ _ _ h => h) (Or.inl ⟨by rfl, ?_⟩) (by assumption) ?_
    rotate_left
    · (intro W hSW; (try dsimp only at hSW); go_simp; first | done | with_reducible rfl)
    try simp only [Act.put, List.setIfInBounds_toArray, List.set_cons_zero, List.set_cons_succ]
    refine wpAnyH_take (i := 2) (oi := { dst := some 18, op := Op.binOp BinOp.quo 5 (Operand.tmp 17) (Operand.const (Value.int IntKind.u8 16)) 5, type := 5, pos := "more.go:12", after := #[{ on := 1, ground := Ground.data }], guard := none }) (v := ?_) rfl (by kernel_rfl) (by kernel_rfl) (by kernel_rfl) (fun _ _ _ h => h) (Or.inl ⟨by rfl, ?_⟩) (by assumption) ?_
    rotate_left
    · (intro W hSW; (try dsimp only at hSW); go_simp; first | done | with_reducible rfl)
    try simp only [Act.put, List.setIfInBounds_toArray, List.set_cons_zero, List.set_cons_succ]
    refine wpAnyH_take (i := 3) (oi := { dst := some 19, op := Op.index 9 (Operand.tmp 16) (Operand.tmp 18), type := 5, pos := "more.go:12", after := #[{ on := 0, ground := Ground.data }, { on := 2, ground := Ground.data }], guard := none }) (v := ?_) rfl (by kernel_rfl) (by kernel_rfl) (by kernel_rfl) (fun _ _ _ h => h) (Or.inl ⟨by rfl, ?_⟩) (by assumption) ?_
    rotate_left
    · (intro W hSW; (try dsimp only at hSW); go_simp; first | done | with_reducible rfl)
    try simp only [Act.put, List.setIfInBounds_toArray, List.set_cons_zero, List.set_cons_succ]
    refine wpAnyH_take (i := 4) (oi := { dst := some 20, op := Op.move (Operand.tmp 7), type := 9, pos := "more.go:12", after := #[], guard := none }) (v := ?_) rfl (by kernel_rfl) (by kernel_rfl) (by kernel_rfl) (fun _ _ _ h => h) (Or.inl ⟨by rfl, ?_⟩) (by assumption) ?_
    rotate_left
    · (intro W hSW; (try dsimp only at hSW); go_simp; first | done | with_reducible rfl)
    try simp only [Act.put, List.setIfInBounds_toArray, List.set_cons_zero, List.set_cons_succ]
    refine wpAnyH_take (i := 5) (oi := { dst := some 21, op := Op.move (Operand.tmp 0), type := 5, pos := "more.go:12", after := #[], guard := none }) (v := ?_) rfl (by kernel_rfl) (by kernel_rfl) (by kernel_rfl) (fun _ _ _ h => h) (Or.inl ⟨by rfl, ?_⟩) (by assumption) ?_
    rotate_left
    · (intro W hSW; (try dsimp only at hSW); go_simp; first | done | with_reducible rfl)
    try simp only [Act.put, List.setIfInBounds_toArray, List.set_cons_zero, List.set_cons_succ]
    refine wpAnyH_take (i := 6) (oi := { dst := some 22, op := Op.binOp BinOp.rem 5 (Operand.tmp 21) (Operand.const (Value.int IntKind.u8 16)) 5, type := 5, pos := "more.go:12", after := #[{ on := 5, ground := Ground.data }], guard := none }) (v := ?_) rfl (by kernel_rfl) (by kernel_rfl) (by kernel_rfl) (fun _ _ _ h => h) (Or.inl ⟨by rfl, ?_⟩) (by assumption) ?_
    rotate_left
    · (intro W hSW; (try dsimp only at hSW); go_simp; first | done | with_reducible rfl)
    try simp only [Act.put, List.setIfInBounds_toArray, List.set_cons_zero, List.set_cons_succ]
    refine wpAnyH_take (i := 7) (oi := { dst := some 23, op := Op.index 9 (Operand.tmp 20) (Operand.tmp 22), type := 5, pos := "more.go:12", after := #[{ on := 4, ground := Ground.data }, { on := 6, ground := Ground.data }], guard := none }) (v := ?_) rfl (by kernel_rfl) (by kernel_rfl) (by kernel_rfl) (fun _ _ _ h => h) (Or.inl ⟨by rfl, ?_⟩) (by assumption) ?_
    rotate_left
    · (intro W hSW; (try dsimp only at hSW); go_simp; first | done | with_reducible rfl)
    try simp only [Act.put, List.setIfInBounds_toArray, List.set_cons_zero, List.set_cons_succ]
    refine wpAnyH_ready (rs := [8, 19]) (by kernel_rfl) (by simp) ?_
    refine AllReadyH.cons (o := { dst := some 24, op := Op.buildSlice 22 2 #[(0, Operand.tmp 19), (1, Operand.tmp 23)], type := 22, pos := "more.go:12", after := #[{ on := 3, ground := Ground.data }, { on := 7, ground := Ground.data }], guard := none }) rfl (fun KQ hKQ => ?_) (AllReadyH.cons (o := { dst := some 8, op := Op.alloc 30, type := 0, pos := "more.go:12", after := #[], guard := none }) rfl (fun KQ hKQ => ?_) AllReadyH.nil)
    · go_simp
      refine hKQ.out _ _ trivial (fun _ => ?_)
      clear hKQ KQ
      try simp only [Act.put, List.setIfInBounds_toArray, List.set_cons_zero, List.set_cons_succ]
      obtain ⟨gB, hgB⟩ : ∃ g, g = V0.heap.size := ⟨_, rfl⟩
      obtain ⟨V1, hV1⟩ : ∃ V, V = V0.alloc (.cells #[.int .u8 (d1.toNat : Int), .int .u8 (d2.toNat : Int)] 5) := ⟨_, rfl⟩
      have hXV1 : Below V0.heap.size V0 V1 := by rw [hV1]; exact (Below.refl _ _).alloc (Nat.le_refl _) _
      have HSV1 : Hid (Src V1 (some ⟨gB, 0, none⟩) 2 [d1, d2]) := by rw [hV1, hgB]; exact src2 V0 d1 d2
      rw [← hV1, ← hgB]
      clear hV1 hgB
      have HBV1 := Lib.hid (HBV0.out.trans (hXV1.mono HBV0.out.size))
      clear hXV1
      refine wpAnyH_ready (rs := [9, 19]) (by kernel_rfl) (by simp) ?_
      refine AllReadyH.cons (o := { dst := some 25, op := Op.convert 22 9 (Operand.tmp 24), type := 9, pos := "more.go:12", after := #[{ on := 8, ground := Ground.data }], guard := none }) rfl (fun KQ hKQ => ?_) (AllReadyH.cons (o := { dst := some 8, op := Op.alloc 30, type := 0, pos := "more.go:12", after := #[], guard := none }) rfl (fun KQ hKQ => ?_) AllReadyH.nil)
      · have kA := conv_back V1 gB 0 2 2 [d1, d2] HSV1.out
        go_simp
        refine hKQ.out _ _ trivial (fun _ => ?_)
        clear hKQ KQ
        try simp only [Act.put, List.setIfInBounds_toArray, List.set_cons_zero, List.set_cons_succ]
        clear kA
        refine wpAnyH_take (i := 10) (oi := { dst := some 26, op := Op.binOp BinOp.add 9 (Operand.const (Value.string { data := #[36, 34, 92, 120] })) (Operand.tmp 25) 9, type := 9, pos := "more.go:12", after := #[{ on := 9, ground := Ground.data }], guard := none }) (v := ?_) rfl (by kernel_rfl) (by kernel_rfl) (by kernel_rfl) (fun _ _ _ h => h) (Or.inl ⟨by rfl, ?_⟩) (by assumption) ?_
        rotate_left
        · (intro W hSW; (try dsimp only at hSW); go_simp; first | done | with_reducible rfl)
        try simp only [Act.put, List.setIfInBounds_toArray, List.set_cons_zero, List.set_cons_succ]
        refine wpAnyH_take (i := 11) (oi := { dst := some 27, op := Op.binOp BinOp.add 9 (Operand.tmp 26) (Operand.const (Value.string { data := #[34] })) 9, type := 9, pos := "more.go:12", after := #[{ on := 10, ground := Ground.data }], guard := none }) (v := ?_) rfl (by kernel_rfl) (by kernel_rfl) (by kernel_rfl) (fun _ _ _ h => h) (Or.inl ⟨by rfl, ?_⟩) (by assumption) ?_
        rotate_left
        · (intro W hSW; (try dsimp only at hSW); go_simp; first | done | with_reducible rfl)
        try simp only [Act.put, List.setIfInBounds_toArray, List.set_cons_zero, List.set_cons_succ]
        refine wpAnyH_ready (rs := [12, 19]) (by kernel_rfl) (by simp) ?_
        refine AllReadyH.cons (o := { dst := some 28, op := Op.convert 9 22 (Operand.tmp 27), type := 22, pos := "more.go:12", after := #[{ on := 11, ground := Ground.data }], guard := none }) rfl (fun KQ hKQ => ?_) (AllReadyH.cons (o := { dst := some 8, op := Op.alloc 30, type := 0, pos := "more.go:12", after := #[], guard := none }) rfl (fun KQ hKQ => ?_) AllReadyH.nil)
        · obtain ⟨cc, V3, kB, hSP, hXV3, hzz⟩ := conv_str V1 [36, 34, 92, 120, d1, d2, 34]
          rw [← HPS.out] at kB
          obtain ⟨gC, hgC⟩ : ∃ g, g = V1.heap.size := ⟨_, rfl⟩
          rw [← hgC] at kB hSP
          clear hzz
          change _ = Result.ok (Value.slice _ 7 cc) _ at kB
          go_simp
          refine hKQ.out _ _ trivial (fun _ => ?_)
          clear hKQ KQ
          try simp only [Act.put, List.setIfInBounds_toArray, List.set_cons_zero, List.set_cons_succ]
          have HSV3 := Lib.hid hSP
          try rw [← hgC]
          clear kB hSP hgC
          have HBV3 := Lib.hid (HBV1.out.trans (hXV3.mono HBV1.out.size))
          clear hXV3
          refine wpAnyH_ready (rs := [13, 19]) (by kernel_rfl) (by simp) ?_
          refine AllReadyH.cons (o := { dst := some 29, op := Op.call { callee := Callee.value (Operand.func 11), args := #[Operand.tmp 28], argTypes := #[22] }, type := 24, pos := "more.go:12", after := #[{ on := 12, ground := Ground.data }], guard := none }) rfl (fun KQ hKQ => ?_) (AllReadyH.cons (o := { dst := some 8, op := Op.alloc 30, type := 0, pos := "more.go:12", after := #[], guard := none }) rfl (fun KQ hKQ => ?_) AllReadyH.nil)
          · go_simp
            go_at_call 11
            refine (new_any (some ⟨gC, 0, none⟩) 7 cc [36, 34, 92, 120, d1, d2, 34] V3 HSV3.out (by omega) (HG.out.old HBV3.out)).mono ?_
            rintro e V4 ⟨q, A', c', rfl, hqV4, hL, hXV4⟩
            refine hKQ.out _ _ trivial (fun _ => ?_)
            clear hKQ KQ
            try simp only [Act.put, List.setIfInBounds_toArray, List.set_cons_zero, List.set_cons_succ]
            have HLV4 := Lib.hid hL
            clear hL
            have HBV4 := Lib.hid (HBV3.out.trans (hXV4.mono HBV3.out.size))
            have HQ : Hid (w.heap.size ≤ q) := Nat.le_trans HBV3.out.size hqV4
            clear hqV4
            clear hXV4
            refine wpAnyH_ready (rs := [14, 19]) (by kernel_rfl) (by simp) ?_
            refine AllReadyH.cons (o := { dst := some 30, op := Op.call { callee := Callee.value (Operand.func 13), args := #[Operand.tmp 29], argTypes := #[24] }, type := 32, pos := "more.go:12", after := #[{ on := 13, ground := Ground.data }, { on := 13, ground := Ground.chain }], guard := none }) rfl (fun KQ hKQ => ?_) (AllReadyH.cons (o := { dst := some 8, op := Op.alloc 30, type := 0, pos := "more.go:12", after := #[], guard := none }) rfl (fun KQ hKQ => ?_) AllReadyH.nil)
            · go_simp
              go_at_call 13
              have hN := next_any w.heap.size q A' 7 c' 0 [36, 34, 92, 120, d1, d2, 34] V4 HLV4.out HQ.out
              rw [HT.out] at hN
              refine hN.mono ?_
              rintro e V5 ⟨rfl, hYV5, hkV5, _⟩
              refine hKQ.out _ _ trivial (fun _ => ?_)
              clear hKQ KQ
              try simp only [Act.put, List.setIfInBounds_toArray, List.set_cons_zero, List.set_cons_succ]
              clear hN
              have HBV5 := Lib.hid (HBV4.out.trans hYV5)
              clear hYV5 hkV5
              dsimp only [Tok.cells]
              try simp only [Act.put, List.setIfInBounds_toArray, List.set_cons_zero, List.set_cons_succ]
              refine wpAnyH_take (i := 15) (oi := { dst := some 15, op := Op.move (Operand.tmp 30), type := 32, pos := "more.go:12", after := #[{ on := 14, ground := Ground.data }], guard := none }) (v := ?_) rfl (by kernel_rfl) (by kernel_rfl) (by kernel_rfl) (fun _ _ _ h => h) (Or.inl ⟨by rfl, ?_⟩) (by assumption) ?_
              rotate_left
              · (intro W hSW; (try dsimp only at hSW); go_simp; first | done | with_reducible rfl)
              try simp only [Act.put, List.setIfInBounds_toArray, List.set_cons_zero, List.set_cons_succ]
              refine wpAnyH_take (i := 16) (oi := { dst := some 31, op := Op.extract (Operand.tmp 15) 0, type := 30, pos := "more.go:12", after := #[{ on := 15, ground := Ground.data }], guard := none }) (v := ?_) rfl (by kernel_rfl) (by kernel_rfl) (by kernel_rfl) (fun _ _ _ h => h) (Or.inl ⟨by rfl, ?_⟩) (by assumption) ?_
              rotate_left
              · (intro W hSW; (try dsimp only at hSW); go_simp; first | done | with_reducible rfl)
              try simp only [Act.put, List.setIfInBounds_toArray, List.set_cons_zero, List.set_cons_succ]
              refine wpAnyH_take (i := 17) (oi := { dst := some 32, op := Op.extract (Operand.tmp 15) 1, type := 3, pos := "more.go:12", after := #[{ on := 15, ground := Ground.data }, { on := 20, ground := Ground.gcOnly Departure.lateStores }], guard := none }) (v := ?_) rfl (by kernel_rfl) (by kernel_rfl) (by kernel_rfl) (fun _ _ _ h => h) (Or.inl ⟨by rfl, ?_⟩) (by assumption) ?_
              rotate_left
              · (intro W hSW; (try dsimp only at hSW); go_simp; first | done | with_reducible rfl)
              try simp only [Act.put, List.setIfInBounds_toArray, List.set_cons_zero, List.set_cons_succ]
              refine wpAnyH_take (i := 18) (oi := { dst := some 33, op := Op.extract (Operand.tmp 15) 2, type := 31, pos := "more.go:12", after := #[{ on := 15, ground := Ground.data }, { on := 21, ground := Ground.gcOnly Departure.lateStores }], guard := none }) (v := ?_) rfl (by kernel_rfl) (by kernel_rfl) (by kernel_rfl) (fun _ _ _ h => h) (Or.inl ⟨by rfl, ?_⟩) (by assumption) ?_
              rotate_left
              · (intro W hSW; (try dsimp only at hSW); go_simp; first | done | with_reducible rfl)
              try simp only [Act.put, List.setIfInBounds_toArray, List.set_cons_zero, List.set_cons_succ]
              refine wpAnyH_ready (rs := [19]) (by kernel_rfl) (by simp) ?_
              refine AllReadyH.cons (o := { dst := some 8, op := Op.alloc 30, type := 0, pos := "more.go:12", after := #[], guard := none }) rfl (fun KQ hKQ => ?_) AllReadyH.nil
              go_simp
              refine hKQ.out _ _ trivial (fun _ => ?_)
              clear hKQ KQ
              try simp only [Act.put, List.setIfInBounds_toArray, List.set_cons_zero, List.set_cons_succ]
              obtain ⟨gA, hgA⟩ : ∃ g, g = V5.heap.size := ⟨_, rfl⟩
              obtain ⟨V6, hV6⟩ : ∃ V, V = V5.alloc (.cells #[.int .u8 0, .int .u8 0, .string ⟨#[]⟩, .int .i64 0] 30) := ⟨_, rfl⟩
              have hXV6 : Below V5.heap.size V5 V6 := by rw [hV6]; exact (Below.refl _ _).alloc (Nat.le_refl _) _
              have HAV6 : Hid (Blk V6 gA 30 #[.int .u8 0, .int .u8 0, .string ⟨#[]⟩, .int .i64 0]) := by rw [hV6, hgA]; exact Blk.new V5 30 _
              have HGA : Hid (w.heap.size ≤ gA) := by rw [hgA]; exact HBV5.out.size
              have HBV6 := Lib.hid (HBV5.out.trans (hXV6.mono HBV5.out.size))
              rw [← hV6, ← hgA]
              clear hV6 hgA hXV6
              have hk30 := HAV6.out
              obtain ⟨p0, p1, p2, p3⟩ := Blk.c4 hk30
              have f0 := hk30.frozen 0
              have f1 := hk30.frozen 1
              have f2 := hk30.frozen 2
              have f3 := hk30.frozen 3
              have z1 : gA < V6.heap.size := hk30.lt
              have HFB := Lib.hid (set4B HBV6.out HGA.out (.int .u8 2) (.int .u8 36) (.string (bs [UInt8.ofNat cn])) (.int .i64 0))
              have HFK := Lib.hid (Blk.set4 hk30 (.int .u8 2) (.int .u8 36) (.string (bs [UInt8.ofNat cn])) (.int .i64 0))
              clear hk30
              refine wpAnyH_ready (rs := [20]) (by kernel_rfl) (by simp) ?_
              refine AllReadyH.cons (o := { dst := none, op := Op.store 30 (Operand.tmp 8) (Operand.tmp 31), type := 0, pos := "more.go:12", after := #[{ on := 19, ground := Ground.data }, { on := 16, ground := Ground.data }, { on := 14, ground := Ground.chain }, { on := 0, ground := Ground.phase }, { on := 1, ground := Ground.phase }, { on := 2, ground := Ground.phase }, { on := 3, ground := Ground.phase }, { on := 4, ground := Ground.phase }, { on := 5, ground := Ground.phase }, { on := 6, ground := Ground.phase }, { on := 7, ground := Ground.phase }, { on := 8, ground := Ground.phase }, { on := 9, ground := Ground.phase }, { on := 10, ground := Ground.phase }, { on := 11, ground := Ground.phase }, { on := 12, ground := Ground.phase }, { on := 13, ground := Ground.phase }, { on := 14, ground := Ground.phase }, { on := 15, ground := Ground.phase }, { on := 16, ground := Ground.phase }, { on := 17, ground := Ground.textOnly Departure.lateStores }, { on := 18, ground := Ground.textOnly Departure.lateStores }, { on := 19, ground := Ground.phase }], guard := none }) rfl (fun KQ hKQ => ?_) AllReadyH.nil
              go_simp
              refine hKQ.out _ _ trivial (fun _ => ?_)
              clear hKQ KQ
              try simp only [Act.put, List.setIfInBounds_toArray, List.set_cons_zero, List.set_cons_succ]
              refine wpAnyH_take (i := 21) (oi := { dst := some 9, op := Op.assign (Operand.tmp 32), type := 3, pos := "more.go:12", after := #[{ on := 17, ground := Ground.data }, { on := 20, ground := Ground.chain }, { on := 0, ground := Ground.phase }, { on := 1, ground := Ground.phase }, { on := 2, ground := Ground.phase }, { on := 3, ground := Ground.phase }, { on := 4, ground := Ground.phase }, { on := 5, ground := Ground.phase }, { on := 6, ground := Ground.phase }, { on := 7, ground := Ground.phase }, { on := 8, ground := Ground.phase }, { on := 9, ground := Ground.phase }, { on := 10, ground := Ground.phase }, { on := 11, ground := Ground.phase }, { on := 12, ground := Ground.phase }, { on := 13, ground := Ground.phase }, { on := 14, ground := Ground.phase }, { on := 15, ground := Ground.phase }, { on := 16, ground := Ground.phase }, { on := 17, ground := Ground.phase }, { on := 18, ground := Ground.textOnly Departure.lateStores }, { on := 19, ground := Ground.phase }, { on := 20, ground := Ground.phase }], guard := none }) (v := ?_) rfl (by kernel_rfl) (by kernel_rfl) (by kernel_rfl) (fun _ _ _ h => h) (Or.inl ⟨by rfl, ?_⟩) (by assumption) ?_
              rotate_left
              · (intro W hSW; (try dsimp only at hSW); go_simp; first | done | with_reducible rfl)
              try simp only [Act.put, List.setIfInBounds_toArray, List.set_cons_zero, List.set_cons_succ]
              refine wpAnyH_take (i := 22) (oi := { dst := some 10, op := Op.assign (Operand.tmp 33), type := 31, pos := "more.go:12", after := #[{ on := 18, ground := Ground.data }, { on := 21, ground := Ground.chain }, { on := 0, ground := Ground.phase }, { on := 1, ground := Ground.phase }, { on := 2, ground := Ground.phase }, { on := 3, ground := Ground.phase }, { on := 4, ground := Ground.phase }, { on := 5, ground := Ground.phase }, { on := 6, ground := Ground.phase }, { on := 7, ground := Ground.phase }, { on := 8, ground := Ground.phase }, { on := 9, ground := Ground.phase }, { on := 10, ground := Ground.phase }, { on := 11, ground := Ground.phase }, { on := 12, ground := Ground.phase }, { on := 13, ground := Ground.phase }, { on := 14, ground := Ground.phase }, { on := 15, ground := Ground.phase }, { on := 16, ground := Ground.phase }, { on := 17, ground := Ground.phase }, { on := 18, ground := Ground.phase }, { on := 19, ground := Ground.phase }, { on := 20, ground := Ground.phase }, { on := 21, ground := Ground.phase }], guard := none }) (v := ?_) rfl (by kernel_rfl) (by kernel_rfl) (by kernel_rfl) (fun _ _ _ h => h) (Or.inl ⟨by rfl, ?_⟩) (by assumption) ?_
              rotate_left
              · (intro W hSW; (try dsimp only at hSW); go_simp; first | done | with_reducible rfl)
              try simp only [Act.put, List.setIfInBounds_toArray, List.set_cons_zero, List.set_cons_succ]
              refine wpAnyH_done (by kernel_rfl) ?_ _
              go_wp2_with fail
              go_meet
              case rel => exact ⟨gA, rfl, rfl, rfl, HGA.out, HFK.out, HFB.out⟩
            · go_simp
              refine hKQ.out _ _ trivial (fun _ => ?_)
              clear hKQ KQ
              try simp only [Act.put, List.setIfInBounds_toArray, List.set_cons_zero, List.set_cons_succ]
              obtain ⟨gA, hgA⟩ : ∃ g, g = V4.heap.size := ⟨_, rfl⟩
              obtain ⟨V7, hV7⟩ : ∃ V, V = V4.alloc (.cells #[.int .u8 0, .int .u8 0, .string ⟨#[]⟩, .int .i64 0] 30) := ⟨_, rfl⟩
              have hXV7 : Below V4.heap.size V4 V7 := by rw [hV7]; exact (Below.refl _ _).alloc (Nat.le_refl _) _
              have HAV7 : Hid (Blk V7 gA 30 #[.int .u8 0, .int .u8 0, .string ⟨#[]⟩, .int .i64 0]) := by rw [hV7, hgA]; exact Blk.new V4 30 _
              have HGA : Hid (w.heap.size ≤ gA) := by rw [hgA]; exact HBV4.out.size
              have HBV7 := Lib.hid (HBV4.out.trans (hXV7.mono HBV4.out.size))
              have HLV7 := Lib.hid (HLV4.out.old hXV7)
              have HGQ : Hid (gA ≠ q) := by have := HLV4.out.box.lt; show gA ≠ q; omega
              rw [← hV7, ← hgA]
              clear hV7 hgA hXV7
              refine wpAnyH_ready (rs := [14]) (by kernel_rfl) (by simp) ?_
              refine AllReadyH.cons (o := { dst := some 30, op := Op.call { callee := Callee.value (Operand.func 13), args := #[Operand.tmp 29], argTypes := #[24] }, type := 32, pos := "more.go:12", after := #[{ on := 13, ground := Ground.data }, { on := 13, ground := Ground.chain }], guard := none }) rfl (fun KQ hKQ => ?_) AllReadyH.nil
              go_simp
              go_at_call 13
              have hN := next_any w.heap.size q A' 7 c' 0 [36, 34, 92, 120, d1, d2, 34] V7 HLV7.out HQ.out
              rw [HT.out] at hN
              refine hN.mono ?_
              rintro e V8 ⟨rfl, hYV8, hkV8, _⟩
              refine hKQ.out _ _ trivial (fun _ => ?_)
              clear hKQ KQ
              try simp only [Act.put, List.setIfInBounds_toArray, List.set_cons_zero, List.set_cons_succ]
              clear hN
              have HBV8 := Lib.hid (HBV7.out.trans hYV8)
              have HAV8 : Hid (Blk V8 gA 30 #[.int .u8 0, .int .u8 0, .string ⟨#[]⟩, .int .i64 0]) := (hkV8 gA HAV7.out.lt HGQ.out).trans HAV7.out
              clear hYV8 hkV8
              dsimp only [Tok.cells]
              try simp only [Act.put, List.setIfInBounds_toArray, List.set_cons_zero, List.set_cons_succ]
              refine wpAnyH_take (i := 15) (oi := { dst := some 15, op := Op.move (Operand.tmp 30), type := 32, pos := "more.go:12", after := #[{ on := 14, ground := Ground.data }], guard := none }) (v := ?_) rfl (by kernel_rfl) (by kernel_rfl) (by kernel_rfl) (fun _ _ _ h => h) (Or.inl ⟨by rfl, ?_⟩) (by assumption) ?_
              rotate_left
              · (intro W hSW; (try dsimp only at hSW); go_simp; first | done | with_reducible rfl)
              try simp only [Act.put, List.setIfInBounds_toArray, List.set_cons_zero, List.set_cons_succ]
              refine wpAnyH_take (i := 16) (oi := { dst := some 31, op := Op.extract (Operand.tmp 15) 0, type := 30, pos := "more.go:12", after := #[{ on := 15, ground := Ground.data }], guard := none }) (v := ?_) rfl (by kernel_rfl) (by kernel_rfl) (by kernel_rfl) (fun _ _ _ h => h) (Or.inl ⟨by rfl, ?_⟩) (by assumption) ?_
              rotate_left
              · (intro W hSW; (try dsimp only at hSW); go_simp; first | done | with_reducible rfl)
              try simp only [Act.put, List.setIfInBounds_toArray, List.set_cons_zero, List.set_cons_succ]
              refine wpAnyH_take (i := 17) (oi := { dst := some 32, op := Op.extract (Operand.tmp 15) 1, type := 3, pos := "more.go:12", after := #[{ on := 15, ground := Ground.data }, { on := 20, ground := Ground.gcOnly Departure.lateStores }], guard := none }) (v := ?_) rfl (by kernel_rfl) (by kernel_rfl) (by kernel_rfl) (fun _ _ _ h => h) (Or.inl ⟨by rfl, ?_⟩) (by assumption) ?_
              rotate_left
              · (intro W hSW; (try dsimp only at hSW); go_simp; first | done | with_reducible rfl)
              try simp only [Act.put, List.setIfInBounds_toArray, List.set_cons_zero, List.set_cons_succ]
              refine wpAnyH_take (i := 18) (oi := { dst := some 33, op := Op.extract (Operand.tmp 15) 2, type := 31, pos := "more.go:12", after := #[{ on := 15, ground := Ground.data }, { on := 21, ground := Ground.gcOnly Departure.lateStores }], guard := none }) (v := ?_) rfl (by kernel_rfl) (by kernel_rfl) (by kernel_rfl) (fun _ _ _ h => h) (Or.inl ⟨by rfl, ?_⟩) (by assumption) ?_
              rotate_left
              · (intro W hSW; (try dsimp only at hSW); go_simp; first | done | with_reducible rfl)
              try simp only [Act.put, List.setIfInBounds_toArray, List.set_cons_zero, List.set_cons_succ]
              have hk30 := HAV8.out
              obtain ⟨p0, p1, p2, p3⟩ := Blk.c4 hk30
              have f0 := hk30.frozen 0
              have f1 := hk30.frozen 1
              have f2 := hk30.frozen 2
              have f3 := hk30.frozen 3
              have z1 : gA < V8.heap.size := hk30.lt
              have HFB := Lib.hid (set4B HBV8.out HGA.out (.int .u8 2) (.int .u8 36) (.string (bs [UInt8.ofNat cn])) (.int .i64 0))
              have HFK := Lib.hid (Blk.set4 hk30 (.int .u8 2) (.int .u8 36) (.string (bs [UInt8.ofNat cn])) (.int .i64 0))
              clear hk30
              refine wpAnyH_ready (rs := [20]) (by kernel_rfl) (by simp) ?_
              refine AllReadyH.cons (o := { dst := none, op := Op.store 30 (Operand.tmp 8) (Operand.tmp 31), type := 0, pos := "more.go:12", after := #[{ on := 19, ground := Ground.data }, { on := 16, ground := Ground.data }, { on := 14, ground := Ground.chain }, { on := 0, ground := Ground.phase }, { on := 1, ground := Ground.phase }, { on := 2, ground := Ground.phase }, { on := 3, ground := Ground.phase }, { on := 4, ground := Ground.phase }, { on := 5, ground := Ground.phase }, { on := 6, ground := Ground.phase }, { on := 7, ground := Ground.phase }, { on := 8, ground := Ground.phase }, { on := 9, ground := Ground.phase }, { on := 10, ground := Ground.phase }, { on := 11, ground := Ground.phase }, { on := 12, ground := Ground.phase }, { on := 13, ground := Ground.phase }, { on := 14, ground := Ground.phase }, { on := 15, ground := Ground.phase }, { on := 16, ground := Ground.phase }, { on := 17, ground := Ground.textOnly Departure.lateStores }, { on := 18, ground := Ground.textOnly Departure.lateStores }, { on := 19, ground := Ground.phase }], guard := none }) rfl (fun KQ hKQ => ?_) AllReadyH.nil
              go_simp
              refine hKQ.out _ _ trivial (fun _ => ?_)
              clear hKQ KQ
              try simp only [Act.put, List.setIfInBounds_toArray, List.set_cons_zero, List.set_cons_succ]
              refine wpAnyH_take (i := 21) (oi := { dst := some 9, op := Op.assign (Operand.tmp 32), type := 3, pos := "more.go:12", after := #[{ on := 17, ground := Ground.data }, { on := 20, ground := Ground.chain }, { on := 0, ground := Ground.phase }, { on := 1, ground := Ground.phase }, { on := 2, ground := Ground.phase }, { on := 3, ground := Ground.phase }, { on := 4, ground := Ground.phase }, { on := 5, ground := Ground.phase }, { on := 6, ground := Ground.phase }, { on := 7, ground := Ground.phase }, { on := 8, ground := Ground.phase }, { on := 9, ground := Ground.phase }, { on := 10, ground := Ground.phase }, { on := 11, ground := Ground.phase }, { on := 12, ground := Ground.phase }, { on := 13, ground := Ground.phase }, { on := 14, ground := Ground.phase }, { on := 15, ground := Ground.phase }, { on := 16, ground := Ground.phase }, { on := 17, ground := Ground.phase }, { on := 18, ground := Ground.textOnly Departure.lateStores }, { on := 19, ground := Ground.phase }, { on := 20, ground := Ground.phase }], guard := none }) (v := ?_) rfl (by kernel_rfl) (by kernel_rfl) (by kernel_rfl) (fun _ _ _ h => h) (Or.inl ⟨by rfl, ?_⟩) (by assumption) ?_
              rotate_left
              · (intro W hSW; (try dsimp only at hSW); go_simp; first | done | with_reducible rfl)
              try simp only [Act.put, List.setIfInBounds_toArray, List.set_cons_zero, List.set_cons_succ]
              refine wpAnyH_take (i := 22) (oi := { dst := some 10, op := Op.assign (Operand.tmp 33), type := 31, pos := "more.go:12", after := #[{ on := 18, ground := Ground.data }, { on := 21, ground := Ground.chain }, { on := 0, ground := Ground.phase }, { on := 1, ground := Ground.phase }, { on := 2, ground := Ground.phase }, { on := 3, ground := Ground.phase }, { on := 4, ground := Ground.phase }, { on := 5, ground := Ground.phase }, { on := 6, ground := Ground.phase }, { on := 7, ground := Ground.phase }, { on := 8, ground := Ground.phase }, { on := 9, ground := Ground.phase }, { on := 10, ground := Ground.phase }, { on := 11, ground := Ground.phase }, { on := 12, ground := Ground.phase }, { on := 13, ground := Ground.phase }, { on := 14, ground := Ground.phase }, { on := 15, ground := Ground.phase }, { on := 16, ground := Ground.phase }, { on := 17, ground := Ground.phase }, { on := 18, ground := Ground.phase }, { on := 19, ground := Ground.phase }, { on := 20, ground := Ground.phase }, { on := 21, ground := Ground.phase }], guard := none }) (v := ?_) rfl (by kernel_rfl) (by kernel_rfl) (by kernel_rfl) (fun _ _ _ h => h) (Or.inl ⟨by rfl, ?_⟩) (by assumption) ?_
              rotate_left
              · (intro W hSW; (try dsimp only at hSW); go_simp; first | done | with_reducible rfl)
              try simp only [Act.put, List.setIfInBounds_toArray, List.set_cons_zero, List.set_cons_succ]
              refine wpAnyH_done (by kernel_rfl) ?_ _
              go_wp2_with fail
              go_meet
              case rel => exact ⟨gA, rfl, rfl, rfl, HGA.out, HFK.out, HFB.out⟩
          · go_simp
            refine hKQ.out _ _ trivial (fun _ => ?_)
            clear hKQ KQ
            try simp only [Act.put, List.setIfInBounds_toArray, List.set_cons_zero, List.set_cons_succ]
            obtain ⟨gA, hgA⟩ : ∃ g, g = V3.heap.size := ⟨_, rfl⟩
            obtain ⟨V9, hV9⟩ : ∃ V, V = V3.alloc (.cells #[.int .u8 0, .int .u8 0, .string ⟨#[]⟩, .int .i64 0] 30) := ⟨_, rfl⟩
            have hXV9 : Below V3.heap.size V3 V9 := by rw [hV9]; exact (Below.refl _ _).alloc (Nat.le_refl _) _
            have HAV9 : Hid (Blk V9 gA 30 #[.int .u8 0, .int .u8 0, .string ⟨#[]⟩, .int .i64 0]) := by rw [hV9, hgA]; exact Blk.new V3 30 _
            have HGA : Hid (w.heap.size ≤ gA) := by rw [hgA]; exact HBV3.out.size
            have HBV9 := Lib.hid (HBV3.out.trans (hXV9.mono HBV3.out.size))
            have HSV9 := Lib.hid (HSV3.out.old hXV9)
            rw [← hV9, ← hgA]
            clear hV9 hgA hXV9
            refine wpAnyH_ready (rs := [13]) (by kernel_rfl) (by simp) ?_
            refine AllReadyH.cons (o := { dst := some 29, op := Op.call { callee := Callee.value (Operand.func 11), args := #[Operand.tmp 28], argTypes := #[22] }, type := 24, pos := "more.go:12", after := #[{ on := 12, ground := Ground.data }], guard := none }) rfl (fun KQ hKQ => ?_) AllReadyH.nil
            go_simp
            go_at_call 11
            refine (new_any (some ⟨gC, 0, none⟩) 7 cc [36, 34, 92, 120, d1, d2, 34] V9 HSV9.out (by omega) (HG.out.old HBV9.out)).mono ?_
            rintro e V10 ⟨q, A', c', rfl, hqV10, hL, hXV10⟩
            refine hKQ.out _ _ trivial (fun _ => ?_)
            clear hKQ KQ
            try simp only [Act.put, List.setIfInBounds_toArray, List.set_cons_zero, List.set_cons_succ]
            have HLV10 := Lib.hid hL
            clear hL
            have HBV10 := Lib.hid (HBV9.out.trans (hXV10.mono HBV9.out.size))
            have HAV10 := Lib.hid (HAV9.out.old hXV10)
            have HQ : Hid (w.heap.size ≤ q) := Nat.le_trans HBV9.out.size hqV10
            have HGQ : Hid (gA ≠ q) := by have := HAV9.out.lt; show gA ≠ q; omega
            clear hqV10
            clear hXV10
            refine wpAnyH_ready (rs := [14]) (by kernel_rfl) (by simp) ?_
            refine AllReadyH.cons (o := { dst := some 30, op := Op.call { callee := Callee.value (Operand.func 13), args := #[Operand.tmp 29], argTypes := #[24] }, type := 32, pos := "more.go:12", after := #[{ on := 13, ground := Ground.data }, { on := 13, ground := Ground.chain }], guard := none }) rfl (fun KQ hKQ => ?_) AllReadyH.nil
            go_simp
            go_at_call 13
            have hN := next_any w.heap.size q A' 7 c' 0 [36, 34, 92, 120, d1, d2, 34] V10 HLV10.out HQ.out
            rw [HT.out] at hN
            refine hN.mono ?_
            rintro e V11 ⟨rfl, hYV11, hkV11, _⟩
            refine hKQ.out _ _ trivial (fun _ => ?_)
            clear hKQ KQ
            try simp only [Act.put, List.setIfInBounds_toArray, List.set_cons_zero, List.set_cons_succ]
            clear hN
            have HBV11 := Lib.hid (HBV10.out.trans hYV11)
            have HAV11 : Hid (Blk V11 gA 30 #[.int .u8 0, .int .u8 0, .string ⟨#[]⟩, .int .i64 0]) := (hkV11 gA HAV10.out.lt HGQ.out).trans HAV10.out
            clear hYV11 hkV11
            dsimp only [Tok.cells]
            try simp only [Act.put, List.setIfInBounds_toArray, List.set_cons_zero, List.set_cons_succ]
            refine wpAnyH_take (i := 15) (oi := { dst := some 15, op := Op.move (Operand.tmp 30), type := 32, pos := "more.go:12", after := #[{ on := 14, ground := Ground.data }], guard := none }) (v := ?_) rfl (by kernel_rfl) (by kernel_rfl) (by kernel_rfl) (fun _ _ _ h => h) (Or.inl ⟨by rfl, ?_⟩) (by assumption) ?_
            rotate_left
            · (intro W hSW; (try dsimp only at hSW); go_simp; first | done | with_reducible rfl)
            try simp only [Act.put, List.setIfInBounds_toArray, List.set_cons_zero, List.set_cons_succ]
            refine wpAnyH_take (i := 16) (oi := { dst := some 31, op := Op.extract (Operand.tmp 15) 0, type := 30, pos := "more.go:12", after := #[{ on := 15, ground := Ground.data }], guard := none }) (v := ?_) rfl (by kernel_rfl) (by kernel_rfl) (by kernel_rfl) (fun _ _ _ h => h) (Or.inl ⟨by rfl, ?_⟩) (by assumption) ?_
            rotate_left
            · (intro W hSW; (try dsimp only at hSW); go_simp; first | done | with_reducible rfl)
            try simp only [Act.put, List.setIfInBounds_toArray, List.set_cons_zero, List.set_cons_succ]
            refine wpAnyH_take (i := 17) (oi := { dst := some 32, op := Op.extract (Operand.tmp 15) 1, type := 3, pos := "more.go:12", after := #[{ on := 15, ground := Ground.data }, { on := 20, ground := Ground.gcOnly Departure.lateStores }], guard := none }) (v := ?_) rfl (by kernel_rfl) (by kernel_rfl) (by kernel_rfl) (fun _ _ _ h => h) (Or.inl ⟨by rfl, ?_⟩) (by assumption) ?_
            rotate_left
            · (intro W hSW; (try dsimp only at hSW); go_simp; first | done | with_reducible rfl)
            try simp only [Act.put, List.setIfInBounds_toArray, List.set_cons_zero, List.set_cons_succ]
            refine wpAnyH_take (i := 18) (oi := { dst := some 33, op := Op.extract (Operand.tmp 15) 2, type := 31, pos := "more.go:12", after := #[{ on := 15, ground := Ground.data }, { on := 21, ground := Ground.gcOnly Departure.lateStores }], guard := none }) (v := ?_) rfl (by kernel_rfl) (by kernel_rfl) (by kernel_rfl) (fun _ _ _ h => h) (Or.inl ⟨by rfl, ?_⟩) (by assumption) ?_
            rotate_left
            · (intro W hSW; (try dsimp only at hSW); go_simp; first | done | with_reducible rfl)
            try simp only [Act.put, List.setIfInBounds_toArray, List.set_cons_zero, List.set_cons_succ]
            have hk30 := HAV11.out
            obtain ⟨p0, p1, p2, p3⟩ := Blk.c4 hk30
            have f0 := hk30.frozen 0
            have f1 := hk30.frozen 1
            have f2 := hk30.frozen 2
            have f3 := hk30.frozen 3
            have z1 : gA < V11.heap.size := hk30.lt
            have HFB := Lib.hid (set4B HBV11.out HGA.out (.int .u8 2) (.int .u8 36) (.string (bs [UInt8.ofNat cn])) (.int .i64 0))
            have HFK := Lib.hid (Blk.set4 hk30 (.int .u8 2) (.int .u8 36) (.string (bs [UInt8.ofNat cn])) (.int .i64 0))
            clear hk30
            refine wpAnyH_ready (rs := [20]) (by kernel_rfl) (by simp) ?_
            refine AllReadyH.cons (o := { dst := none, op := Op.store 30 (Operand.tmp 8) (Operand.tmp 31), type := 0, pos := "more.go:12", after := #[{ on := 19, ground := Ground.data }, { on := 16, ground := Ground.data }, { on := 14, ground := Ground.chain }, { on := 0, ground := Ground.phase }, { on := 1, ground := Ground.phase }, { on := 2, ground := Ground.phase }, { on := 3, ground := Ground.phase }, { on := 4, ground := Ground.phase }, { on := 5, ground := Ground.phase }, { on := 6, ground := Ground.phase }, { on := 7, ground := Ground.phase }, { on := 8, ground := Ground.phase }, { on := 9, ground := Ground.phase }, { on := 10, ground := Ground.phase }, { on := 11, ground := Ground.phase }, { on := 12, ground := Ground.phase }, { on := 13, ground := Ground.phase }, { on := 14, ground := Ground.phase }, { on := 15, ground := Ground.phase }, { on := 16, ground := Ground.phase }, { on := 17, ground := Ground.textOnly Departure.lateStores }, { on := 18, ground := Ground.textOnly Departure.lateStores }, { on := 19, ground := Ground.phase }], guard := none }) rfl (fun KQ hKQ => ?_) AllReadyH.nil
            go_simp
            refine hKQ.out _ _ trivial (fun _ => ?_)
            clear hKQ KQ
            try simp only [Act.put, List.setIfInBounds_toArray, List.set_cons_zero, List.set_cons_succ]
            refine wpAnyH_take (i := 21) (oi := { dst := some 9, op := Op.assign (Operand.tmp 32), type := 3, pos := "more.go:12", after := #[{ on := 17, ground := Ground.data }, { on := 20, ground := Ground.chain }, { on := 0, ground := Ground.phase }, { on := 1, ground := Ground.phase }, { on := 2, ground := Ground.phase }, { on := 3, ground := Ground.phase }, { on := 4, ground := Ground.phase }, { on := 5, ground := Ground.phase }, { on := 6, ground := Ground.phase }, { on := 7, ground := Ground.phase }, { on := 8, ground := Ground.phase }, { on := 9, ground := Ground.phase }, { on := 10, ground := Ground.phase }, { on := 11, ground := Ground.phase }, { on := 12, ground := Ground.phase }, { on := 13, ground := Ground.phase }, { on := 14, ground := Ground.phase }, { on := 15, ground := Ground.phase }, { on := 16, ground := Ground.phase }, { on := 17, ground := Ground.phase }, { on := 18, ground := Ground.textOnly Departure.lateStores }, { on := 19, ground := Ground.phase }, { on := 20, ground := Ground.phase }], guard := none }) (v := ?_) rfl (by kernel_rfl) (by kernel_rfl) (by kernel_rfl) (fun _ _ _ h => h) (Or.inl ⟨by rfl, ?_⟩) (by assumption) ?_
            rotate_left
            · (intro W hSW; (try dsimp only at hSW); go_simp; first | done | with_reducible rfl)
            try simp only [Act.put, List.setIfInBounds_toArray, List.set_cons_zero, List.set_cons_succ]
            refine wpAnyH_take (i := 22) (oi := { dst := some 10, op := Op.assign (Operand.tmp 33), type := 31, pos := "more.go:12", after := #[{ on := 18, ground := Ground.data }, { on := 21, ground := Ground.chain }, { on := 0, ground := Ground.phase }, { on := 1, ground := Ground.phase }, { on := 2, ground := Ground.phase }, { on := 3, ground := Ground.phase }, { on := 4, ground := Ground.phase }, { on := 5, ground := Ground.phase }, { on := 6, ground := Ground.phase }, { on := 7, ground := Ground.phase }, { on := 8, ground := Ground.phase }, { on := 9, ground := Ground.phase }, { on := 10, ground := Ground.phase }, { on := 11, ground := Ground.phase }, { on := 12, ground := Ground.phase }, { on := 13, ground := Ground.phase }, { on := 14, ground := Ground.phase }, { on := 15, ground := Ground.phase }, { on := 16, ground := Ground.phase }, { on := 17, ground := Ground.phase }, { on := 18, ground := Ground.phase }, { on := 19, ground := Ground.phase }, { on := 20, ground := Ground.phase }, { on := 21, ground := Ground.phase }], guard := none }) (v := ?_) rfl (by kernel_rfl) (by kernel_rfl) (by kernel_rfl) (fun _ _ _ h => h) (Or.inl ⟨by rfl, ?_⟩) (by assumption) ?_
            rotate_left
            · (intro W hSW; (try dsimp only at hSW); go_simp; first | done | with_reducible rfl)
            try simp only [Act.put, List.setIfInBounds_toArray, List.set_cons_zero, List.set_cons_succ]
            refine wpAnyH_done (by kernel_rfl) ?_ _
            go_wp2_with fail
            go_meet
            case rel => exact ⟨gA, rfl, rfl, rfl, HGA.out, HFK.out, HFB.out⟩
        · go_simp
          refine hKQ.out _ _ trivial (fun _ => ?_)
          clear hKQ KQ
          try simp only [Act.put, List.setIfInBounds_toArray, List.set_cons_zero, List.set_cons_succ]
          obtain ⟨gA, hgA⟩ : ∃ g, g = V1.heap.size := ⟨_, rfl⟩
          obtain ⟨V12, hV12⟩ : ∃ V, V = V1.alloc (.cells #[.int .u8 0, .int .u8 0, .string ⟨#[]⟩, .int .i64 0] 30) := ⟨_, rfl⟩
          have hXV12 : Below V1.heap.size V1 V12 := by rw [hV12]; exact (Below.refl _ _).alloc (Nat.le_refl _) _
          have HAV12 : Hid (Blk V12 gA 30 #[.int .u8 0, .int .u8 0, .string ⟨#[]⟩, .int .i64 0]) := by rw [hV12, hgA]; exact Blk.new V1 30 _
          have HGA : Hid (w.heap.size ≤ gA) := by rw [hgA]; exact HBV1.out.size
          have HBV12 := Lib.hid (HBV1.out.trans (hXV12.mono HBV1.out.size))
          have HSV12 := Lib.hid (HSV1.out.old hXV12)
          rw [← hV12, ← hgA]
          clear hV12 hgA hXV12
          refine wpAnyH_ready (rs := [12]) (by kernel_rfl) (by simp) ?_
          refine AllReadyH.cons (o := { dst := some 28, op := Op.convert 9 22 (Operand.tmp 27), type := 22, pos := "more.go:12", after := #[{ on := 11, ground := Ground.data }], guard := none }) rfl (fun KQ hKQ => ?_) AllReadyH.nil
          obtain ⟨cc, V13, kB, hSP, hXV13, hzz⟩ := conv_str V12 [36, 34, 92, 120, d1, d2, 34]
          rw [← HPS.out] at kB
          obtain ⟨gC, hgC⟩ : ∃ g, g = V12.heap.size := ⟨_, rfl⟩
          rw [← hgC] at kB hSP
          clear hzz
          change _ = Result.ok (Value.slice _ 7 cc) _ at kB
          go_simp
          refine hKQ.out _ _ trivial (fun _ => ?_)
          clear hKQ KQ
          try simp only [Act.put, List.setIfInBounds_toArray, List.set_cons_zero, List.set_cons_succ]
          have HSV13 := Lib.hid hSP
          try rw [← hgC]
          clear kB hSP hgC
          have HBV13 := Lib.hid (HBV12.out.trans (hXV13.mono HBV12.out.size))
          have HAV13 := Lib.hid (HAV12.out.old hXV13)
          clear hXV13
          refine wpAnyH_ready (rs := [13]) (by kernel_rfl) (by simp) ?_
          refine AllReadyH.cons (o := { dst := some 29, op := Op.call { callee := Callee.value (Operand.func 11), args := #[Operand.tmp 28], argTypes := #[22] }, type := 24, pos := "more.go:12", after := #[{ on := 12, ground := Ground.data }], guard := none }) rfl (fun KQ hKQ => ?_) AllReadyH.nil
          go_simp
          go_at_call 11
          refine (new_any (some ⟨gC, 0, none⟩) 7 cc [36, 34, 92, 120, d1, d2, 34] V13 HSV13.out (by omega) (HG.out.old HBV13.out)).mono ?_
          rintro e V14 ⟨q, A', c', rfl, hqV14, hL, hXV14⟩
          refine hKQ.out _ _ trivial (fun _ => ?_)
          clear hKQ KQ
          try simp only [Act.put, List.setIfInBounds_toArray, List.set_cons_zero, List.set_cons_succ]
          have HLV14 := Lib.hid hL
          clear hL
          have HBV14 := Lib.hid (HBV13.out.trans (hXV14.mono HBV13.out.size))
          have HAV14 := Lib.hid (HAV13.out.old hXV14)
          have HQ : Hid (w.heap.size ≤ q) := Nat.le_trans HBV13.out.size hqV14
          have HGQ : Hid (gA ≠ q) := by have := HAV13.out.lt; show gA ≠ q; omega
          clear hqV14
          clear hXV14
          refine wpAnyH_ready (rs := [14]) (by kernel_rfl) (by simp) ?_
          refine AllReadyH.cons (o := { dst := some 30, op := Op.call { callee := Callee.value (Operand.func 13), args := #[Operand.tmp 29], argTypes := #[24] }, type := 32, pos := "more.go:12", after := #[{ on := 13, ground := Ground.data }, { on := 13, ground := Ground.chain }], guard := none }) rfl (fun KQ hKQ => ?_) AllReadyH.nil
          go_simp
          go_at_call 13
          have hN := next_any w.heap.size q A' 7 c' 0 [36, 34, 92, 120, d1, d2, 34] V14 HLV14.out HQ.out
          rw [HT.out] at hN
          refine hN.mono ?_
          rintro e V15 ⟨rfl, hYV15, hkV15, _⟩
          refine hKQ.out _ _ trivial (fun _ => ?_)
          clear hKQ KQ
          try simp only [Act.put, List.setIfInBounds_toArray, List.set_cons_zero, List.set_cons_succ]
          clear hN
          have HBV15 := Lib.hid (HBV14.out.trans hYV15)
          have HAV15 : Hid (Blk V15 gA 30 #[.int .u8 0, .int .u8 0, .string ⟨#[]⟩, .int .i64 0]) := (hkV15 gA HAV14.out.lt HGQ.out).trans HAV14.out
          clear hYV15 hkV15
          dsimp only [Tok.cells]
          try simp only [Act.put, List.setIfInBounds_toArray, List.set_cons_zero, List.set_cons_succ]
          refine wpAnyH_take (i := 15) (oi := { dst := some 15, op := Op.move (Operand.tmp 30), type := 32, pos := "more.go:12", after := #[{ on := 14, ground := Ground.data }], guard := none }) (v := ?_) rfl (by kernel_rfl) (by kernel_rfl) (by kernel_rfl) (fun _ _ _ h => h) (Or.inl ⟨by rfl, ?_⟩) (by assumption) ?_
          rotate_left
          · (intro W hSW; (try dsimp only at hSW); go_simp; first | done | with_reducible rfl)
          try simp only [Act.put, List.setIfInBounds_toArray, List.set_cons_zero, List.set_cons_succ]
          refine wpAnyH_take (i := 16) (oi := { dst := some 31, op := Op.extract (Operand.tmp 15) 0, type := 30, pos := "more.go:12", after := #[{ on := 15, ground := Ground.data }], guard := none }) (v := ?_) rfl (by kernel_rfl) (by kernel_rfl) (by kernel_rfl) (fun _ _ _ h => h) (Or.inl ⟨by rfl, ?_⟩) (by assumption) ?_
          rotate_left
          · (intro W hSW; (try dsimp only at hSW); go_simp; first | done | with_reducible rfl)
          try simp only [Act.put, List.setIfInBounds_toArray, List.set_cons_zero, List.set_cons_succ]
          refine wpAnyH_take (i := 17) (oi := { dst := some 32, op := Op.extract (Operand.tmp 15) 1, type := 3, pos := "more.go:12", after := #[{ on := 15, ground := Ground.data }, { on := 20, ground := Ground.gcOnly Departure.lateStores }], guard := none }) (v := ?_) rfl (by kernel_rfl) (by kernel_rfl) (by kernel_rfl) (fun _ _ _ h => h) (Or.inl ⟨by rfl, ?_⟩) (by assumption) ?_
          rotate_left
          · (intro W hSW; (try dsimp only at hSW); go_simp; first | done | with_reducible rfl)
          try simp only [Act.put, List.setIfInBounds_toArray, List.set_cons_zero, List.set_cons_succ]
          refine wpAnyH_take (i := 18) (oi := { dst := some 33, op := Op.extract (Operand.tmp 15) 2, type := 31, pos := "more.go:12", after := #[{ on := 15, ground := Ground.data }, { on := 21, ground := Ground.gcOnly Departure.lateStores }], guard := none }) (v := ?_) rfl (by kernel_rfl) (by kernel_rfl) (by kernel_rfl) (fun _ _ _ h => h) (Or.inl ⟨by rfl, ?_⟩) (by assumption) ?_
          rotate_left
          · (intro W hSW; (try dsimp only at hSW); go_simp; first | done | with_reducible rfl)
          try simp only [Act.put, List.setIfInBounds_toArray, List.set_cons_zero, List.set_cons_succ]
          have hk30 := HAV15.out
          obtain ⟨p0, p1, p2, p3⟩ := Blk.c4 hk30
          have f0 := hk30.frozen 0
          have f1 := hk30.frozen 1
          have f2 := hk30.frozen 2
          have f3 := hk30.frozen 3
          have z1 : gA < V15.heap.size := hk30.lt
          have HFB := Lib.hid (set4B HBV15.out HGA.out (.int .u8 2) (.int .u8 36) (.string (bs [UInt8.ofNat cn])) (.int .i64 0))
          have HFK := Lib.hid (Blk.set4 hk30 (.int .u8 2) (.int .u8 36) (.string (bs [UInt8.ofNat cn])) (.int .i64 0))
          clear hk30
          refine wpAnyH_ready (rs := [20]) (by kernel_rfl) (by simp) ?_
          refine AllReadyH.cons (o := { dst := none, op := Op.store 30 (Operand.tmp 8) (Operand.tmp 31), type := 0, pos := "more.go:12", after := #[{ on := 19, ground := Ground.data }, { on := 16, ground := Ground.data }, { on := 14, ground := Ground.chain }, { on := 0, ground := Ground.phase }, { on := 1, ground := Ground.phase }, { on := 2, ground := Ground.phase }, { on := 3, ground := Ground.phase }, { on := 4, ground := Ground.phase }, { on := 5, ground := Ground.phase }, { on := 6, ground := Ground.phase }, { on := 7, ground := Ground.phase }, { on := 8, ground := Ground.phase }, { on := 9, ground := Ground.phase }, { on := 10, ground := Ground.phase }, { on := 11, ground := Ground.phase }, { on := 12, ground := Ground.phase }, { on := 13, ground := Ground.phase }, { on := 14, ground := Ground.phase }, { on := 15, ground := Ground.phase }, { on := 16, ground := Ground.phase }, { on := 17, ground := Ground.textOnly Departure.lateStores }, { on := 18, ground := Ground.textOnly Departure.lateStores }, { on := 19, ground := Ground.phase }], guard := none }) rfl (fun KQ hKQ => ?_) AllReadyH.nil
          go_simp
          refine hKQ.out _ _ trivial (fun _ => ?_)
          clear hKQ KQ
          try simp only [Act.put, List.setIfInBounds_toArray, List.set_cons_zero, List.set_cons_succ]
          refine wpAnyH_take (i := 21) (oi := { dst := some 9, op := Op.assign (Operand.tmp 32), type := 3, pos := "more.go:12", after := #[{ on := 17, ground := Ground.data }, { on := 20, ground := Ground.chain }, { on := 0, ground := Ground.phase }, { on := 1, ground := Ground.phase }, { on := 2, ground := Ground.phase }, { on := 3, ground := Ground.phase }, { on := 4, ground := Ground.phase }, { on := 5, ground := Ground.phase }, { on := 6, ground := Ground.phase }, { on := 7, ground := Ground.phase }, { on := 8, ground := Ground.phase }, { on := 9, ground := Ground.phase }, { on := 10, ground := Ground.phase }, { on := 11, ground := Ground.phase }, { on := 12, ground := Ground.phase }, { on := 13, ground := Ground.phase }, { on := 14, ground := Ground.phase }, { on := 15, ground := Ground.phase }, { on := 16, ground := Ground.phase }, { on := 17, ground := Ground.phase }, { on := 18, ground := Ground.textOnly Departure.lateStores }, { on := 19, ground := Ground.phase }, { on := 20, ground := Ground.phase }], guard := none }) (v := ?_) rfl (by kernel_rfl) (by kernel_rfl) (by kernel_rfl) (fun _ _ _ h => h) (Or.inl ⟨by rfl, ?_⟩) (by assumption) ?_
          rotate_left
          · (intro W hSW; (try dsimp only at hSW); go_simp; first | done | with_reducible rfl)
          try simp only [Act.put, List.setIfInBounds_toArray, List.set_cons_zero, List.set_cons_succ]
          refine wpAnyH_take (i := 22) (oi := { dst := some 10, op := Op.assign (Operand.tmp 33), type := 31, pos := "more.go:12", after := #[{ on := 18, ground := Ground.data }, { on := 21, ground := Ground.chain }, { on := 0, ground := Ground.phase }, { on := 1, ground := Ground.phase }, { on := 2, ground := Ground.phase }, { on := 3, ground := Ground.phase }, { on := 4, ground := Ground.phase }, { on := 5, ground := Ground.phase }, { on := 6, ground := Ground.phase }, { on := 7, ground := Ground.phase }, { on := 8, ground := Ground.phase }, { on := 9, ground := Ground.phase }, { on := 10, ground := Ground.phase }, { on := 11, ground := Ground.phase }, { on := 12, ground := Ground.phase }, { on := 13, ground := Ground.phase }, { on := 14, ground := Ground.phase }, { on := 15, ground := Ground.phase }, { on := 16, ground := Ground.phase }, { on := 17, ground := Ground.phase }, { on := 18, ground := Ground.phase }, { on := 19, ground := Ground.phase }, { on := 20, ground := Ground.phase }, { on := 21, ground := Ground.phase }], guard := none }) (v := ?_) rfl (by kernel_rfl) (by kernel_rfl) (by kernel_rfl) (fun _ _ _ h => h) (Or.inl ⟨by rfl, ?_⟩) (by assumption) ?_
          rotate_left
          · (intro W hSW; (try dsimp only at hSW); go_simp; first | done | with_reducible rfl)
          try simp only [Act.put, List.setIfInBounds_toArray, List.set_cons_zero, List.set_cons_succ]
          refine wpAnyH_done (by kernel_rfl) ?_ _
          go_wp2_with fail
          go_meet
          case rel => exact ⟨gA, rfl, rfl, rfl, HGA.out, HFK.out, HFB.out⟩
      · go_simp
        refine hKQ.out _ _ trivial (fun _ => ?_)
        clear hKQ KQ
        try simp only [Act.put, List.setIfInBounds_toArray, List.set_cons_zero, List.set_cons_succ]
        obtain ⟨gA, hgA⟩ : ∃ g, g = V1.heap.size := ⟨_, rfl⟩
        obtain ⟨V16, hV16⟩ : ∃ V, V = V1.alloc (.cells #[.int .u8 0, .int .u8 0, .string ⟨#[]⟩, .int .i64 0] 30) := ⟨_, rfl⟩
        have hXV16 : Below V1.heap.size V1 V16 := by rw [hV16]; exact (Below.refl _ _).alloc (Nat.le_refl _) _
        have HAV16 : Hid (Blk V16 gA 30 #[.int .u8 0, .int .u8 0, .string ⟨#[]⟩, .int .i64 0]) := by rw [hV16, hgA]; exact Blk.new V1 30 _
        have HGA : Hid (w.heap.size ≤ gA) := by rw [hgA]; exact HBV1.out.size
        have HBV16 := Lib.hid (HBV1.out.trans (hXV16.mono HBV1.out.size))
        have HSV16 := Lib.hid (HSV1.out.old hXV16)
        rw [← hV16, ← hgA]
        clear hV16 hgA hXV16
        refine wpAnyH_ready (rs := [9]) (by kernel_rfl) (by simp) ?_
        refine AllReadyH.cons (o := { dst := some 25, op := Op.convert 22 9 (Operand.tmp 24), type := 9, pos := "more.go:12", after := #[{ on := 8, ground := Ground.data }], guard := none }) rfl (fun KQ hKQ => ?_) AllReadyH.nil
        have kA := conv_back V16 gB 0 2 2 [d1, d2] HSV16.out
        go_simp
        refine hKQ.out _ _ trivial (fun _ => ?_)
        clear hKQ KQ
        try simp only [Act.put, List.setIfInBounds_toArray, List.set_cons_zero, List.set_cons_succ]
        clear kA
        refine wpAnyH_take (i := 10) (oi := { dst := some 26, op := Op.binOp BinOp.add 9 (Operand.const (Value.string { data := #[36, 34, 92, 120] })) (Operand.tmp 25) 9, type := 9, pos := "more.go:12", after := #[{ on := 9, ground := Ground.data }], guard := none }) (v := ?_) rfl (by kernel_rfl) (by kernel_rfl) (by kernel_rfl) (fun _ _ _ h => h) (Or.inl ⟨by rfl, ?_⟩) (by assumption) ?_
        rotate_left
        · (intro W hSW; (try dsimp only at hSW); go_simp; first | done | with_reducible rfl)
        try simp only [Act.put, List.setIfInBounds_toArray, List.set_cons_zero, List.set_cons_succ]
        refine wpAnyH_take (i := 11) (oi := { dst := some 27, op := Op.binOp BinOp.add 9 (Operand.tmp 26) (Operand.const (Value.string { data := #[34] })) 9, type := 9, pos := "more.go:12", after := #[{ on := 10, ground := Ground.data }], guard := none }) (v := ?_) rfl (by kernel_rfl) (by kernel_rfl) (by kernel_rfl) (fun _ _ _ h => h) (Or.inl ⟨by rfl, ?_⟩) (by assumption) ?_
        rotate_left
        · (intro W hSW; (try dsimp only at hSW); go_simp; first | done | with_reducible rfl)
        try simp only [Act.put, List.setIfInBounds_toArray, List.set_cons_zero, List.set_cons_succ]
        refine wpAnyH_ready (rs := [12]) (by kernel_rfl) (by simp) ?_
        refine AllReadyH.cons (o := { dst := some 28, op := Op.convert 9 22 (Operand.tmp 27), type := 22, pos := "more.go:12", after := #[{ on := 11, ground := Ground.data }], guard := none }) rfl (fun KQ hKQ => ?_) AllReadyH.nil
        obtain ⟨cc, V18, kB, hSP, hXV18, hzz⟩ := conv_str V16 [36, 34, 92, 120, d1, d2, 34]
        rw [← HPS.out] at kB
        obtain ⟨gC, hgC⟩ : ∃ g, g = V16.heap.size := ⟨_, rfl⟩
        rw [← hgC] at kB hSP
        clear hzz
        change _ = Result.ok (Value.slice _ 7 cc) _ at kB
        go_simp
        refine hKQ.out _ _ trivial (fun _ => ?_)
        clear hKQ KQ
        try simp only [Act.put, List.setIfInBounds_toArray, List.set_cons_zero, List.set_cons_succ]
        have HSV18 := Lib.hid hSP
        try rw [← hgC]
        clear kB hSP hgC
        have HBV18 := Lib.hid (HBV16.out.trans (hXV18.mono HBV16.out.size))
        have HAV18 := Lib.hid (HAV16.out.old hXV18)
        clear hXV18
        refine wpAnyH_ready (rs := [13]) (by kernel_rfl) (by simp) ?_
        refine AllReadyH.cons (o := { dst := some 29, op := Op.call { callee := Callee.value (Operand.func 11), args := #[Operand.tmp 28], argTypes := #[22] }, type := 24, pos := "more.go:12", after := #[{ on := 12, ground := Ground.data }], guard := none }) rfl (fun KQ hKQ => ?_) AllReadyH.nil
        go_simp
        go_at_call 11
        refine (new_any (some ⟨gC, 0, none⟩) 7 cc [36, 34, 92, 120, d1, d2, 34] V18 HSV18.out (by omega) (HG.out.old HBV18.out)).mono ?_
        rintro e V19 ⟨q, A', c', rfl, hqV19, hL, hXV19⟩
        refine hKQ.out _ _ trivial (fun _ => ?_)
        clear hKQ KQ
        try simp only [Act.put, List.setIfInBounds_toArray, List.set_cons_zero, List.set_cons_succ]
        have HLV19 := Lib.hid hL
        clear hL
        have HBV19 := Lib.hid (HBV18.out.trans (hXV19.mono HBV18.out.size))
        have HAV19 := Lib.hid (HAV18.out.old hXV19)
        have HQ : Hid (w.heap.size ≤ q) := Nat.le_trans HBV18.out.size hqV19
        have HGQ : Hid (gA ≠ q) := by have := HAV18.out.lt; show gA ≠ q; omega
        clear hqV19
        clear hXV19
        refine wpAnyH_ready (rs := [14]) (by kernel_rfl) (by simp) ?_
        refine AllReadyH.cons (o := { dst := some 30, op := Op.call { callee := Callee.value (Operand.func 13), args := #[Operand.tmp 29], argTypes := #[24] }, type := 32, pos := "more.go:12", after := #[{ on := 13, ground := Ground.data }, { on := 13, ground := Ground.chain }], guard := none }) rfl (fun KQ hKQ => ?_) AllReadyH.nil
        go_simp
        go_at_call 13
        have hN := next_any w.heap.size q A' 7 c' 0 [36, 34, 92, 120, d1, d2, 34] V19 HLV19.out HQ.out
        rw [HT.out] at hN
        refine hN.mono ?_
        rintro e V20 ⟨rfl, hYV20, hkV20, _⟩
        refine hKQ.out _ _ trivial (fun _ => ?_)
        clear hKQ KQ
        try simp only [Act.put, List.setIfInBounds_toArray, List.set_cons_zero, List.set_cons_succ]
        clear hN
        have HBV20 := Lib.hid (HBV19.out.trans hYV20)
        have HAV20 : Hid (Blk V20 gA 30 #[.int .u8 0, .int .u8 0, .string ⟨#[]⟩, .int .i64 0]) := (hkV20 gA HAV19.out.lt HGQ.out).trans HAV19.out
        clear hYV20 hkV20
        dsimp only [Tok.cells]
        try simp only [Act.put, List.setIfInBounds_toArray, List.set_cons_zero, List.set_cons_succ]
        refine wpAnyH_take (i := 15) (oi := { dst := some 15, op := Op.move (Operand.tmp 30), type := 32, pos := "more.go:12", after := #[{ on := 14, ground := Ground.data }], guard := none }) (v := ?_) rfl (by kernel_rfl) (by kernel_rfl) (by kernel_rfl) (fun _ _ _ h => h) (Or.inl ⟨by rfl, ?_⟩) (by assumption) ?_
        rotate_left
        · (intro W hSW; (try dsimp only at hSW); go_simp; first | done | with_reducible rfl)
        try simp only [Act.put, List.setIfInBounds_toArray, List.set_cons_zero, List.set_cons_succ]
        refine wpAnyH_take (i := 16) (oi := { dst := some 31, op := Op.extract (Operand.tmp 15) 0, type := 30, pos := "more.go:12", after := #[{ on := 15, ground := Ground.data }], guard := none }) (v := ?_) rfl (by kernel_rfl) (by kernel_rfl) (by kernel_rfl) (fun _ _ _ h => h) (Or.inl ⟨by rfl, ?_⟩) (by assumption) ?_
        rotate_left
        · (intro W hSW; (try dsimp only at hSW); go_simp; first | done | with_reducible rfl)
        try simp only [Act.put, List.setIfInBounds_toArray, List.set_cons_zero, List.set_cons_succ]
        refine wpAnyH_take (i := 17) (oi := { dst := some 32, op := Op.extract (Operand.tmp 15) 1, type := 3, pos := "more.go:12", after := #[{ on := 15, ground := Ground.data }, { on := 20, ground := Ground.gcOnly Departure.lateStores }], guard := none }) (v := ?_) rfl (by kernel_rfl) (by kernel_rfl) (by kernel_rfl) (fun _ _ _ h => h) (Or.inl ⟨by rfl, ?_⟩) (by assumption) ?_
        rotate_left
        · (intro W hSW; (try dsimp only at hSW); go_simp; first | done | with_reducible rfl)
        try simp only [Act.put, List.setIfInBounds_toArray, List.set_cons_zero, List.set_cons_succ]
        refine wpAnyH_take (i := 18) (oi := { dst := some 33, op := Op.extract (Operand.tmp 15) 2, type := 31, pos := "more.go:12", after := #[{ on := 15, ground := Ground.data }, { on := 21, ground := Ground.gcOnly Departure.lateStores }], guard := none }) (v := ?_) rfl (by kernel_rfl) (by kernel_rfl) (by kernel_rfl) (fun _ _ _ h => h) (Or.inl ⟨by rfl, ?_⟩) (by assumption) ?_
        rotate_left
        · (intro W hSW; (try dsimp only at hSW); go_simp; first | done | with_reducible rfl)
        try simp only [Act.put, List.setIfInBounds_toArray, List.set_cons_zero, List.set_cons_succ]
        have hk30 := HAV20.out
        obtain ⟨p0, p1, p2, p3⟩ := Blk.c4 hk30
        have f0 := hk30.frozen 0
        have f1 := hk30.frozen 1
        have f2 := hk30.frozen 2
        have f3 := hk30.frozen 3
        have z1 : gA < V20.heap.size := hk30.lt
        have HFB := Lib.hid (set4B HBV20.out HGA.out (.int .u8 2) (.int .u8 36) (.string (bs [UInt8.ofNat cn])) (.int .i64 0))
        have HFK := Lib.hid (Blk.set4 hk30 (.int .u8 2) (.int .u8 36) (.string (bs [UInt8.ofNat cn])) (.int .i64 0))
        clear hk30
        refine wpAnyH_ready (rs := [20]) (by kernel_rfl) (by simp) ?_
        refine AllReadyH.cons (o := { dst := none, op := Op.store 30 (Operand.tmp 8) (Operand.tmp 31), type := 0, pos := "more.go:12", after := #[{ on := 19, ground := Ground.data }, { on := 16, ground := Ground.data }, { on := 14, ground := Ground.chain }, { on := 0, ground := Ground.phase }, { on := 1, ground := Ground.phase }, { on := 2, ground := Ground.phase }, { on := 3, ground := Ground.phase }, { on := 4, ground := Ground.phase }, { on := 5, ground := Ground.phase }, { on := 6, ground := Ground.phase }, { on := 7, ground := Ground.phase }, { on := 8, ground := Ground.phase }, { on := 9, ground := Ground.phase }, { on := 10, ground := Ground.phase }, { on := 11, ground := Ground.phase }, { on := 12, ground := Ground.phase }, { on := 13, ground := Ground.phase }, { on := 14, ground := Ground.phase }, { on := 15, ground := Ground.phase }, { on := 16, ground := Ground.phase }, { on := 17, ground := Ground.textOnly Departure.lateStores }, { on := 18, ground := Ground.textOnly Departure.lateStores }, { on := 19, ground := Ground.phase }], guard := none }) rfl (fun KQ hKQ => ?_) AllReadyH.nil
        go_simp
        refine hKQ.out _ _ trivial (fun _ => ?_)
        clear hKQ KQ
        try simp only [Act.put, List.setIfInBounds_toArray, List.set_cons_zero, List.set_cons_succ]
        refine wpAnyH_take (i := 21) (oi := { dst := some 9, op := Op.assign (Operand.tmp 32), type := 3, pos := "more.go:12", after := #[{ on := 17, ground := Ground.data }, { on := 20, ground := Ground.chain }, { on := 0, ground := Ground.phase }, { on := 1, ground := Ground.phase }, { on := 2, ground := Ground.phase }, { on := 3, ground := Ground.phase }, { on := 4, ground := Ground.phase }, { on := 5, ground := Ground.phase }, { on := 6, ground := Ground.phase }, { on := 7, ground := Ground.phase }, { on := 8, ground := Ground.phase }, { on := 9, ground := Ground.phase }, { on := 10, ground := Ground.phase }, { on := 11, ground := Ground.phase }, { on := 12, ground := Ground.phase }, { on := 13, ground := Ground.phase }, { on := 14, ground := Ground.phase }, { on := 15, ground := Ground.phase }, { on := 16, ground := Ground.phase }, { on := 17, ground := Ground.phase }, { on := 18, ground := Ground.textOnly Departure.lateStores }, { on := 19, ground := Ground.phase }, { on := 20, ground := Ground.phase }], guard := none }) (v := ?_) rfl (by kernel_rfl) (by kernel_rfl) (by kernel_rfl) (fun _ _ _ h => h) (Or.inl ⟨by rfl, ?_⟩) (by assumption) ?_
        rotate_left
        · (intro W hSW; (try dsimp only at hSW); go_simp; first | done | with_reducible rfl)
        try simp only [Act.put, List.setIfInBounds_toArray, List.set_cons_zero, List.set_cons_succ]
        refine wpAnyH_take (i := 22) (oi := { dst := some 10, op := Op.assign (Operand.tmp 33), type := 31, pos := "more.go:12", after := #[{ on := 18, ground := Ground.data }, { on := 21, ground := Ground.chain }, { on := 0, ground := Ground.phase }, { on := 1, ground := Ground.phase }, { on := 2, ground := Ground.phase }, { on := 3, ground := Ground.phase }, { on := 4, ground := Ground.phase }, { on := 5, ground := Ground.phase }, { on := 6, ground := Ground.phase }, { on := 7, ground := Ground.phase }, { on := 8, ground := Ground.phase }, { on := 9, ground := Ground.phase }, { on := 10, ground := Ground.phase }, { on := 11, ground := Ground.phase }, { on := 12, ground := Ground.phase }, { on := 13, ground := Ground.phase }, { on := 14, ground := Ground.phase }, { on := 15, ground := Ground.phase }, { on := 16, ground := Ground.phase }, { on := 17, ground := Ground.phase }, { on := 18, ground := Ground.phase }, { on := 19, ground := Ground.phase }, { on := 20, ground := Ground.phase }, { on := 21, ground := Ground.phase }], guard := none }) (v := ?_) rfl (by kernel_rfl) (by kernel_rfl) (by kernel_rfl) (fun _ _ _ h => h) (Or.inl ⟨by rfl, ?_⟩) (by assumption) ?_
        rotate_left
        · (intro W hSW; (try dsimp only at hSW); go_simp; first | done | with_reducible rfl)
        try simp only [Act.put, List.setIfInBounds_toArray, List.set_cons_zero, List.set_cons_succ]
        refine wpAnyH_done (by kernel_rfl) ?_ _
        go_wp2_with fail
        go_meet
        case rel => exact ⟨gA, rfl, rfl, rfl, HGA.out, HFK.out, HFB.out⟩
    · go_simp
      refine hKQ.out _ _ trivial (fun _ => ?_)
      clear hKQ KQ
      try simp only [Act.put, List.setIfInBounds_toArray, List.set_cons_zero, List.set_cons_succ]
      obtain ⟨gA, hgA⟩ : ∃ g, g = V0.heap.size := ⟨_, rfl⟩
      obtain ⟨V21, hV21⟩ : ∃ V, V = V0.alloc (.cells #[.int .u8 0, .int .u8 0, .string ⟨#[]⟩, .int .i64 0] 30) := ⟨_, rfl⟩
      have hXV21 : Below V0.heap.size V0 V21 := by rw [hV21]; exact (Below.refl _ _).alloc (Nat.le_refl _) _
      have HAV21 : Hid (Blk V21 gA 30 #[.int .u8 0, .int .u8 0, .string ⟨#[]⟩, .int .i64 0]) := by rw [hV21, hgA]; exact Blk.new V0 30 _
      have HGA : Hid (w.heap.size ≤ gA) := by rw [hgA]; exact HBV0.out.size
      have HBV21 := Lib.hid (HBV0.out.trans (hXV21.mono HBV0.out.size))
      rw [← hV21, ← hgA]
      clear hV21 hgA hXV21
      refine wpAnyH_ready (rs := [8]) (by kernel_rfl) (by simp) ?_
      refine AllReadyH.cons (o := { dst := some 24, op := Op.buildSlice 22 2 #[(0, Operand.tmp 19), (1, Operand.tmp 23)], type := 22, pos := "more.go:12", after := #[{ on := 3, ground := Ground.data }, { on := 7, ground := Ground.data }], guard := none }) rfl (fun KQ hKQ => ?_) AllReadyH.nil
      go_simp
      refine hKQ.out _ _ trivial (fun _ => ?_)
      clear hKQ KQ
      try simp only [Act.put, List.setIfInBounds_toArray, List.set_cons_zero, List.set_cons_succ]
      obtain ⟨gB, hgB⟩ : ∃ g, g = V21.heap.size := ⟨_, rfl⟩
      obtain ⟨V22, hV22⟩ : ∃ V, V = V21.alloc (.cells #[.int .u8 (d1.toNat : Int), .int .u8 (d2.toNat : Int)] 5) := ⟨_, rfl⟩
      have hXV22 : Below V21.heap.size V21 V22 := by rw [hV22]; exact (Below.refl _ _).alloc (Nat.le_refl _) _
      have HSV22 : Hid (Src V22 (some ⟨gB, 0, none⟩) 2 [d1, d2]) := by rw [hV22, hgB]; exact src2 V21 d1 d2
      rw [← hV22, ← hgB]
      clear hV22 hgB
      have HBV22 := Lib.hid (HBV21.out.trans (hXV22.mono HBV21.out.size))
      have HAV22 := Lib.hid (HAV21.out.old hXV22)
      clear hXV22
      refine wpAnyH_ready (rs := [9]) (by kernel_rfl) (by simp) ?_
      refine AllReadyH.cons (o := { dst := some 25, op := Op.convert 22 9 (Operand.tmp 24), type := 9, pos := "more.go:12", after := #[{ on := 8, ground := Ground.data }], guard := none }) rfl (fun KQ hKQ => ?_) AllReadyH.nil
      have kA := conv_back V22 gB 0 2 2 [d1, d2] HSV22.out
      go_simp
      refine hKQ.out _ _ trivial (fun _ => ?_)
      clear hKQ KQ
      try simp only [Act.put, List.setIfInBounds_toArray, List.set_cons_zero, List.set_cons_succ]
      clear kA
      refine wpAnyH_take (i := 10) (oi := { dst := some 26, op := Op.binOp BinOp.add 9 (Operand.const (Value.string { data := #[36, 34, 92, 120] })) (Operand.tmp 25) 9, type := 9, pos := "more.go:12", after := #[{ on := 9, ground := Ground.data }], guard := none }) (v := ?_) rfl (by kernel_rfl) (by kernel_rfl) (by kernel_rfl) (fun _ _ _ h => h) (Or.inl ⟨by rfl, ?_⟩) (by assumption) ?_
      rotate_left
      · (intro W hSW; (try dsimp only at hSW); go_simp; first | done | with_reducible rfl)
      try simp only [Act.put, List.setIfInBounds_toArray, List.set_cons_zero, List.set_cons_succ]
      refine wpAnyH_take (i := 11) (oi := { dst := some 27, op := Op.binOp BinOp.add 9 (Operand.tmp 26) (Operand.const (Value.string { data := #[34] })) 9, type := 9, pos := "more.go:12", after := #[{ on := 10, ground := Ground.data }], guard := none }) (v := ?_) rfl (by kernel_rfl) (by kernel_rfl) (by kernel_rfl) (fun _ _ _ h => h) (Or.inl ⟨by rfl, ?_⟩) (by assumption) ?_
      rotate_left
      · (intro W hSW; (try dsimp only at hSW); go_simp; first | done | with_reducible rfl)
      try simp only [Act.put, List.setIfInBounds_toArray, List.set_cons_zero, List.set_cons_succ]
      refine wpAnyH_ready (rs := [12]) (by kernel_rfl) (by simp) ?_
      refine AllReadyH.cons (o := { dst := some 28, op := Op.convert 9 22 (Operand.tmp 27), type := 22, pos := "more.go:12", after := #[{ on := 11, ground := Ground.data }], guard := none }) rfl (fun KQ hKQ => ?_) AllReadyH.nil
      obtain ⟨cc, V24, kB, hSP, hXV24, hzz⟩ := conv_str V22 [36, 34, 92, 120, d1, d2, 34]
      rw [← HPS.out] at kB
      obtain ⟨gC, hgC⟩ : ∃ g, g = V22.heap.size := ⟨_, rfl⟩
      rw [← hgC] at kB hSP
      clear hzz
      change _ = Result.ok (Value.slice _ 7 cc) _ at kB
      go_simp
      refine hKQ.out _ _ trivial (fun _ => ?_)
      clear hKQ KQ
      try simp only [Act.put, List.setIfInBounds_toArray, List.set_cons_zero, List.set_cons_succ]
      have HSV24 := Lib.hid hSP
      try rw [← hgC]
      clear kB hSP hgC
      have HBV24 := Lib.hid (HBV22.out.trans (hXV24.mono HBV22.out.size))
      have HAV24 := Lib.hid (HAV22.out.old hXV24)
      clear hXV24
      refine wpAnyH_ready (rs := [13]) (by kernel_rfl) (by simp) ?_
      refine AllReadyH.cons (o := { dst := some 29, op := Op.call { callee := Callee.value (Operand.func 11), args := #[Operand.tmp 28], argTypes := #[22] }, type := 24, pos := "more.go:12", after := #[{ on := 12, ground := Ground.data }], guard := none }) rfl (fun KQ hKQ => ?_) AllReadyH.nil
      go_simp
      go_at_call 11
      refine (new_any (some ⟨gC, 0, none⟩) 7 cc [36, 34, 92, 120, d1, d2, 34] V24 HSV24.out (by omega) (HG.out.old HBV24.out)).mono ?_
      rintro e V25 ⟨q, A', c', rfl, hqV25, hL, hXV25⟩
      refine hKQ.out _ _ trivial (fun _ => ?_)
      clear hKQ KQ
      try simp only [Act.put, List.setIfInBounds_toArray, List.set_cons_zero, List.set_cons_succ]
      have HLV25 := Lib.hid hL
      clear hL
      have HBV25 := Lib.hid (HBV24.out.trans (hXV25.mono HBV24.out.size))
      have HAV25 := Lib.hid (HAV24.out.old hXV25)
      have HQ : Hid (w.heap.size ≤ q) := Nat.le_trans HBV24.out.size hqV25
      have HGQ : Hid (gA ≠ q) := by have := HAV24.out.lt; show gA ≠ q; omega
      clear hqV25
      clear hXV25
      refine wpAnyH_ready (rs := [14]) (by kernel_rfl) (by simp) ?_
      refine AllReadyH.cons (o := { dst := some 30, op := Op.call { callee := Callee.value (Operand.func 13), args := #[Operand.tmp 29], argTypes := #[24] }, type := 32, pos := "more.go:12", after := #[{ on := 13, ground := Ground.data }, { on := 13, ground := Ground.chain }], guard := none }) rfl (fun KQ hKQ => ?_) AllReadyH.nil
      go_simp
      go_at_call 13
      have hN := next_any w.heap.size q A' 7 c' 0 [36, 34, 92, 120, d1, d2, 34] V25 HLV25.out HQ.out
      rw [HT.out] at hN
      refine hN.mono ?_
      rintro e V26 ⟨rfl, hYV26, hkV26, _⟩
      refine hKQ.out _ _ trivial (fun _ => ?_)
      clear hKQ KQ
      try simp only [Act.put, List.setIfInBounds_toArray, List.set_cons_zero, List.set_cons_succ]
      clear hN
      have HBV26 := Lib.hid (HBV25.out.trans hYV26)
      have HAV26 : Hid (Blk V26 gA 30 #[.int .u8 0, .int .u8 0, .string ⟨#[]⟩, .int .i64 0]) := (hkV26 gA HAV25.out.lt HGQ.out).trans HAV25.out
      clear hYV26 hkV26
      dsimp only [Tok.cells]
      try simp only [Act.put, List.setIfInBounds_toArray, List.set_cons_zero, List.set_cons_succ]
      refine wpAnyH_take (i := 15) (oi := { dst := some 15, op := Op.move (Operand.tmp 30), type := 32, pos := "more.go:12", after := #[{ on := 14, ground := Ground.data }], guard := none }) (v := ?_) rfl (by kernel_rfl) (by kernel_rfl) (by kernel_rfl) (fun _ _ _ h => h) (Or.inl ⟨by rfl, ?_⟩) (by assumption) ?_
      rotate_left
      · (intro W hSW; (try dsimp only at hSW); go_simp; first | done | with_reducible rfl)
      try simp only [Act.put, List.setIfInBounds_toArray, List.set_cons_zero, List.set_cons_succ]
      refine wpAnyH_take (i := 16) (oi := { dst := some 31, op := Op.extract (Operand.tmp 15) 0, type := 30, pos := "more.go:12", after := #[{ on := 15, ground := Ground.data }], guard := none }) (v := ?_) rfl (by kernel_rfl) (by kernel_rfl) (by kernel_rfl) (fun _ _ _ h => h) (Or.inl ⟨by rfl, ?_⟩) (by assumption) ?_
      rotate_left
      · (intro W hSW; (try dsimp only at hSW); go_simp; first | done | with_reducible rfl)
      try simp only [Act.put, List.setIfInBounds_toArray, List.set_cons_zero, List.set_cons_succ]
      refine wpAnyH_take (i := 17) (oi := { dst := some 32, op := Op.extract (Operand.tmp 15) 1, type := 3, pos := "more.go:12", after := #[{ on := 15, ground := Ground.data }, { on := 20, ground := Ground.gcOnly Departure.lateStores }], guard := none }) (v := ?_) rfl (by kernel_rfl) (by kernel_rfl) (by kernel_rfl) (fun _ _ _ h => h) (Or.inl ⟨by rfl, ?_⟩) (by assumption) ?_
      rotate_left
      · (intro W hSW; (try dsimp only at hSW); go_simp; first | done | with_reducible rfl)
      try simp only [Act.put, List.setIfInBounds_toArray, List.set_cons_zero, List.set_cons_succ]
      refine wpAnyH_take (i := 18) (oi := { dst := some 33, op := Op.extract (Operand.tmp 15) 2, type := 31, pos := "more.go:12", after := #[{ on := 15, ground := Ground.data }, { on := 21, ground := Ground.gcOnly Departure.lateStores }], guard := none }) (v := ?_) rfl (by kernel_rfl) (by kernel_rfl) (by kernel_rfl) (fun _ _ _ h => h) (Or.inl ⟨by rfl, ?_⟩) (by assumption) ?_
      rotate_left
      · (intro W hSW; (try dsimp only at hSW); go_simp; first | done | with_reducible rfl)
      try simp only [Act.put, List.setIfInBounds_toArray, List.set_cons_zero, List.set_cons_succ]
      have hk30 := HAV26.out
      obtain ⟨p0, p1, p2, p3⟩ := Blk.c4 hk30
      have f0 := hk30.frozen 0
      have f1 := hk30.frozen 1
      have f2 := hk30.frozen 2
      have f3 := hk30.frozen 3
      have z1 : gA < V26.heap.size := hk30.lt
      have HFB := Lib.hid (set4B HBV26.out HGA.out (.int .u8 2) (.int .u8 36) (.string (bs [UInt8.ofNat cn])) (.int .i64 0))
      have HFK := Lib.hid (Blk.set4 hk30 (.int .u8 2) (.int .u8 36) (.string (bs [UInt8.ofNat cn])) (.int .i64 0))
      clear hk30
      refine wpAnyH_ready (rs := [20]) (by kernel_rfl) (by simp) ?_
      refine AllReadyH.cons (o := { dst := none, op := Op.store 30 (Operand.tmp 8) (Operand.tmp 31), type := 0, pos := "more.go:12", after := #[{ on := 19, ground := Ground.data }, { on := 16, ground := Ground.data }, { on := 14, ground := Ground.chain }, { on := 0, ground := Ground.phase }, { on := 1, ground := Ground.phase }, { on := 2, ground := Ground.phase }, { on := 3, ground := Ground.phase }, { on := 4, ground := Ground.phase }, { on := 5, ground := Ground.phase }, { on := 6, ground := Ground.phase }, { on := 7, ground := Ground.phase }, { on := 8, ground := Ground.phase }, { on := 9, ground := Ground.phase }, { on := 10, ground := Ground.phase }, { on := 11, ground := Ground.phase }, { on := 12, ground := Ground.phase }, { on := 13, ground := Ground.phase }, { on := 14, ground := Ground.phase }, { on := 15, ground := Ground.phase }, { on := 16, ground := Ground.phase }, { on := 17, ground := Ground.textOnly Departure.lateStores }, { on := 18, ground := Ground.textOnly Departure.lateStores }, { on := 19, ground := Ground.phase }], guard := none }) rfl (fun KQ hKQ => ?_) AllReadyH.nil
      go_simp
      refine hKQ.out _ _ trivial (fun _ => ?_)
      clear hKQ KQ
      try simp only [Act.put, List.setIfInBounds_toArray, List.set_cons_zero, List.set_cons_succ]
      refine wpAnyH_take (i := 21) (oi := { dst := some 9, op := Op.assign (Operand.tmp 32), type := 3, pos := "more.go:12", after := #[{ on := 17, ground := Ground.data }, { on := 20, ground := Ground.chain }, { on := 0, ground := Ground.phase }, { on := 1, ground := Ground.phase }, { on := 2, ground := Ground.phase }, { on := 3, ground := Ground.phase }, { on := 4, ground := Ground.phase }, { on := 5, ground := Ground.phase }, { on := 6, ground := Ground.phase }, { on := 7, ground := Ground.phase }, { on := 8, ground := Ground.phase }, { on := 9, ground := Ground.phase }, { on := 10, ground := Ground.phase }, { on := 11, ground := Ground.phase }, { on := 12, ground := Ground.phase }, { on := 13, ground := Ground.phase }, { on := 14, ground := Ground.phase }, { on := 15, ground := Ground.phase }, { on := 16, ground := Ground.phase }, { on := 17, ground := Ground.phase }, { on := 18, ground := Ground.textOnly Departure.lateStores }, { on := 19, ground := Ground.phase }, { on := 20, ground := Ground.phase }], guard := none }) (v := ?_) rfl (by kernel_rfl) (by kernel_rfl) (by kernel_rfl) (fun _ _ _ h => h) (Or.inl ⟨by rfl, ?_⟩) (by assumption) ?_
      rotate_left
      · (intro W hSW; (try dsimp only at hSW); go_simp; first | done | with_reducible rfl)
      try simp only [Act.put, List.setIfInBounds_toArray, List.set_cons_zero, List.set_cons_succ]
      refine wpAnyH_take (i := 22) (oi := { dst := some 10, op := Op.assign (Operand.tmp 33), type := 31, pos := "more.go:12", after := #[{ on := 18, ground := Ground.data }, { on := 21, ground := Ground.chain }, { on := 0, ground := Ground.phase }, { on := 1, ground := Ground.phase }, { on := 2, ground := Ground.phase }, { on := 3, ground := Ground.phase }, { on := 4, ground := Ground.phase }, { on := 5, ground := Ground.phase }, { on := 6, ground := Ground.phase }, { on := 7, ground := Ground.phase }, { on := 8, ground := Ground.phase }, { on := 9, ground := Ground.phase }, { on := 10, ground := Ground.phase }, { on := 11, ground := Ground.phase }, { on := 12, ground := Ground.phase }, { on := 13, ground := Ground.phase }, { on := 14, ground := Ground.phase }, { on := 15, ground := Ground.phase }, { on := 16, ground := Ground.phase }, { on := 17, ground := Ground.phase }, { on := 18, ground := Ground.phase }, { on := 19, ground := Ground.phase }, { on := 20, ground := Ground.phase }, { on := 21, ground := Ground.phase }], guard := none }) (v := ?_) rfl (by kernel_rfl) (by kernel_rfl) (by kernel_rfl) (fun _ _ _ h => h) (Or.inl ⟨by rfl, ?_⟩) (by assumption) ?_
      rotate_left
      · (intro W hSW; (try dsimp only at hSW); go_simp; first | done | with_reducible rfl)
      try simp only [Act.put, List.setIfInBounds_toArray, List.set_cons_zero, List.set_cons_succ]
      refine wpAnyH_done (by kernel_rfl) ?_ _
      go_wp2_with fail
      go_meet
      case rel => exact ⟨gA, rfl, rfl, rfl, HGA.out, HFK.out, HFB.out⟩
  case rest =>
    obtain ⟨g, rfl, rfl, rfl, hg1, hK, hB⟩ := hcut
    clear HPS HT hx1 hx2 hw1 hd1 hd2 hk1i hk2i hk1l hk2l hk1 hk2 hz hz1
    obtain ⟨x, rfl⟩ : ∃ x : UInt8, a = (x.toNat : Int) := ⟨UInt8.ofNat a.toNat, by simp; omega⟩
    obtain ⟨y, rfl⟩ : ∃ y : UInt8, b = (y.toNat : Int) := ⟨UInt8.ofNat b.toNat, by simp; omega⟩
    obtain ⟨r, hr⟩ : ∃ r, r = rightF x y := ⟨_, rfl⟩
    obtain ⟨v, hv⟩ : ∃ v, v = nextF [36, 34, 122, 92, x, y, 49, 34] 0 := ⟨_, rfl⟩
    have HV : Hid (r = false → v = (tok0, 3, 7, 0)) := fun h => by rw [hv]; exact told_not x y (hr ▸ h)
    have hR : ((x.toNat : Int) = 34 ∧ r = true) ∨ (((x.toNat : Int) == 34) = false ∧ (x.toNat : Int) = 92 ∧ r = true) ∨ (((x.toNat : Int) == 34) = false ∧ ((x.toNat : Int) == 92) = false ∧ (x.toNat : Int) = 120 ∧ ((48 ≤ (y.toNat : Int) ∧ (y.toNat : Int) ≤ 57 ∧ r = true) ∨ (48 ≤ (y.toNat : Int) ∧ 57 < (y.toNat : Int) ∧ 97 ≤ (y.toNat : Int) ∧ (y.toNat : Int) ≤ 102 ∧ r = true) ∨ (48 ≤ (y.toNat : Int) ∧ 57 < (y.toNat : Int) ∧ 97 ≤ (y.toNat : Int) ∧ 102 < (y.toNat : Int) ∧ r = false) ∨ (48 ≤ (y.toNat : Int) ∧ 57 < (y.toNat : Int) ∧ (y.toNat : Int) < 97 ∧ r = false) ∨ ((y.toNat : Int) < 48 ∧ (y.toNat : Int) < 97 ∧ r = false))) ∨ (((x.toNat : Int) == 34) = false ∧ ((x.toNat : Int) == 92) = false ∧ ((x.toNat : Int) == 120) = false ∧ r = false) := by
      have e1 : (x == 34) = ((x.toNat : Int) == 34) := (byte_beq x 34).symm
      have e2 : (x == 92) = ((x.toNat : Int) == 92) := (byte_beq x 92).symm
      have e3 : (x == 120) = ((x.toNat : Int) == 120) := (byte_beq x 120).symm
      rw [hr]
      unfold rightF
      rw [e1, e2, e3]
      have f1 : decide (48 ≤ y.toNat) = decide (48 ≤ (y.toNat : Int)) := decide_eq_decide.2 (by omega)
      have f2 : decide (y.toNat ≤ 57) = decide ((y.toNat : Int) ≤ 57) := decide_eq_decide.2 (by omega)
      have f3 : decide (97 ≤ y.toNat) = decide (97 ≤ (y.toNat : Int)) := decide_eq_decide.2 (by omega)
      have f4 : decide (y.toNat ≤ 102) = decide ((y.toNat : Int) ≤ 102) := decide_eq_decide.2 (by omega)
      rw [f1, f2, f3, f4]
      generalize (x.toNat : Int) = xi
      generalize (y.toNat : Int) = yi
      by_cases h1 : xi = 34
      · left; subst h1; exact ⟨rfl, rfl⟩
      have h1b : (xi == 34) = false := by simpa using h1
      rw [h1b]
      by_cases h2 : xi = 92
      · right; left; subst h2; exact ⟨rfl, rfl, rfl⟩
      have h2b : (xi == 92) = false := by simpa using h2
      rw [h2b]
      by_cases h3 : xi = 120
      · right; right; left
        subst h3
        refine ⟨rfl, rfl, rfl, ?_⟩
        by_cases g1 : 48 ≤ yi
        · by_cases g2 : yi ≤ 57
          · left; exact ⟨g1, g2, by simp [g1, g2]⟩
          · by_cases g3 : 97 ≤ yi
            · by_cases g4 : yi ≤ 102
              · right; left; exact ⟨g1, by omega, g3, g4, by simp [g1, g2, g3, g4]⟩
              · right; right; left; exact ⟨g1, by omega, g3, by omega, by simp [g1, g2, g3, g4]⟩
            · right; right; right; left; exact ⟨g1, by omega, by omega, by simp [g1, g2, g3]⟩
        · right; right; right; right; exact ⟨by omega, by omega, by simp [g1]; omega⟩
      · right; right; right
        have h3b : (xi == 120) = false := by simpa using h3
        exact ⟨rfl, rfl, h3b, by rw [h3b]; rfl⟩
    have HR := Lib.hid hR
    clear hR hr
    obtain ⟨w8, hw8⟩ : ∃ w8, w8 = wc.alloc (.cells #[.int .u8 36, .int .u8 34, .int .u8 122, .int .u8 92, .int .u8 (x.toNat : Int), .int .u8 (y.toNat : Int), .int .u8 49, .int .u8 34] 5) := ⟨_, rfl⟩
    have hB8 : Below wc.heap.size wc w8 := by rw [hw8]; exact (Below.refl _ _).alloc (Nat.le_refl _) _
    have hS8 : Src w8 (some ⟨wc.heap.size, 0, none⟩) 8 [36, 34, 122, 92, x, y, 49, 34] := ⟨rfl, fun _ => ⟨wc.heap.size, 0, rfl, fun i hi => by
      have h0 : (wc.alloc (.cells #[.int .u8 36, .int .u8 34, .int .u8 122, .int .u8 92, .int .u8 (x.toNat : Int), .int .u8 (y.toNat : Int), .int .u8 49, .int .u8 34] 5)).heap[wc.heap.size]? = some (.cells #[.int .u8 36, .int .u8 34, .int .u8 122, .int .u8 92, .int .u8 (x.toNat : Int), .int .u8 (y.toNat : Int), .int .u8 49, .int .u8 34] 5 (0, 0)) := heap_alloc_new wc _
      rw [hw8, cell_of_row _ wc.heap.size _ _ 5 (0, 0) h0, Nat.zero_add]
      have hi2 : i < 8 := hi
      rcases (show i = 0 ∨ i = 1 ∨ i = 2 ∨ i = 3 ∨ i = 4 ∨ i = 5 ∨ i = 6 ∨ i = 7 by omega) with rfl | rfl | rfl | rfl | rfl | rfl | rfl | rfl <;> rfl⟩⟩
    have hGc := HG.out.old hB.out
    have HNw := Lib.hid (new_any (some ⟨wc.heap.size, 0, none⟩) 8 8 [36, 34, 122, 92, x, y, 49, 34] w8 hS8 (by omega) (hGc.old hB8))
    have HB8 := Lib.hid (hB.out.trans (hB8.mono hB.out.size))
    have HK8 := Lib.hid (hK.out.old hB8)
    have hz8 := hB8.size
    clear hS8 hB8 hGc
    go_upto_region 3 with (fail)
    have hw8' := hw8.symm
    clear hw8
    go_wp2_with fail
    refine HNw.out.mono ?_
    rintro e w3 ⟨q, A', c', rfl, hq, hL, hb⟩
    have hN := next_any w8.heap.size q A' 8 c' 0 [36, 34, 122, 92, x, y, 49, 34] w3 hL hq
    rw [← hv] at hN
    have HB3 := Lib.hid (HB8.out.trans (hb.mono HB8.out.size))
    have HK3 := Lib.hid (HK8.out.old hb)
    have hg8 := HK8.out.lt
    have HN := Lib.hid hN
    clear hv hL hN hb HNw HB8 HK8 hB hK hw8'
    go_wp2_with fail
    refine HN.out.mono ?_
    rintro e w4 ⟨rfl, hb4, _, _⟩
    have HB4 := Lib.hid (HB3.out.trans (hb4.mono (by exact Nat.le_trans (Nat.le_of_lt (Nat.lt_of_le_of_lt hg1.out hg8)) (Nat.le_refl _))))
    have HK4 := Lib.hid (HK3.out.below hb4 hg8)
    clear hb4 HN HB3 HK3 hq hz8 hg8
    obtain ⟨⟨tk, tm, tt, ta⟩, at1, er, _⟩ := v
    dsimp only [Tok.cells]
    have HV2 : Hid (r = false → at1 = 3 ∧ er = 7) := fun h => by
      have := HV.out h
      simp only [Prod.mk.injEq] at this
      exact ⟨this.2.1, this.2.2.1⟩
    clear HV
    have HBf := Lib.hid (HB4.out.alloc HB4.out.size (.cells #[.int .u8 (tk : Int), .int .u8 (tm.toNat : Int), .string (bs tt), .int .i64 (ta : Int)] 30))
    have HKf := Lib.hid (HK4.out.alloc (.cells #[.int .u8 (tk : Int), .int .u8 (tm.toNat : Int), .string (bs tt), .int .i64 (ta : Int)] 30))
    have hg4 := HK4.out.lt
    have hg5 : g < (w4.alloc (.cells #[.int .u8 (tk : Int), .int .u8 (tm.toNat : Int), .string (bs tt), .int .i64 (ta : Int)] 30)).heap.size := HKf.out.lt
    clear HB4 HK4
    go_upto_region 4 with (fail)
    generalize w4.alloc (.cells #[.int .u8 (tk : Int), .int .u8 (tm.toNat : Int), .string (bs tt), .int .i64 (ta : Int)] 30) = w5 at *
    clear hg4
    go_cut [14] (fun s14 wz => s14 = .bool r ∧ w5 = wz)
    case first =>
      have hR := HR.out
      generalize (x.toNat : Int) = xi at *
      generalize (y.toNat : Int) = yi at *
      rcases hR with ⟨rfl, rfl⟩ | ⟨t1, rfl, rfl⟩ | ⟨t1, t2, rfl, ⟨t3, t4, rfl⟩ | ⟨t3, t4, t5, t6, rfl⟩ | ⟨t3, t4, t5, t6, rfl⟩ | ⟨t3, t4, t5, rfl⟩ | ⟨t3, t4, rfl⟩⟩ | ⟨t1, t2, t3, rfl⟩
      all_goals
        go_wp2
        go_meet
        case rel => exact ⟨by first | rfl | (simp; omega), rfl⟩
    case rest =>
      obtain ⟨rfl, rfl⟩ := hcut
      have hAw := awake_any w5 (HG.out.old HBf.out)
      have HAw := Lib.hid hAw
      have HCN : Hid (∀ wx : World, ∀ gx, gx = wx.heap.size → (convert 22 9 (.slice (some ⟨gx, 0, none⟩) 1 1)).run Try.prog (wx.alloc (.cells #[.int .u8 (cn : Int)] 5)) = .ok (.string (bs [UInt8.ofNat cn])) (wx.alloc (.cells #[.int .u8 (cn : Int)] 5))) := fun wx gx hgx => by
        subst hgx
        refine conv_back _ wx.heap.size 0 1 1 [UInt8.ofNat cn] ⟨rfl, fun _ => ⟨wx.heap.size, 0, rfl, fun i hi => ?_⟩⟩
        have h0 : (wx.alloc (.cells #[.int .u8 (cn : Int)] 5)).heap[wx.heap.size]? = some (.cells #[.int .u8 (cn : Int)] 5 (0, 0)) := heap_alloc_new wx _
        rw [cell_of_row _ wx.heap.size _ _ 5 (0, 0) h0, Nat.zero_add]
        have hi2 : i < 1 := hi
        obtain rfl : i = 0 := by omega
        have : (UInt8.ofNat cn).toNat = cn := by simp; omega
        simp [this]
      clear hAw HR
      have hgo : (r = true) ∨ (r = false ∧ at1 = 3 ∧ er = 7) := by
        cases r with
        | true => left; rfl
        | false => right; exact ⟨rfl, HV2.out rfl⟩
      clear HV2
      rcases hgo with rfl | ⟨rfl, rfl, rfl⟩
      all_goals
        go_wp2_with fail
        refine HAw.out.mono ?_
        rintro e w6 ⟨rfl, hb6⟩
        have HB6 := Lib.hid (HBf.out.trans (hb6.mono HBf.out.size))
        have hK6 := HKf.out.below hb6 hg5
        obtain ⟨p0, p1, p2, p3⟩ := Blk.c4 hK6
        have hg6 : g < w6.heap.size := hK6.lt
        have hcn := HCN.out w6 w6.heap.size rfl
        have hss : ((bs [UInt8.ofNat cn]).toList == (bs [UInt8.ofNat cn]).toList) = true := by simp
        have HBz := Lib.hid (HB6.out.alloc HB6.out.size (.cells #[.int .u8 (cn : Int)] 5))
        clear hb6 hK6 HBf HKf HCN HB6
        generalize bs [UInt8.ofNat cn] = SC at *
        go_wp2
        go_ret
        exact ⟨rfl, HBz.out⟩
end Go.Proofs.Ytgaedkaohjphaaa
