/-
  What the reference's Check leaves.
-/
import Derived.Test.YtpdebnecfknohaaKta
import Derived.Test.YtpdebnecfknohaaTad
import Derived.Deep.RegionHeld3
namespace Go.Proofs.Ytpdebnecfknohaa
open Go.RowKit
set_option linter.unusedVariables false
set_option linter.unusedSimpArgs false
set_option maxRecDepth 20000

/-- Is a string not used, or no greater than the one ahead of it? -/
def badF (M : Md) (i : Nat) : Bool := !(usedF M.globs M.funcs (i : Int)) || (decide (0 < i) && !(Op.bytesLess (M.strs.getD (i - 1) []) (M.strs.getD i [])))
theorem used_contains (g : List Int) (L : List Fn) (n : Int) : (usedI g L L.length).contains n = usedF g L n := by
  unfold usedI usedF
  rw [List.take_length]
  apply Bool.eq_iff_iff.2
  rw [List.contains_iff_mem, List.mem_append, Bool.or_eq_true, List.any_eq_true, List.any_eq_true, List.mem_flatten]
  constructor
  · rintro (h | ⟨l, hl, hn⟩)
    · exact .inl ⟨n, h, by simp⟩
    · obtain ⟨f, hf, rfl⟩ := List.mem_map.1 hl
      refine .inr ⟨f, hf, ?_⟩
      simp only [List.mem_cons, List.mem_append] at hn
      simp only [Bool.or_eq_true, List.any_eq_true, beq_iff_eq]
      rcases hn with h | h | h
      · exact .inl (.inl h.symm)
      · exact .inl (.inr ⟨n, h, rfl⟩)
      · exact .inr ⟨n, h, rfl⟩
  · rintro (⟨x, h, hx⟩ | ⟨f, hf, h⟩)
    · obtain rfl : x = n := by simpa using hx
      exact .inl h
    · refine .inr ⟨_, List.mem_map.2 ⟨f, hf, rfl⟩, ?_⟩
      simp only [Bool.or_eq_true, List.any_eq_true, beq_iff_eq] at h
      simp only [List.mem_cons, List.mem_append]
      rcases h with (h | ⟨x, h, rfl⟩) | ⟨x, h, rfl⟩
      · exact .inl h.symm
      · exact .inr (.inl h)
      · exact .inr (.inr h)
theorem chk_bad (M : Md) : (risF M.strs 1 && (markF M.strs.length (usedI M.globs M.funcs M.funcs.length)).all id) = (List.range M.strs.length).all fun i => !badF M i := by
  apply Bool.eq_iff_iff.2
  simp only [Bool.and_eq_true, List.all_eq_true, List.mem_range, risF, markF, List.mem_map, id, badF, used_contains, Bool.not_eq_true', Bool.or_eq_false_iff, Bool.and_eq_false_iff, Bool.not_eq_false', decide_eq_false_iff_not]
  constructor
  · rintro ⟨h1, h2⟩ i hi
    refine ⟨h2 _ ⟨i, hi, rfl⟩, ?_⟩
    by_cases h0 : 0 < i
    · right
      have := h1 (i - 1) (by omega)
      rwa [show 1 + (i - 1) - 1 = i - 1 from by omega, show 1 + (i - 1) = i from by omega] at this
    · exact .inl h0
  · intro h
    refine ⟨fun j hj => ?_, ?_⟩
    · rcases (h (1 + j) (by omega)).2 with h2 | h2
      · omega
      · exact h2
    · rintro _ ⟨i, hi, rfl⟩
      exact (h i hi).1
theorem treeF_nn (M : Md) : 0 ≤ (treeF M).1 := by
  have h1 : 0 ≤ modF M := by
    unfold modF
    repeat' split
    all_goals first | omega | exact nmF_nn _ _ _ | exact entF_nn _ _ _
  have hf : ∀ f : Fn, 0 ≤ funcF M.strs f := fun f => by
    unfold funcF
    repeat' split
    all_goals first | omega | exact nmF_nn _ _ _
  have hs : ∀ (nl ng ns : Nat) (l : List It) (i : Nat), 0 ≤ (stmtsF M.funcs nl ng ns i l).1 := by
    intro nl ng ns l
    induction l with
    | nil => intro i; simp [stmtsF]
    | cons x l ih =>
      intro i
      unfold stmtsF
      split
      · exact stmtF_nn _ _ _ _ _
      · exact ih _
  have h2 : ∀ (L : List Fn) (i : Nat), 0 ≤ (funcsF M i L).1 := by
    intro L
    induction L with
    | nil => intro i; simp [funcsF]
    | cons f L ih =>
      intro i
      unfold funcsF
      split
      · exact hf f
      · split
        · exact hs _ _ _ _ _
        · exact ih _
  unfold treeF
  split
  · exact h1
  · exact h2 _ _
set_option maxHeartbeats 8000000 in
theorem rcheck_any (M : Md) (As Ag Af Ae : Option Addr) (cs cg cf ce : Nat) (w : World) (hM : M.Wf) (h : MdR w As Ag Af Ae M) (hlow : ∀ f ∈ M.funcs, ∀ x ∈ f.body.flat 0, x.Low) :
    Calls Try.prog 22 #[.agg #[.slice As M.strs.length cs, .slice Ag M.globs.length cg, .slice Af M.funcs.length cf, .slice Ae M.ents.length ce]] w (TriB w (checkF M)) := by
  obtain ⟨v, hv⟩ : ∃ v, v = checkF M := ⟨_, rfl⟩
  rw [← hv]
  unfold checkF at hv
  rw [chk_bad] at hv
  have hTr := fun wx (hx : Below w.heap.size w wx) => rtree_any M As Ag Af Ae cs cg cf ce wx hM (h.old hx) hlow
  have hUs := fun (n : Int) wx (hx : Below w.heap.size w wx) => used_any (.slice As M.strs.length cs) (.slice Ae M.ents.length ce) Ag Af cg cf M.globs M.funcs n wx (h.globs.old hx (by omega)) (h.funcs.old hx) hM.globs.1 hM.funcs (fun f hf => ⟨(hM.fns f hf).2.2.1, (hM.fns f hf).2.2.2.1⟩)
  have HS := Lib.hid h.strs
  have hsl := hM.strs
  obtain ⟨ls, hls⟩ : ∃ n, n = M.strs.length := ⟨_, rfl⟩
  obtain ⟨ng, hng⟩ : ∃ n, n = M.globs.length := ⟨_, rfl⟩
  obtain ⟨nf, hnf⟩ : ∃ n, n = M.funcs.length := ⟨_, rfl⟩
  obtain ⟨ne, hne⟩ : ∃ n, n = M.ents.length := ⟨_, rfl⟩
  have HLS := Lib.hid hls
  rw [← hls] at hv hsl
  rw [← hls, ← hng, ← hnf, ← hne] at hTr hUs ⊢
  have hp := treeF_nn M
  generalize treeF M = T at *
  obtain ⟨r, f, s⟩ := T
  have HV := Lib.hid hv
  have HTr := Lib.hid hTr
  have HUs := Lib.hid hUs
  clear hv hTr hUs hls hng hnf hne h hM hlow
  obtain ⟨w1, hw1⟩ : ∃ w1, w1 = w.alloc (.cells #[.slice As ls cs, .slice Ag ng cg, .slice Af nf cf, .slice Ae ne ce] 30) := ⟨_, rfl⟩
  have HB1 : Hid (Below w.heap.size w w1) := by rw [hw1]; exact (Below.refl _ _).alloc (Nat.le_refl _) _
  have K1 : Hid (Blk w1 w.heap.size 30 #[.slice As ls cs, .slice Ag ng cg, .slice Af nf cf, .slice Ae ne ce]) := by rw [hw1]; exact Blk.new w 30 _
  go_enter Try.func22, Try.ntmps22
  go_upto_region 1 with (fail)
  rw [← hw1]
  clear hw1
  obtain ⟨m0, m1, m2, m3⟩ := K1.out.c4
  have z1 : w.heap.size < w1.heap.size := K1.out.lt
  go_wp2_with fail
  refine (HTr.out _ HB1.out).mono ?_
  rintro e w2 ⟨rfl, hb2⟩
  have HB2 := Lib.hid (HB1.out.trans (hb2.mono HB1.out.size))
  have K2 := Lib.hid (K1.out.old hb2)
  clear hb2 m0 m1 m2 m3 z1 HTr
  dsimp only at hp ⊢
  by_cases hr : r = 0
  · subst hr
    have hv2 := HV.out
    rw [if_neg (by simp)] at hv2
    have HV2 := Lib.hid hv2
    clear hv2 HV hp
    obtain ⟨m0, m1, m2, m3⟩ := K2.out.c4
    have z1 : w.heap.size < w2.heap.size := K2.out.lt
    go_upto_region 4 with (fail)
    clear m0 m1 m2 m3 z1
    go_wp2_with fail
    go_loopw [8] (fun sl wr => ∃ (i : Nat), i ≤ ls ∧ sl = .int .i64 (i : Int) ∧ Hid (∀ k, k < i → badF M k = false) ∧ Hid (Below w.heap.size w wr) ∧ Hid (Blk wr w.heap.size 30 #[.slice As ls cs, .slice Ag ng cg, .slice Af nf cf, .slice Ae ne ce])) (fun sl _ => ls - (intOf sl).toNat)
    case atStart => exact ⟨0, Nat.zero_le _, rfl, fun k hk => absurd hk (Nat.not_lt_zero _), HB2, K2⟩
    case round =>
      clear HB2 K2
      obtain ⟨i, hi, rfl, hE, hB, hK⟩ := hrel
      obtain ⟨m0, m1, m2, m3⟩ := hK.out.c4
      have z1 : w.heap.size < wr.heap.size := hK.out.lt
      by_cases hlt : i < ls
      · have hli : (i : Int) < (ls : Int) := by omega
        have hil : i < M.strs.length := by rw [← HLS.out]; exact hlt
        have hUd := HUs.out (i : Int) wr.drew hB.out.drew
        have hUd0 := HUs.out (i : Int) wr hB.out
        obtain ⟨bu, hbu⟩ : ∃ b, b = usedF M.globs M.funcs (i : Int) := ⟨_, rfl⟩
        rw [← hbu] at hUd hUd0
        have HUd := Lib.hid hUd
        have HUd0 := Lib.hid hUd0
        obtain ⟨b, o, rfl, _, hc⟩ := HS.out.2 (by omega)
        have HcS : Hid (∀ k x, M.strs[k]? = some x → w.cell? ⟨b, o + k, none⟩ = some (.string (bs x))) := fun k x hk => hc k _ (by simp [strV, hk])
        have hbl : b < w.heap.size := World.block_lt_of_cell? w _ (HcS.out i _ (List.getElem?_eq_getElem hil))
        obtain ⟨bd, hbd⟩ : ∃ b, b = badF M i := ⟨_, rfl⟩
        have HBd := Lib.hid hbd
        have HBu := Lib.hid hbu
        clear hc hUd hUd0 hbd hbu
        go_upto_region 7 with (fail)
        go_cut [48] (fun s48 wx => s48 = .bool bd ∧ Hid (Below w.heap.size w wx) ∧ Hid (Blk wx w.heap.size 30 #[.slice (some ⟨b, o, none⟩) ls cs, .slice Ag ng cg, .slice Af nf cf, .slice Ae ne ce]))
        case first =>
          cases bu with
          | false =>
            obtain rfl : bd = true := by rw [HBd.out, badF, ← HBu.out]; rfl
            refine wp_region_held_drew (S := (fun W => Blk W w.heap.size 30 #[.slice (some ⟨b, o, none⟩) ls cs, .slice Ag ng cg, .slice Af nf cf, .slice Ae ne ce])) (by kernel_rfl) hK.out.drew (fun hHeld => ?_)
            try simp only [Act.put, List.setIfInBounds_toArray, List.set_cons_zero, List.set_cons_succ]
            refine wpAnyH_take (i := 0) (oi := { dst := some 27, op := Op.load 30 (Operand.tmp 1), type := 30, pos := "ref.go:229", after := #[], guard := none }) (v := ?_) rfl (by kernel_rfl) (by kernel_rfl) (by kernel_rfl) (fun _ _ _ h => h) (Or.inl ⟨by rfl, ?_⟩) (by assumption) ?_
            rotate_left
            · (intro W hSW; (try dsimp only at hSW); obtain ⟨p0, p1, p2, p3⟩ := Blk.c4 hSW; have zz := Blk.lt hSW; go_simp; first | done | with_reducible rfl)
            try simp only [Act.put, List.setIfInBounds_toArray, List.set_cons_zero, List.set_cons_succ]
            refine wpAnyH_take (i := 1) (oi := { dst := some 28, op := Op.move (Operand.tmp 8), type := 3, pos := "ref.go:229", after := #[], guard := none }) (v := ?_) rfl (by kernel_rfl) (by kernel_rfl) (by kernel_rfl) (fun _ _ _ h => h) (Or.inl ⟨by rfl, ?_⟩) (by assumption) ?_
            rotate_left
            · (intro W hSW; (try dsimp only at hSW); obtain ⟨p0, p1, p2, p3⟩ := Blk.c4 hSW; have zz := Blk.lt hSW; go_simp; first | done | with_reducible rfl)
            try simp only [Act.put, List.setIfInBounds_toArray, List.set_cons_zero, List.set_cons_succ]
            refine wpAnyH_ready (rs := [2]) (by kernel_rfl) (by simp) ?_
            refine AllReadyH.cons (o := { dst := some 29, op := Op.call { callee := Callee.value (Operand.func 44), args := #[Operand.tmp 27, Operand.tmp 28], argTypes := #[30, 3] }, type := 4, pos := "ref.go:229", after := #[{ on := 0, ground := Ground.data }, { on := 1, ground := Ground.data }], guard := none }) rfl (fun KQ hKQ => ?_) AllReadyH.nil
            go_simp
            go_at_call 44
            refine HUd.out.mono ?_
            rintro e w5 ⟨rfl, hb5⟩
            have HB5 := Lib.hid (hB.out.drew.trans (hb5.mono hB.out.drew.size))
            have KK5 := Lib.hid (hK.out.drew.old hb5)
            refine hKQ.out _ _ KK5.out (fun _ => ?_)
            clear hKQ KQ hb5
            try simp only [Act.put, List.setIfInBounds_toArray, List.set_cons_zero, List.set_cons_succ]
            refine wpAnyH_take (i := 3) (oi := { dst := some 30, op := Op.unOp UnOp.not 4 (Operand.tmp 29), type := 4, pos := "ref.go:229", after := #[{ on := 2, ground := Ground.data }], guard := none }) (v := ?_) rfl (by kernel_rfl) (by kernel_rfl) (by kernel_rfl) (fun _ _ _ h => h) (Or.inl ⟨by rfl, ?_⟩) (by assumption) ?_
            rotate_left
            · (intro W hSW; (try dsimp only at hSW); obtain ⟨p0, p1, p2, p3⟩ := Blk.c4 hSW; have zz := Blk.lt hSW; go_simp; first | done | with_reducible rfl)
            try simp only [Act.put, List.setIfInBounds_toArray, List.set_cons_zero, List.set_cons_succ]
            refine wpAnyH_take (i := 4) (oi := { dst := some 31, op := Op.move (Operand.tmp 30), type := 4, pos := "ref.go:229", after := #[{ on := 3, ground := Ground.data }, { on := 2, ground := Ground.chain }], guard := none }) (v := ?_) rfl (by kernel_rfl) (by kernel_rfl) (by kernel_rfl) (fun _ _ _ h => h) (Or.inl ⟨by rfl, ?_⟩) (by assumption) ?_
            rotate_left
            · (intro W hSW; (try dsimp only at hSW); obtain ⟨p0, p1, p2, p3⟩ := Blk.c4 hSW; have zz := Blk.lt hSW; go_simp; first | done | with_reducible rfl)
            try simp only [Act.put, List.setIfInBounds_toArray, List.set_cons_zero, List.set_cons_succ]
            refine wpAnyH_take (i := 5) (oi := { dst := some 32, op := Op.move (Operand.tmp 8), type := 3, pos := "ref.go:229", after := #[{ on := 4, ground := Ground.guard }], guard := some (4, false) }) (v := undef) rfl (by kernel_rfl) (by kernel_rfl) (by kernel_rfl) (fun _ _ _ h => h) (Or.inr ⟨by rfl, rfl⟩) (by assumption) ?_
            try simp only [Act.put, List.setIfInBounds_toArray, List.set_cons_zero, List.set_cons_succ]
            refine wpAnyH_take (i := 6) (oi := { dst := some 33, op := Op.binOp BinOp.gtr 3 (Operand.tmp 32) (Operand.const (Value.int IntKind.i64 0)) 3, type := 4, pos := "ref.go:229", after := #[{ on := 5, ground := Ground.data }, { on := 4, ground := Ground.guard }], guard := some (4, false) }) (v := undef) rfl (by kernel_rfl) (by kernel_rfl) (by kernel_rfl) (fun _ _ _ h => h) (Or.inr ⟨by rfl, rfl⟩) (by assumption) ?_
            try simp only [Act.put, List.setIfInBounds_toArray, List.set_cons_zero, List.set_cons_succ]
            refine wpAnyH_take (i := 7) (oi := { dst := some 34, op := Op.move (Operand.tmp 33), type := 4, pos := "ref.go:229", after := #[{ on := 6, ground := Ground.data }, { on := 4, ground := Ground.chain }, { on := 4, ground := Ground.guard }], guard := some (4, false) }) (v := undef) rfl (by kernel_rfl) (by kernel_rfl) (by kernel_rfl) (fun _ _ _ h => h) (Or.inr ⟨by rfl, rfl⟩) (by assumption) ?_
            try simp only [Act.put, List.setIfInBounds_toArray, List.set_cons_zero, List.set_cons_succ]
            refine wpAnyH_take (i := 8) (oi := { dst := some 35, op := Op.fieldAddr 30 (Operand.tmp 1) 0, type := 0, pos := "ref.go:229", after := #[{ on := 7, ground := Ground.guard }], guard := some (7, true) }) (v := undef) rfl (by kernel_rfl) (by kernel_rfl) (by kernel_rfl) (fun _ _ _ h => h) (Or.inr ⟨by rfl, rfl⟩) (by assumption) ?_
            try simp only [Act.put, List.setIfInBounds_toArray, List.set_cons_zero, List.set_cons_succ]
            refine wpAnyH_take (i := 9) (oi := { dst := some 36, op := Op.load 26 (Operand.tmp 35), type := 26, pos := "ref.go:229", after := #[{ on := 8, ground := Ground.data }, { on := 7, ground := Ground.guard }], guard := some (7, true) }) (v := undef) rfl (by kernel_rfl) (by kernel_rfl) (by kernel_rfl) (fun _ _ _ h => h) (Or.inr ⟨by rfl, rfl⟩) (by assumption) ?_
            try simp only [Act.put, List.setIfInBounds_toArray, List.set_cons_zero, List.set_cons_succ]
            refine wpAnyH_take (i := 10) (oi := { dst := some 37, op := Op.move (Operand.tmp 8), type := 3, pos := "ref.go:229", after := #[{ on := 7, ground := Ground.guard }], guard := some (7, true) }) (v := undef) rfl (by kernel_rfl) (by kernel_rfl) (by kernel_rfl) (fun _ _ _ h => h) (Or.inr ⟨by rfl, rfl⟩) (by assumption) ?_
            try simp only [Act.put, List.setIfInBounds_toArray, List.set_cons_zero, List.set_cons_succ]
            refine wpAnyH_take (i := 11) (oi := { dst := some 38, op := Op.binOp BinOp.sub 3 (Operand.tmp 37) (Operand.const (Value.int IntKind.i64 1)) 3, type := 3, pos := "ref.go:229", after := #[{ on := 10, ground := Ground.data }, { on := 7, ground := Ground.guard }], guard := some (7, true) }) (v := undef) rfl (by kernel_rfl) (by kernel_rfl) (by kernel_rfl) (fun _ _ _ h => h) (Or.inr ⟨by rfl, rfl⟩) (by assumption) ?_
            try simp only [Act.put, List.setIfInBounds_toArray, List.set_cons_zero, List.set_cons_succ]
            refine wpAnyH_take (i := 12) (oi := { dst := some 39, op := Op.indexAddr 26 (Operand.tmp 36) (Operand.tmp 38), type := 0, pos := "ref.go:229", after := #[{ on := 9, ground := Ground.data }, { on := 11, ground := Ground.data }, { on := 7, ground := Ground.guard }], guard := some (7, true) }) (v := undef) rfl (by kernel_rfl) (by kernel_rfl) (by kernel_rfl) (fun _ _ _ h => h) (Or.inr ⟨by rfl, rfl⟩) (by assumption) ?_
            try simp only [Act.put, List.setIfInBounds_toArray, List.set_cons_zero, List.set_cons_succ]
            refine wpAnyH_take (i := 13) (oi := { dst := some 40, op := Op.load 9 (Operand.tmp 39), type := 9, pos := "ref.go:229", after := #[{ on := 12, ground := Ground.data }, { on := 7, ground := Ground.guard }], guard := some (7, true) }) (v := undef) rfl (by kernel_rfl) (by kernel_rfl) (by kernel_rfl) (fun _ _ _ h => h) (Or.inr ⟨by rfl, rfl⟩) (by assumption) ?_
            try simp only [Act.put, List.setIfInBounds_toArray, List.set_cons_zero, List.set_cons_succ]
            refine wpAnyH_take (i := 14) (oi := { dst := some 41, op := Op.fieldAddr 30 (Operand.tmp 1) 0, type := 0, pos := "ref.go:229", after := #[{ on := 7, ground := Ground.guard }], guard := some (7, true) }) (v := undef) rfl (by kernel_rfl) (by kernel_rfl) (by kernel_rfl) (fun _ _ _ h => h) (Or.inr ⟨by rfl, rfl⟩) (by assumption) ?_
            try simp only [Act.put, List.setIfInBounds_toArray, List.set_cons_zero, List.set_cons_succ]
            refine wpAnyH_take (i := 15) (oi := { dst := some 42, op := Op.load 26 (Operand.tmp 41), type := 26, pos := "ref.go:229", after := #[{ on := 14, ground := Ground.data }, { on := 7, ground := Ground.guard }], guard := some (7, true) }) (v := undef) rfl (by kernel_rfl) (by kernel_rfl) (by kernel_rfl) (fun _ _ _ h => h) (Or.inr ⟨by rfl, rfl⟩) (by assumption) ?_
            try simp only [Act.put, List.setIfInBounds_toArray, List.set_cons_zero, List.set_cons_succ]
            refine wpAnyH_take (i := 16) (oi := { dst := some 43, op := Op.move (Operand.tmp 8), type := 3, pos := "ref.go:229", after := #[{ on := 7, ground := Ground.guard }], guard := some (7, true) }) (v := undef) rfl (by kernel_rfl) (by kernel_rfl) (by kernel_rfl) (fun _ _ _ h => h) (Or.inr ⟨by rfl, rfl⟩) (by assumption) ?_
            try simp only [Act.put, List.setIfInBounds_toArray, List.set_cons_zero, List.set_cons_succ]
            refine wpAnyH_take (i := 17) (oi := { dst := some 44, op := Op.indexAddr 26 (Operand.tmp 42) (Operand.tmp 43), type := 0, pos := "ref.go:229", after := #[{ on := 15, ground := Ground.data }, { on := 16, ground := Ground.data }, { on := 7, ground := Ground.guard }], guard := some (7, true) }) (v := undef) rfl (by kernel_rfl) (by kernel_rfl) (by kernel_rfl) (fun _ _ _ h => h) (Or.inr ⟨by rfl, rfl⟩) (by assumption) ?_
            try simp only [Act.put, List.setIfInBounds_toArray, List.set_cons_zero, List.set_cons_succ]
            refine wpAnyH_take (i := 18) (oi := { dst := some 45, op := Op.load 9 (Operand.tmp 44), type := 9, pos := "ref.go:229", after := #[{ on := 17, ground := Ground.data }, { on := 7, ground := Ground.guard }], guard := some (7, true) }) (v := undef) rfl (by kernel_rfl) (by kernel_rfl) (by kernel_rfl) (fun _ _ _ h => h) (Or.inr ⟨by rfl, rfl⟩) (by assumption) ?_
            try simp only [Act.put, List.setIfInBounds_toArray, List.set_cons_zero, List.set_cons_succ]
            refine wpAnyH_take (i := 19) (oi := { dst := some 46, op := Op.binOp BinOp.geq 9 (Operand.tmp 40) (Operand.tmp 45) 9, type := 4, pos := "ref.go:229", after := #[{ on := 13, ground := Ground.data }, { on := 18, ground := Ground.data }, { on := 7, ground := Ground.guard }], guard := some (7, true) }) (v := undef) rfl (by kernel_rfl) (by kernel_rfl) (by kernel_rfl) (fun _ _ _ h => h) (Or.inr ⟨by rfl, rfl⟩) (by assumption) ?_
            try simp only [Act.put, List.setIfInBounds_toArray, List.set_cons_zero, List.set_cons_succ]
            refine wpAnyH_take (i := 20) (oi := { dst := some 47, op := Op.pick (Operand.tmp 34) (Operand.tmp 46) (Operand.const (Value.bool false)), type := 4, pos := "ref.go:229", after := #[{ on := 7, ground := Ground.data }, { on := 19, ground := Ground.data }, { on := 4, ground := Ground.guard }], guard := some (4, false) }) (v := undef) rfl (by kernel_rfl) (by kernel_rfl) (by kernel_rfl) (fun _ _ _ h => h) (Or.inr ⟨by rfl, rfl⟩) (by assumption) ?_
            try simp only [Act.put, List.setIfInBounds_toArray, List.set_cons_zero, List.set_cons_succ]
            refine wpAnyH_take (i := 21) (oi := { dst := some 48, op := Op.pick (Operand.tmp 31) (Operand.const (Value.bool true)) (Operand.tmp 47), type := 4, pos := "ref.go:229", after := #[{ on := 4, ground := Ground.data }, { on := 20, ground := Ground.data }], guard := none }) (v := ?_) rfl (by kernel_rfl) (by kernel_rfl) (by kernel_rfl) (fun _ _ _ h => h) (Or.inl ⟨by rfl, ?_⟩) (by assumption) ?_
            rotate_left
            · (intro W hSW; (try dsimp only at hSW); obtain ⟨p0, p1, p2, p3⟩ := Blk.c4 hSW; have zz := Blk.lt hSW; go_simp; first | done | with_reducible rfl)
            try simp only [Act.put, List.setIfInBounds_toArray, List.set_cons_zero, List.set_cons_succ]
            refine wpAnyH_done (by kernel_rfl) ?_ _
            go_wp2_with fail
            go_meet
            case rel => exact ⟨rfl, HB5, KK5⟩
          | true =>
            by_cases h0 : i = 0
            · obtain rfl : bd = false := by rw [HBd.out, badF, ← HBu.out, h0]; rfl
              subst h0
              refine wp_region_held_drew (S := (fun W => Blk W w.heap.size 30 #[.slice (some ⟨b, o, none⟩) ls cs, .slice Ag ng cg, .slice Af nf cf, .slice Ae ne ce])) (by kernel_rfl) hK.out.drew (fun hHeld => ?_)
              try simp only [Act.put, List.setIfInBounds_toArray, List.set_cons_zero, List.set_cons_succ]
              refine wpAnyH_take (i := 0) (oi := { dst := some 27, op := Op.load 30 (Operand.tmp 1), type := 30, pos := "ref.go:229", after := #[], guard := none }) (v := ?_) rfl (by kernel_rfl) (by kernel_rfl) (by kernel_rfl) (fun _ _ _ h => h) (Or.inl ⟨by rfl, ?_⟩) (by assumption) ?_
              rotate_left
              · (intro W hSW; (try dsimp only at hSW); obtain ⟨p0, p1, p2, p3⟩ := Blk.c4 hSW; have zz := Blk.lt hSW; go_simp; first | done | with_reducible rfl)
              try simp only [Act.put, List.setIfInBounds_toArray, List.set_cons_zero, List.set_cons_succ]
              refine wpAnyH_take (i := 1) (oi := { dst := some 28, op := Op.move (Operand.tmp 8), type := 3, pos := "ref.go:229", after := #[], guard := none }) (v := ?_) rfl (by kernel_rfl) (by kernel_rfl) (by kernel_rfl) (fun _ _ _ h => h) (Or.inl ⟨by rfl, ?_⟩) (by assumption) ?_
              rotate_left
              · (intro W hSW; (try dsimp only at hSW); obtain ⟨p0, p1, p2, p3⟩ := Blk.c4 hSW; have zz := Blk.lt hSW; go_simp; first | done | with_reducible rfl)
              try simp only [Act.put, List.setIfInBounds_toArray, List.set_cons_zero, List.set_cons_succ]
              refine wpAnyH_ready (rs := [2]) (by kernel_rfl) (by simp) ?_
              refine AllReadyH.cons (o := { dst := some 29, op := Op.call { callee := Callee.value (Operand.func 44), args := #[Operand.tmp 27, Operand.tmp 28], argTypes := #[30, 3] }, type := 4, pos := "ref.go:229", after := #[{ on := 0, ground := Ground.data }, { on := 1, ground := Ground.data }], guard := none }) rfl (fun KQ hKQ => ?_) AllReadyH.nil
              go_simp
              go_at_call 44
              refine HUd.out.mono ?_
              rintro e w5 ⟨rfl, hb5⟩
              have HB5 := Lib.hid (hB.out.drew.trans (hb5.mono hB.out.drew.size))
              have KK5 := Lib.hid (hK.out.drew.old hb5)
              refine hKQ.out _ _ KK5.out (fun _ => ?_)
              clear hKQ KQ hb5
              try simp only [Act.put, List.setIfInBounds_toArray, List.set_cons_zero, List.set_cons_succ]
              refine wpAnyH_take (i := 3) (oi := { dst := some 30, op := Op.unOp UnOp.not 4 (Operand.tmp 29), type := 4, pos := "ref.go:229", after := #[{ on := 2, ground := Ground.data }], guard := none }) (v := ?_) rfl (by kernel_rfl) (by kernel_rfl) (by kernel_rfl) (fun _ _ _ h => h) (Or.inl ⟨by rfl, ?_⟩) (by assumption) ?_
              rotate_left
              · (intro W hSW; (try dsimp only at hSW); obtain ⟨p0, p1, p2, p3⟩ := Blk.c4 hSW; have zz := Blk.lt hSW; go_simp; first | done | with_reducible rfl)
              try simp only [Act.put, List.setIfInBounds_toArray, List.set_cons_zero, List.set_cons_succ]
              refine wpAnyH_take (i := 4) (oi := { dst := some 31, op := Op.move (Operand.tmp 30), type := 4, pos := "ref.go:229", after := #[{ on := 3, ground := Ground.data }, { on := 2, ground := Ground.chain }], guard := none }) (v := ?_) rfl (by kernel_rfl) (by kernel_rfl) (by kernel_rfl) (fun _ _ _ h => h) (Or.inl ⟨by rfl, ?_⟩) (by assumption) ?_
              rotate_left
              · (intro W hSW; (try dsimp only at hSW); obtain ⟨p0, p1, p2, p3⟩ := Blk.c4 hSW; have zz := Blk.lt hSW; go_simp; first | done | with_reducible rfl)
              try simp only [Act.put, List.setIfInBounds_toArray, List.set_cons_zero, List.set_cons_succ]
              refine wpAnyH_take (i := 5) (oi := { dst := some 32, op := Op.move (Operand.tmp 8), type := 3, pos := "ref.go:229", after := #[{ on := 4, ground := Ground.guard }], guard := some (4, false) }) (v := ?_) rfl (by kernel_rfl) (by kernel_rfl) (by kernel_rfl) (fun _ _ _ h => h) (Or.inl ⟨by rfl, ?_⟩) (by assumption) ?_
              rotate_left
              · (intro W hSW; (try dsimp only at hSW); obtain ⟨p0, p1, p2, p3⟩ := Blk.c4 hSW; have zz := Blk.lt hSW; go_simp; first | done | with_reducible rfl)
              try simp only [Act.put, List.setIfInBounds_toArray, List.set_cons_zero, List.set_cons_succ]
              refine wpAnyH_take (i := 6) (oi := { dst := some 33, op := Op.binOp BinOp.gtr 3 (Operand.tmp 32) (Operand.const (Value.int IntKind.i64 0)) 3, type := 4, pos := "ref.go:229", after := #[{ on := 5, ground := Ground.data }, { on := 4, ground := Ground.guard }], guard := some (4, false) }) (v := ?_) rfl (by kernel_rfl) (by kernel_rfl) (by kernel_rfl) (fun _ _ _ h => h) (Or.inl ⟨by rfl, ?_⟩) (by assumption) ?_
              rotate_left
              · (intro W hSW; (try dsimp only at hSW); obtain ⟨p0, p1, p2, p3⟩ := Blk.c4 hSW; have zz := Blk.lt hSW; go_simp; first | done | with_reducible rfl)
              try simp only [Act.put, List.setIfInBounds_toArray, List.set_cons_zero, List.set_cons_succ]
              refine wpAnyH_take (i := 7) (oi := { dst := some 34, op := Op.move (Operand.tmp 33), type := 4, pos := "ref.go:229", after := #[{ on := 6, ground := Ground.data }, { on := 4, ground := Ground.chain }, { on := 4, ground := Ground.guard }], guard := some (4, false) }) (v := ?_) rfl (by kernel_rfl) (by kernel_rfl) (by kernel_rfl) (fun _ _ _ h => h) (Or.inl ⟨by rfl, ?_⟩) (by assumption) ?_
              rotate_left
              · (intro W hSW; (try dsimp only at hSW); obtain ⟨p0, p1, p2, p3⟩ := Blk.c4 hSW; have zz := Blk.lt hSW; go_simp; first | done | with_reducible rfl)
              try simp only [Act.put, List.setIfInBounds_toArray, List.set_cons_zero, List.set_cons_succ]
              refine wpAnyH_take (i := 8) (oi := { dst := some 35, op := Op.fieldAddr 30 (Operand.tmp 1) 0, type := 0, pos := "ref.go:229", after := #[{ on := 7, ground := Ground.guard }], guard := some (7, true) }) (v := undef) rfl (by kernel_rfl) (by kernel_rfl) (by kernel_rfl) (fun _ _ _ h => h) (Or.inr ⟨by rfl, rfl⟩) (by assumption) ?_
              try simp only [Act.put, List.setIfInBounds_toArray, List.set_cons_zero, List.set_cons_succ]
              refine wpAnyH_take (i := 9) (oi := { dst := some 36, op := Op.load 26 (Operand.tmp 35), type := 26, pos := "ref.go:229", after := #[{ on := 8, ground := Ground.data }, { on := 7, ground := Ground.guard }], guard := some (7, true) }) (v := undef) rfl (by kernel_rfl) (by kernel_rfl) (by kernel_rfl) (fun _ _ _ h => h) (Or.inr ⟨by rfl, rfl⟩) (by assumption) ?_
              try simp only [Act.put, List.setIfInBounds_toArray, List.set_cons_zero, List.set_cons_succ]
              refine wpAnyH_take (i := 10) (oi := { dst := some 37, op := Op.move (Operand.tmp 8), type := 3, pos := "ref.go:229", after := #[{ on := 7, ground := Ground.guard }], guard := some (7, true) }) (v := undef) rfl (by kernel_rfl) (by kernel_rfl) (by kernel_rfl) (fun _ _ _ h => h) (Or.inr ⟨by rfl, rfl⟩) (by assumption) ?_
              try simp only [Act.put, List.setIfInBounds_toArray, List.set_cons_zero, List.set_cons_succ]
              refine wpAnyH_take (i := 11) (oi := { dst := some 38, op := Op.binOp BinOp.sub 3 (Operand.tmp 37) (Operand.const (Value.int IntKind.i64 1)) 3, type := 3, pos := "ref.go:229", after := #[{ on := 10, ground := Ground.data }, { on := 7, ground := Ground.guard }], guard := some (7, true) }) (v := undef) rfl (by kernel_rfl) (by kernel_rfl) (by kernel_rfl) (fun _ _ _ h => h) (Or.inr ⟨by rfl, rfl⟩) (by assumption) ?_
              try simp only [Act.put, List.setIfInBounds_toArray, List.set_cons_zero, List.set_cons_succ]
              refine wpAnyH_take (i := 12) (oi := { dst := some 39, op := Op.indexAddr 26 (Operand.tmp 36) (Operand.tmp 38), type := 0, pos := "ref.go:229", after := #[{ on := 9, ground := Ground.data }, { on := 11, ground := Ground.data }, { on := 7, ground := Ground.guard }], guard := some (7, true) }) (v := undef) rfl (by kernel_rfl) (by kernel_rfl) (by kernel_rfl) (fun _ _ _ h => h) (Or.inr ⟨by rfl, rfl⟩) (by assumption) ?_
              try simp only [Act.put, List.setIfInBounds_toArray, List.set_cons_zero, List.set_cons_succ]
              refine wpAnyH_take (i := 13) (oi := { dst := some 40, op := Op.load 9 (Operand.tmp 39), type := 9, pos := "ref.go:229", after := #[{ on := 12, ground := Ground.data }, { on := 7, ground := Ground.guard }], guard := some (7, true) }) (v := undef) rfl (by kernel_rfl) (by kernel_rfl) (by kernel_rfl) (fun _ _ _ h => h) (Or.inr ⟨by rfl, rfl⟩) (by assumption) ?_
              try simp only [Act.put, List.setIfInBounds_toArray, List.set_cons_zero, List.set_cons_succ]
              refine wpAnyH_take (i := 14) (oi := { dst := some 41, op := Op.fieldAddr 30 (Operand.tmp 1) 0, type := 0, pos := "ref.go:229", after := #[{ on := 7, ground := Ground.guard }], guard := some (7, true) }) (v := undef) rfl (by kernel_rfl) (by kernel_rfl) (by kernel_rfl) (fun _ _ _ h => h) (Or.inr ⟨by rfl, rfl⟩) (by assumption) ?_
              try simp only [Act.put, List.setIfInBounds_toArray, List.set_cons_zero, List.set_cons_succ]
              refine wpAnyH_take (i := 15) (oi := { dst := some 42, op := Op.load 26 (Operand.tmp 41), type := 26, pos := "ref.go:229", after := #[{ on := 14, ground := Ground.data }, { on := 7, ground := Ground.guard }], guard := some (7, true) }) (v := undef) rfl (by kernel_rfl) (by kernel_rfl) (by kernel_rfl) (fun _ _ _ h => h) (Or.inr ⟨by rfl, rfl⟩) (by assumption) ?_
              try simp only [Act.put, List.setIfInBounds_toArray, List.set_cons_zero, List.set_cons_succ]
              refine wpAnyH_take (i := 16) (oi := { dst := some 43, op := Op.move (Operand.tmp 8), type := 3, pos := "ref.go:229", after := #[{ on := 7, ground := Ground.guard }], guard := some (7, true) }) (v := undef) rfl (by kernel_rfl) (by kernel_rfl) (by kernel_rfl) (fun _ _ _ h => h) (Or.inr ⟨by rfl, rfl⟩) (by assumption) ?_
              try simp only [Act.put, List.setIfInBounds_toArray, List.set_cons_zero, List.set_cons_succ]
              refine wpAnyH_take (i := 17) (oi := { dst := some 44, op := Op.indexAddr 26 (Operand.tmp 42) (Operand.tmp 43), type := 0, pos := "ref.go:229", after := #[{ on := 15, ground := Ground.data }, { on := 16, ground := Ground.data }, { on := 7, ground := Ground.guard }], guard := some (7, true) }) (v := undef) rfl (by kernel_rfl) (by kernel_rfl) (by kernel_rfl) (fun _ _ _ h => h) (Or.inr ⟨by rfl, rfl⟩) (by assumption) ?_
              try simp only [Act.put, List.setIfInBounds_toArray, List.set_cons_zero, List.set_cons_succ]
              refine wpAnyH_take (i := 18) (oi := { dst := some 45, op := Op.load 9 (Operand.tmp 44), type := 9, pos := "ref.go:229", after := #[{ on := 17, ground := Ground.data }, { on := 7, ground := Ground.guard }], guard := some (7, true) }) (v := undef) rfl (by kernel_rfl) (by kernel_rfl) (by kernel_rfl) (fun _ _ _ h => h) (Or.inr ⟨by rfl, rfl⟩) (by assumption) ?_
              try simp only [Act.put, List.setIfInBounds_toArray, List.set_cons_zero, List.set_cons_succ]
              refine wpAnyH_take (i := 19) (oi := { dst := some 46, op := Op.binOp BinOp.geq 9 (Operand.tmp 40) (Operand.tmp 45) 9, type := 4, pos := "ref.go:229", after := #[{ on := 13, ground := Ground.data }, { on := 18, ground := Ground.data }, { on := 7, ground := Ground.guard }], guard := some (7, true) }) (v := undef) rfl (by kernel_rfl) (by kernel_rfl) (by kernel_rfl) (fun _ _ _ h => h) (Or.inr ⟨by rfl, rfl⟩) (by assumption) ?_
              try simp only [Act.put, List.setIfInBounds_toArray, List.set_cons_zero, List.set_cons_succ]
              refine wpAnyH_take (i := 20) (oi := { dst := some 47, op := Op.pick (Operand.tmp 34) (Operand.tmp 46) (Operand.const (Value.bool false)), type := 4, pos := "ref.go:229", after := #[{ on := 7, ground := Ground.data }, { on := 19, ground := Ground.data }, { on := 4, ground := Ground.guard }], guard := some (4, false) }) (v := ?_) rfl (by kernel_rfl) (by kernel_rfl) (by kernel_rfl) (fun _ _ _ h => h) (Or.inl ⟨by rfl, ?_⟩) (by assumption) ?_
              rotate_left
              · (intro W hSW; (try dsimp only at hSW); obtain ⟨p0, p1, p2, p3⟩ := Blk.c4 hSW; have zz := Blk.lt hSW; go_simp; first | done | with_reducible rfl)
              try simp only [Act.put, List.setIfInBounds_toArray, List.set_cons_zero, List.set_cons_succ]
              refine wpAnyH_take (i := 21) (oi := { dst := some 48, op := Op.pick (Operand.tmp 31) (Operand.const (Value.bool true)) (Operand.tmp 47), type := 4, pos := "ref.go:229", after := #[{ on := 4, ground := Ground.data }, { on := 20, ground := Ground.data }], guard := none }) (v := ?_) rfl (by kernel_rfl) (by kernel_rfl) (by kernel_rfl) (fun _ _ _ h => h) (Or.inl ⟨by rfl, ?_⟩) (by assumption) ?_
              rotate_left
              · (intro W hSW; (try dsimp only at hSW); obtain ⟨p0, p1, p2, p3⟩ := Blk.c4 hSW; have zz := Blk.lt hSW; go_simp; first | done | with_reducible rfl)
              try simp only [Act.put, List.setIfInBounds_toArray, List.set_cons_zero, List.set_cons_succ]
              refine wpAnyH_done (by kernel_rfl) ?_ _
              go_wp2_with fail
              go_meet
              case rel => exact ⟨rfl, HB5, KK5⟩
            · obtain ⟨j, hj⟩ : ∃ j, i = j + 1 := ⟨i - 1, by omega⟩
              have hjl : j < M.strs.length := by omega
              obtain ⟨x, hx⟩ : ∃ x, x = M.strs[j] := ⟨_, rfl⟩
              obtain ⟨y, hy⟩ : ∃ y, y = M.strs[i] := ⟨_, rfl⟩
              have HSx : Hid (M.strs[j]? = some x) := by show _ = _; rw [hx]; exact List.getElem?_eq_getElem hjl
              have HSy : Hid (M.strs[i]? = some y) := by show _ = _; rw [hy]; exact List.getElem?_eq_getElem hil
              have hbd : bd = !(Op.bytesLess x y) := by
                rw [HBd.out, badF, ← HBu.out]
                rw [show M.strs.getD (i - 1) [] = x from by rw [hx, show i - 1 = j from by omega]; simp [List.getD, hjl], show M.strs.getD i [] = y from by rw [hy]; simp [List.getD, hil]]
                simp; omega
              obtain ⟨sx, hsxe⟩ : ∃ sx, sx = bs x := ⟨_, rfl⟩
              obtain ⟨sy, hsye⟩ : ∃ sy, sy = bs y := ⟨_, rfl⟩
              have hq1 := bs_toList x
              have hq2 := bs_toList y
              have hsx : wr.drew.cell? ⟨b, o + j, none⟩ = some (.string sx) := by rw [hsxe]; exact cell_old hB.out.drew hbl (HcS.out j _ HSx.out)
              have hsy : wr.drew.cell? ⟨b, o + i, none⟩ = some (.string sy) := by rw [hsye]; exact cell_old hB.out.drew hbl (HcS.out i _ HSy.out)
              have h0i : (0 : Int) < (i : Int) := by omega
              have hjj : (i : Int) - 1 = (j : Int) := by omega
              have hjn : (j : Int) < (ls : Int) := by omega
              have hwr : IntKind.i64.wrap (j : Int) = (j : Int) := by rw [IntKind.wrap_i64]; omega
              have hbl2 : Op.bytesLess sx.toList sy.toList = !bd := by rw [hsxe, hsye, hq1, hq2, hbd]; simp
              have HQ : Hid (bs x = sx ∧ bs y = sy) := ⟨hsxe.symm, hsye.symm⟩
              clear hq1 hq2 hx hy hbd hj h0 hsxe hsye
              cases bd with
              | false =>
                have hbl3 : Op.bytesLess sx.toList sy.toList = true := hbl2
                clear hbl2
                refine wp_region_held_drew (S := (fun W => Blk W w.heap.size 30 #[.slice (some ⟨b, o, none⟩) ls cs, .slice Ag ng cg, .slice Af nf cf, .slice Ae ne ce] ∧ W.cell? ⟨b, o + j, none⟩ = some (.string sx) ∧ W.cell? ⟨b, o + i, none⟩ = some (.string sy))) (by kernel_rfl) ⟨hK.out.drew, hsx, hsy⟩ (fun hHeld => ?_)
                try simp only [Act.put, List.setIfInBounds_toArray, List.set_cons_zero, List.set_cons_succ]
                refine wpAnyH_take (i := 0) (oi := { dst := some 27, op := Op.load 30 (Operand.tmp 1), type := 30, pos := "ref.go:229", after := #[], guard := none }) (v := ?_) rfl (by kernel_rfl) (by kernel_rfl) (by kernel_rfl) (fun _ _ _ h => h) (Or.inl ⟨by rfl, ?_⟩) (by assumption) ?_
                rotate_left
                · (intro W hSW; (try dsimp only at hSW); obtain ⟨hSB, hS1, hS2⟩ := hSW; obtain ⟨p0, p1, p2, p3⟩ := hSB.c4; have zz := Blk.lt hSB; have zb := World.block_lt_of_cell? W ⟨b, o + j, none⟩ hS1; go_simp; first | done | with_reducible rfl)
                try simp only [Act.put, List.setIfInBounds_toArray, List.set_cons_zero, List.set_cons_succ]
                refine wpAnyH_take (i := 1) (oi := { dst := some 28, op := Op.move (Operand.tmp 8), type := 3, pos := "ref.go:229", after := #[], guard := none }) (v := ?_) rfl (by kernel_rfl) (by kernel_rfl) (by kernel_rfl) (fun _ _ _ h => h) (Or.inl ⟨by rfl, ?_⟩) (by assumption) ?_
                rotate_left
                · (intro W hSW; (try dsimp only at hSW); obtain ⟨hSB, hS1, hS2⟩ := hSW; obtain ⟨p0, p1, p2, p3⟩ := hSB.c4; have zz := Blk.lt hSB; have zb := World.block_lt_of_cell? W ⟨b, o + j, none⟩ hS1; go_simp; first | done | with_reducible rfl)
                try simp only [Act.put, List.setIfInBounds_toArray, List.set_cons_zero, List.set_cons_succ]
                refine wpAnyH_ready (rs := [2]) (by kernel_rfl) (by simp) ?_
                refine AllReadyH.cons (o := { dst := some 29, op := Op.call { callee := Callee.value (Operand.func 44), args := #[Operand.tmp 27, Operand.tmp 28], argTypes := #[30, 3] }, type := 4, pos := "ref.go:229", after := #[{ on := 0, ground := Ground.data }, { on := 1, ground := Ground.data }], guard := none }) rfl (fun KQ hKQ => ?_) AllReadyH.nil
                go_simp
                go_at_call 44
                refine HUd.out.mono ?_
                rintro e w5 ⟨rfl, hb5⟩
                have HB5 := Lib.hid (hB.out.drew.trans (hb5.mono hB.out.drew.size))
                have KK5 := Lib.hid (hK.out.drew.old hb5)
                refine hKQ.out _ _ ⟨KK5.out, by have := cell_old HB5.out hbl (HcS.out j _ HSx.out); rwa [HQ.out.1] at this, by have := cell_old HB5.out hbl (HcS.out i _ HSy.out); rwa [HQ.out.2] at this⟩ (fun _ => ?_)
                clear hKQ KQ hb5
                try simp only [Act.put, List.setIfInBounds_toArray, List.set_cons_zero, List.set_cons_succ]
                refine wpAnyH_take (i := 3) (oi := { dst := some 30, op := Op.unOp UnOp.not 4 (Operand.tmp 29), type := 4, pos := "ref.go:229", after := #[{ on := 2, ground := Ground.data }], guard := none }) (v := ?_) rfl (by kernel_rfl) (by kernel_rfl) (by kernel_rfl) (fun _ _ _ h => h) (Or.inl ⟨by rfl, ?_⟩) (by assumption) ?_
                rotate_left
                · (intro W hSW; (try dsimp only at hSW); obtain ⟨hSB, hS1, hS2⟩ := hSW; obtain ⟨p0, p1, p2, p3⟩ := hSB.c4; have zz := Blk.lt hSB; have zb := World.block_lt_of_cell? W ⟨b, o + j, none⟩ hS1; go_simp; first | done | with_reducible rfl)
                try simp only [Act.put, List.setIfInBounds_toArray, List.set_cons_zero, List.set_cons_succ]
                refine wpAnyH_take (i := 4) (oi := { dst := some 31, op := Op.move (Operand.tmp 30), type := 4, pos := "ref.go:229", after := #[{ on := 3, ground := Ground.data }, { on := 2, ground := Ground.chain }], guard := none }) (v := ?_) rfl (by kernel_rfl) (by kernel_rfl) (by kernel_rfl) (fun _ _ _ h => h) (Or.inl ⟨by rfl, ?_⟩) (by assumption) ?_
                rotate_left
                · (intro W hSW; (try dsimp only at hSW); obtain ⟨hSB, hS1, hS2⟩ := hSW; obtain ⟨p0, p1, p2, p3⟩ := hSB.c4; have zz := Blk.lt hSB; have zb := World.block_lt_of_cell? W ⟨b, o + j, none⟩ hS1; go_simp; first | done | with_reducible rfl)
                try simp only [Act.put, List.setIfInBounds_toArray, List.set_cons_zero, List.set_cons_succ]
                refine wpAnyH_take (i := 5) (oi := { dst := some 32, op := Op.move (Operand.tmp 8), type := 3, pos := "ref.go:229", after := #[{ on := 4, ground := Ground.guard }], guard := some (4, false) }) (v := ?_) rfl (by kernel_rfl) (by kernel_rfl) (by kernel_rfl) (fun _ _ _ h => h) (Or.inl ⟨by rfl, ?_⟩) (by assumption) ?_
                rotate_left
                · (intro W hSW; (try dsimp only at hSW); obtain ⟨hSB, hS1, hS2⟩ := hSW; obtain ⟨p0, p1, p2, p3⟩ := hSB.c4; have zz := Blk.lt hSB; have zb := World.block_lt_of_cell? W ⟨b, o + j, none⟩ hS1; go_simp; first | done | with_reducible rfl)
                try simp only [Act.put, List.setIfInBounds_toArray, List.set_cons_zero, List.set_cons_succ]
                refine wpAnyH_take (i := 6) (oi := { dst := some 33, op := Op.binOp BinOp.gtr 3 (Operand.tmp 32) (Operand.const (Value.int IntKind.i64 0)) 3, type := 4, pos := "ref.go:229", after := #[{ on := 5, ground := Ground.data }, { on := 4, ground := Ground.guard }], guard := some (4, false) }) (v := .bool true) rfl (by kernel_rfl) (by kernel_rfl) (by kernel_rfl) (fun _ _ _ h => h) (Or.inl ⟨by rfl, ?_⟩) (by assumption) ?_
                · (intro W hSW; (try dsimp only at hSW); obtain ⟨hSB, hS1, hS2⟩ := hSW; obtain ⟨p0, p1, p2, p3⟩ := hSB.c4; have zz := Blk.lt hSB; have zb := World.block_lt_of_cell? W ⟨b, o + j, none⟩ hS1; go_simp; first | done | exact h0i | omega | (simp; omega) | with_reducible rfl)
                try simp only [Act.put, List.setIfInBounds_toArray, List.set_cons_zero, List.set_cons_succ]
                refine wpAnyH_take (i := 7) (oi := { dst := some 34, op := Op.move (Operand.tmp 33), type := 4, pos := "ref.go:229", after := #[{ on := 6, ground := Ground.data }, { on := 4, ground := Ground.chain }, { on := 4, ground := Ground.guard }], guard := some (4, false) }) (v := ?_) rfl (by kernel_rfl) (by kernel_rfl) (by kernel_rfl) (fun _ _ _ h => h) (Or.inl ⟨by rfl, ?_⟩) (by assumption) ?_
                rotate_left
                · (intro W hSW; (try dsimp only at hSW); obtain ⟨hSB, hS1, hS2⟩ := hSW; obtain ⟨p0, p1, p2, p3⟩ := hSB.c4; have zz := Blk.lt hSB; have zb := World.block_lt_of_cell? W ⟨b, o + j, none⟩ hS1; go_simp; first | done | with_reducible rfl)
                try simp only [Act.put, List.setIfInBounds_toArray, List.set_cons_zero, List.set_cons_succ]
                refine wpAnyH_take (i := 8) (oi := { dst := some 35, op := Op.fieldAddr 30 (Operand.tmp 1) 0, type := 0, pos := "ref.go:229", after := #[{ on := 7, ground := Ground.guard }], guard := some (7, true) }) (v := ?_) rfl (by kernel_rfl) (by kernel_rfl) (by kernel_rfl) (fun _ _ _ h => h) (Or.inl ⟨by rfl, ?_⟩) (by assumption) ?_
                rotate_left
                · (intro W hSW; (try dsimp only at hSW); obtain ⟨hSB, hS1, hS2⟩ := hSW; obtain ⟨p0, p1, p2, p3⟩ := hSB.c4; have zz := Blk.lt hSB; have zb := World.block_lt_of_cell? W ⟨b, o + j, none⟩ hS1; go_simp; first | done | with_reducible rfl)
                try simp only [Act.put, List.setIfInBounds_toArray, List.set_cons_zero, List.set_cons_succ]
                refine wpAnyH_take (i := 9) (oi := { dst := some 36, op := Op.load 26 (Operand.tmp 35), type := 26, pos := "ref.go:229", after := #[{ on := 8, ground := Ground.data }, { on := 7, ground := Ground.guard }], guard := some (7, true) }) (v := ?_) rfl (by kernel_rfl) (by kernel_rfl) (by kernel_rfl) (fun _ _ _ h => h) (Or.inl ⟨by rfl, ?_⟩) (by assumption) ?_
                rotate_left
                · (intro W hSW; (try dsimp only at hSW); obtain ⟨hSB, hS1, hS2⟩ := hSW; obtain ⟨p0, p1, p2, p3⟩ := hSB.c4; have zz := Blk.lt hSB; have zb := World.block_lt_of_cell? W ⟨b, o + j, none⟩ hS1; go_simp; first | done | with_reducible rfl)
                try simp only [Act.put, List.setIfInBounds_toArray, List.set_cons_zero, List.set_cons_succ]
                refine wpAnyH_take (i := 10) (oi := { dst := some 37, op := Op.move (Operand.tmp 8), type := 3, pos := "ref.go:229", after := #[{ on := 7, ground := Ground.guard }], guard := some (7, true) }) (v := ?_) rfl (by kernel_rfl) (by kernel_rfl) (by kernel_rfl) (fun _ _ _ h => h) (Or.inl ⟨by rfl, ?_⟩) (by assumption) ?_
                rotate_left
                · (intro W hSW; (try dsimp only at hSW); obtain ⟨hSB, hS1, hS2⟩ := hSW; obtain ⟨p0, p1, p2, p3⟩ := hSB.c4; have zz := Blk.lt hSB; have zb := World.block_lt_of_cell? W ⟨b, o + j, none⟩ hS1; go_simp; first | done | with_reducible rfl)
                try simp only [Act.put, List.setIfInBounds_toArray, List.set_cons_zero, List.set_cons_succ]
                refine wpAnyH_take (i := 11) (oi := { dst := some 38, op := Op.binOp BinOp.sub 3 (Operand.tmp 37) (Operand.const (Value.int IntKind.i64 1)) 3, type := 3, pos := "ref.go:229", after := #[{ on := 10, ground := Ground.data }, { on := 7, ground := Ground.guard }], guard := some (7, true) }) (v := ?_) rfl (by kernel_rfl) (by kernel_rfl) (by kernel_rfl) (fun _ _ _ h => h) (Or.inl ⟨by rfl, ?_⟩) (by assumption) ?_
                rotate_left
                · (intro W hSW; (try dsimp only at hSW); obtain ⟨hSB, hS1, hS2⟩ := hSW; obtain ⟨p0, p1, p2, p3⟩ := hSB.c4; have zz := Blk.lt hSB; have zb := World.block_lt_of_cell? W ⟨b, o + j, none⟩ hS1; go_simp; first | done | with_reducible rfl)
                try simp only [Act.put, List.setIfInBounds_toArray, List.set_cons_zero, List.set_cons_succ]
                refine wpAnyH_take (i := 12) (oi := { dst := some 39, op := Op.indexAddr 26 (Operand.tmp 36) (Operand.tmp 38), type := 0, pos := "ref.go:229", after := #[{ on := 9, ground := Ground.data }, { on := 11, ground := Ground.data }, { on := 7, ground := Ground.guard }], guard := some (7, true) }) (v := ?_) rfl (by kernel_rfl) (by kernel_rfl) (by kernel_rfl) (fun _ _ _ h => h) (Or.inl ⟨by rfl, ?_⟩) (by assumption) ?_
                rotate_left
                · (intro W hSW; (try dsimp only at hSW); obtain ⟨hSB, hS1, hS2⟩ := hSW; obtain ⟨p0, p1, p2, p3⟩ := hSB.c4; have zz := Blk.lt hSB; have zb := World.block_lt_of_cell? W ⟨b, o + j, none⟩ hS1; go_simp; first | done | with_reducible rfl)
                try simp only [Act.put, List.setIfInBounds_toArray, List.set_cons_zero, List.set_cons_succ]
                refine wpAnyH_take (i := 13) (oi := { dst := some 40, op := Op.load 9 (Operand.tmp 39), type := 9, pos := "ref.go:229", after := #[{ on := 12, ground := Ground.data }, { on := 7, ground := Ground.guard }], guard := some (7, true) }) (v := ?_) rfl (by kernel_rfl) (by kernel_rfl) (by kernel_rfl) (fun _ _ _ h => h) (Or.inl ⟨by rfl, ?_⟩) (by assumption) ?_
                rotate_left
                · (intro W hSW; (try dsimp only at hSW); obtain ⟨hSB, hS1, hS2⟩ := hSW; obtain ⟨p0, p1, p2, p3⟩ := hSB.c4; have zz := Blk.lt hSB; have zb := World.block_lt_of_cell? W ⟨b, o + j, none⟩ hS1; go_simp; first | done | with_reducible rfl)
                try simp only [Act.put, List.setIfInBounds_toArray, List.set_cons_zero, List.set_cons_succ]
                refine wpAnyH_take (i := 14) (oi := { dst := some 41, op := Op.fieldAddr 30 (Operand.tmp 1) 0, type := 0, pos := "ref.go:229", after := #[{ on := 7, ground := Ground.guard }], guard := some (7, true) }) (v := ?_) rfl (by kernel_rfl) (by kernel_rfl) (by kernel_rfl) (fun _ _ _ h => h) (Or.inl ⟨by rfl, ?_⟩) (by assumption) ?_
                rotate_left
                · (intro W hSW; (try dsimp only at hSW); obtain ⟨hSB, hS1, hS2⟩ := hSW; obtain ⟨p0, p1, p2, p3⟩ := hSB.c4; have zz := Blk.lt hSB; have zb := World.block_lt_of_cell? W ⟨b, o + j, none⟩ hS1; go_simp; first | done | with_reducible rfl)
                try simp only [Act.put, List.setIfInBounds_toArray, List.set_cons_zero, List.set_cons_succ]
                refine wpAnyH_take (i := 15) (oi := { dst := some 42, op := Op.load 26 (Operand.tmp 41), type := 26, pos := "ref.go:229", after := #[{ on := 14, ground := Ground.data }, { on := 7, ground := Ground.guard }], guard := some (7, true) }) (v := ?_) rfl (by kernel_rfl) (by kernel_rfl) (by kernel_rfl) (fun _ _ _ h => h) (Or.inl ⟨by rfl, ?_⟩) (by assumption) ?_
                rotate_left
                · (intro W hSW; (try dsimp only at hSW); obtain ⟨hSB, hS1, hS2⟩ := hSW; obtain ⟨p0, p1, p2, p3⟩ := hSB.c4; have zz := Blk.lt hSB; have zb := World.block_lt_of_cell? W ⟨b, o + j, none⟩ hS1; go_simp; first | done | with_reducible rfl)
                try simp only [Act.put, List.setIfInBounds_toArray, List.set_cons_zero, List.set_cons_succ]
                refine wpAnyH_take (i := 16) (oi := { dst := some 43, op := Op.move (Operand.tmp 8), type := 3, pos := "ref.go:229", after := #[{ on := 7, ground := Ground.guard }], guard := some (7, true) }) (v := ?_) rfl (by kernel_rfl) (by kernel_rfl) (by kernel_rfl) (fun _ _ _ h => h) (Or.inl ⟨by rfl, ?_⟩) (by assumption) ?_
                rotate_left
                · (intro W hSW; (try dsimp only at hSW); obtain ⟨hSB, hS1, hS2⟩ := hSW; obtain ⟨p0, p1, p2, p3⟩ := hSB.c4; have zz := Blk.lt hSB; have zb := World.block_lt_of_cell? W ⟨b, o + j, none⟩ hS1; go_simp; first | done | with_reducible rfl)
                try simp only [Act.put, List.setIfInBounds_toArray, List.set_cons_zero, List.set_cons_succ]
                refine wpAnyH_take (i := 17) (oi := { dst := some 44, op := Op.indexAddr 26 (Operand.tmp 42) (Operand.tmp 43), type := 0, pos := "ref.go:229", after := #[{ on := 15, ground := Ground.data }, { on := 16, ground := Ground.data }, { on := 7, ground := Ground.guard }], guard := some (7, true) }) (v := ?_) rfl (by kernel_rfl) (by kernel_rfl) (by kernel_rfl) (fun _ _ _ h => h) (Or.inl ⟨by rfl, ?_⟩) (by assumption) ?_
                rotate_left
                · (intro W hSW; (try dsimp only at hSW); obtain ⟨hSB, hS1, hS2⟩ := hSW; obtain ⟨p0, p1, p2, p3⟩ := hSB.c4; have zz := Blk.lt hSB; have zb := World.block_lt_of_cell? W ⟨b, o + j, none⟩ hS1; go_simp; first | done | with_reducible rfl)
                try simp only [Act.put, List.setIfInBounds_toArray, List.set_cons_zero, List.set_cons_succ]
                refine wpAnyH_take (i := 18) (oi := { dst := some 45, op := Op.load 9 (Operand.tmp 44), type := 9, pos := "ref.go:229", after := #[{ on := 17, ground := Ground.data }, { on := 7, ground := Ground.guard }], guard := some (7, true) }) (v := ?_) rfl (by kernel_rfl) (by kernel_rfl) (by kernel_rfl) (fun _ _ _ h => h) (Or.inl ⟨by rfl, ?_⟩) (by assumption) ?_
                rotate_left
                · (intro W hSW; (try dsimp only at hSW); obtain ⟨hSB, hS1, hS2⟩ := hSW; obtain ⟨p0, p1, p2, p3⟩ := hSB.c4; have zz := Blk.lt hSB; have zb := World.block_lt_of_cell? W ⟨b, o + j, none⟩ hS1; go_simp; first | done | with_reducible rfl)
                try simp only [Act.put, List.setIfInBounds_toArray, List.set_cons_zero, List.set_cons_succ]
                refine wpAnyH_take (i := 19) (oi := { dst := some 46, op := Op.binOp BinOp.geq 9 (Operand.tmp 40) (Operand.tmp 45) 9, type := 4, pos := "ref.go:229", after := #[{ on := 13, ground := Ground.data }, { on := 18, ground := Ground.data }, { on := 7, ground := Ground.guard }], guard := some (7, true) }) (v := .bool false) rfl (by kernel_rfl) (by kernel_rfl) (by kernel_rfl) (fun _ _ _ h => h) (Or.inl ⟨by rfl, ?_⟩) (by assumption) ?_
                · (intro W hSW; (try dsimp only at hSW); obtain ⟨hSB, hS1, hS2⟩ := hSW; obtain ⟨p0, p1, p2, p3⟩ := hSB.c4; have zz := Blk.lt hSB; have zb := World.block_lt_of_cell? W ⟨b, o + j, none⟩ hS1; go_simp; first | done | exact hbl3 | (simp [hbl3]; done) | with_reducible rfl)
                try simp only [Act.put, List.setIfInBounds_toArray, List.set_cons_zero, List.set_cons_succ]
                refine wpAnyH_take (i := 20) (oi := { dst := some 47, op := Op.pick (Operand.tmp 34) (Operand.tmp 46) (Operand.const (Value.bool false)), type := 4, pos := "ref.go:229", after := #[{ on := 7, ground := Ground.data }, { on := 19, ground := Ground.data }, { on := 4, ground := Ground.guard }], guard := some (4, false) }) (v := ?_) rfl (by kernel_rfl) (by kernel_rfl) (by kernel_rfl) (fun _ _ _ h => h) (Or.inl ⟨by rfl, ?_⟩) (by assumption) ?_
                rotate_left
                · (intro W hSW; (try dsimp only at hSW); obtain ⟨hSB, hS1, hS2⟩ := hSW; obtain ⟨p0, p1, p2, p3⟩ := hSB.c4; have zz := Blk.lt hSB; have zb := World.block_lt_of_cell? W ⟨b, o + j, none⟩ hS1; go_simp; first | done | with_reducible rfl)
                try simp only [Act.put, List.setIfInBounds_toArray, List.set_cons_zero, List.set_cons_succ]
                refine wpAnyH_take (i := 21) (oi := { dst := some 48, op := Op.pick (Operand.tmp 31) (Operand.const (Value.bool true)) (Operand.tmp 47), type := 4, pos := "ref.go:229", after := #[{ on := 4, ground := Ground.data }, { on := 20, ground := Ground.data }], guard := none }) (v := ?_) rfl (by kernel_rfl) (by kernel_rfl) (by kernel_rfl) (fun _ _ _ h => h) (Or.inl ⟨by rfl, ?_⟩) (by assumption) ?_
                rotate_left
                · (intro W hSW; (try dsimp only at hSW); obtain ⟨hSB, hS1, hS2⟩ := hSW; obtain ⟨p0, p1, p2, p3⟩ := hSB.c4; have zz := Blk.lt hSB; have zb := World.block_lt_of_cell? W ⟨b, o + j, none⟩ hS1; go_simp; first | done | with_reducible rfl)
                try simp only [Act.put, List.setIfInBounds_toArray, List.set_cons_zero, List.set_cons_succ]
                refine wpAnyH_done (by kernel_rfl) ?_ _
                go_wp2_with fail
                go_meet
                case rel => exact ⟨rfl, HB5, KK5⟩
              | true =>
                have hbl3 : Op.bytesLess sx.toList sy.toList = false := hbl2
                clear hbl2
                refine wp_region_held_drew (S := (fun W => Blk W w.heap.size 30 #[.slice (some ⟨b, o, none⟩) ls cs, .slice Ag ng cg, .slice Af nf cf, .slice Ae ne ce] ∧ W.cell? ⟨b, o + j, none⟩ = some (.string sx) ∧ W.cell? ⟨b, o + i, none⟩ = some (.string sy))) (by kernel_rfl) ⟨hK.out.drew, hsx, hsy⟩ (fun hHeld => ?_)
                try simp only [Act.put, List.setIfInBounds_toArray, List.set_cons_zero, List.set_cons_succ]
                refine wpAnyH_take (i := 0) (oi := { dst := some 27, op := Op.load 30 (Operand.tmp 1), type := 30, pos := "ref.go:229", after := #[], guard := none }) (v := ?_) rfl (by kernel_rfl) (by kernel_rfl) (by kernel_rfl) (fun _ _ _ h => h) (Or.inl ⟨by rfl, ?_⟩) (by assumption) ?_
                rotate_left
                · (intro W hSW; (try dsimp only at hSW); obtain ⟨hSB, hS1, hS2⟩ := hSW; obtain ⟨p0, p1, p2, p3⟩ := hSB.c4; have zz := Blk.lt hSB; have zb := World.block_lt_of_cell? W ⟨b, o + j, none⟩ hS1; go_simp; first | done | with_reducible rfl)
                try simp only [Act.put, List.setIfInBounds_toArray, List.set_cons_zero, List.set_cons_succ]
                refine wpAnyH_take (i := 1) (oi := { dst := some 28, op := Op.move (Operand.tmp 8), type := 3, pos := "ref.go:229", after := #[], guard := none }) (v := ?_) rfl (by kernel_rfl) (by kernel_rfl) (by kernel_rfl) (fun _ _ _ h => h) (Or.inl ⟨by rfl, ?_⟩) (by assumption) ?_
                rotate_left
                · (intro W hSW; (try dsimp only at hSW); obtain ⟨hSB, hS1, hS2⟩ := hSW; obtain ⟨p0, p1, p2, p3⟩ := hSB.c4; have zz := Blk.lt hSB; have zb := World.block_lt_of_cell? W ⟨b, o + j, none⟩ hS1; go_simp; first | done | with_reducible rfl)
                try simp only [Act.put, List.setIfInBounds_toArray, List.set_cons_zero, List.set_cons_succ]
                refine wpAnyH_ready (rs := [2]) (by kernel_rfl) (by simp) ?_
                refine AllReadyH.cons (o := { dst := some 29, op := Op.call { callee := Callee.value (Operand.func 44), args := #[Operand.tmp 27, Operand.tmp 28], argTypes := #[30, 3] }, type := 4, pos := "ref.go:229", after := #[{ on := 0, ground := Ground.data }, { on := 1, ground := Ground.data }], guard := none }) rfl (fun KQ hKQ => ?_) AllReadyH.nil
                go_simp
                go_at_call 44
                refine HUd.out.mono ?_
                rintro e w5 ⟨rfl, hb5⟩
                have HB5 := Lib.hid (hB.out.drew.trans (hb5.mono hB.out.drew.size))
                have KK5 := Lib.hid (hK.out.drew.old hb5)
                refine hKQ.out _ _ ⟨KK5.out, by have := cell_old HB5.out hbl (HcS.out j _ HSx.out); rwa [HQ.out.1] at this, by have := cell_old HB5.out hbl (HcS.out i _ HSy.out); rwa [HQ.out.2] at this⟩ (fun _ => ?_)
                clear hKQ KQ hb5
                try simp only [Act.put, List.setIfInBounds_toArray, List.set_cons_zero, List.set_cons_succ]
                refine wpAnyH_take (i := 3) (oi := { dst := some 30, op := Op.unOp UnOp.not 4 (Operand.tmp 29), type := 4, pos := "ref.go:229", after := #[{ on := 2, ground := Ground.data }], guard := none }) (v := ?_) rfl (by kernel_rfl) (by kernel_rfl) (by kernel_rfl) (fun _ _ _ h => h) (Or.inl ⟨by rfl, ?_⟩) (by assumption) ?_
                rotate_left
                · (intro W hSW; (try dsimp only at hSW); obtain ⟨hSB, hS1, hS2⟩ := hSW; obtain ⟨p0, p1, p2, p3⟩ := hSB.c4; have zz := Blk.lt hSB; have zb := World.block_lt_of_cell? W ⟨b, o + j, none⟩ hS1; go_simp; first | done | with_reducible rfl)
                try simp only [Act.put, List.setIfInBounds_toArray, List.set_cons_zero, List.set_cons_succ]
                refine wpAnyH_take (i := 4) (oi := { dst := some 31, op := Op.move (Operand.tmp 30), type := 4, pos := "ref.go:229", after := #[{ on := 3, ground := Ground.data }, { on := 2, ground := Ground.chain }], guard := none }) (v := ?_) rfl (by kernel_rfl) (by kernel_rfl) (by kernel_rfl) (fun _ _ _ h => h) (Or.inl ⟨by rfl, ?_⟩) (by assumption) ?_
                rotate_left
                · (intro W hSW; (try dsimp only at hSW); obtain ⟨hSB, hS1, hS2⟩ := hSW; obtain ⟨p0, p1, p2, p3⟩ := hSB.c4; have zz := Blk.lt hSB; have zb := World.block_lt_of_cell? W ⟨b, o + j, none⟩ hS1; go_simp; first | done | with_reducible rfl)
                try simp only [Act.put, List.setIfInBounds_toArray, List.set_cons_zero, List.set_cons_succ]
                refine wpAnyH_take (i := 5) (oi := { dst := some 32, op := Op.move (Operand.tmp 8), type := 3, pos := "ref.go:229", after := #[{ on := 4, ground := Ground.guard }], guard := some (4, false) }) (v := ?_) rfl (by kernel_rfl) (by kernel_rfl) (by kernel_rfl) (fun _ _ _ h => h) (Or.inl ⟨by rfl, ?_⟩) (by assumption) ?_
                rotate_left
                · (intro W hSW; (try dsimp only at hSW); obtain ⟨hSB, hS1, hS2⟩ := hSW; obtain ⟨p0, p1, p2, p3⟩ := hSB.c4; have zz := Blk.lt hSB; have zb := World.block_lt_of_cell? W ⟨b, o + j, none⟩ hS1; go_simp; first | done | with_reducible rfl)
                try simp only [Act.put, List.setIfInBounds_toArray, List.set_cons_zero, List.set_cons_succ]
                refine wpAnyH_take (i := 6) (oi := { dst := some 33, op := Op.binOp BinOp.gtr 3 (Operand.tmp 32) (Operand.const (Value.int IntKind.i64 0)) 3, type := 4, pos := "ref.go:229", after := #[{ on := 5, ground := Ground.data }, { on := 4, ground := Ground.guard }], guard := some (4, false) }) (v := .bool true) rfl (by kernel_rfl) (by kernel_rfl) (by kernel_rfl) (fun _ _ _ h => h) (Or.inl ⟨by rfl, ?_⟩) (by assumption) ?_
                · (intro W hSW; (try dsimp only at hSW); obtain ⟨hSB, hS1, hS2⟩ := hSW; obtain ⟨p0, p1, p2, p3⟩ := hSB.c4; have zz := Blk.lt hSB; have zb := World.block_lt_of_cell? W ⟨b, o + j, none⟩ hS1; go_simp; first | done | exact h0i | omega | (simp; omega) | with_reducible rfl)
                try simp only [Act.put, List.setIfInBounds_toArray, List.set_cons_zero, List.set_cons_succ]
                refine wpAnyH_take (i := 7) (oi := { dst := some 34, op := Op.move (Operand.tmp 33), type := 4, pos := "ref.go:229", after := #[{ on := 6, ground := Ground.data }, { on := 4, ground := Ground.chain }, { on := 4, ground := Ground.guard }], guard := some (4, false) }) (v := ?_) rfl (by kernel_rfl) (by kernel_rfl) (by kernel_rfl) (fun _ _ _ h => h) (Or.inl ⟨by rfl, ?_⟩) (by assumption) ?_
                rotate_left
                · (intro W hSW; (try dsimp only at hSW); obtain ⟨hSB, hS1, hS2⟩ := hSW; obtain ⟨p0, p1, p2, p3⟩ := hSB.c4; have zz := Blk.lt hSB; have zb := World.block_lt_of_cell? W ⟨b, o + j, none⟩ hS1; go_simp; first | done | with_reducible rfl)
                try simp only [Act.put, List.setIfInBounds_toArray, List.set_cons_zero, List.set_cons_succ]
                refine wpAnyH_take (i := 8) (oi := { dst := some 35, op := Op.fieldAddr 30 (Operand.tmp 1) 0, type := 0, pos := "ref.go:229", after := #[{ on := 7, ground := Ground.guard }], guard := some (7, true) }) (v := ?_) rfl (by kernel_rfl) (by kernel_rfl) (by kernel_rfl) (fun _ _ _ h => h) (Or.inl ⟨by rfl, ?_⟩) (by assumption) ?_
                rotate_left
                · (intro W hSW; (try dsimp only at hSW); obtain ⟨hSB, hS1, hS2⟩ := hSW; obtain ⟨p0, p1, p2, p3⟩ := hSB.c4; have zz := Blk.lt hSB; have zb := World.block_lt_of_cell? W ⟨b, o + j, none⟩ hS1; go_simp; first | done | with_reducible rfl)
                try simp only [Act.put, List.setIfInBounds_toArray, List.set_cons_zero, List.set_cons_succ]
                refine wpAnyH_take (i := 9) (oi := { dst := some 36, op := Op.load 26 (Operand.tmp 35), type := 26, pos := "ref.go:229", after := #[{ on := 8, ground := Ground.data }, { on := 7, ground := Ground.guard }], guard := some (7, true) }) (v := ?_) rfl (by kernel_rfl) (by kernel_rfl) (by kernel_rfl) (fun _ _ _ h => h) (Or.inl ⟨by rfl, ?_⟩) (by assumption) ?_
                rotate_left
                · (intro W hSW; (try dsimp only at hSW); obtain ⟨hSB, hS1, hS2⟩ := hSW; obtain ⟨p0, p1, p2, p3⟩ := hSB.c4; have zz := Blk.lt hSB; have zb := World.block_lt_of_cell? W ⟨b, o + j, none⟩ hS1; go_simp; first | done | with_reducible rfl)
                try simp only [Act.put, List.setIfInBounds_toArray, List.set_cons_zero, List.set_cons_succ]
                refine wpAnyH_take (i := 10) (oi := { dst := some 37, op := Op.move (Operand.tmp 8), type := 3, pos := "ref.go:229", after := #[{ on := 7, ground := Ground.guard }], guard := some (7, true) }) (v := ?_) rfl (by kernel_rfl) (by kernel_rfl) (by kernel_rfl) (fun _ _ _ h => h) (Or.inl ⟨by rfl, ?_⟩) (by assumption) ?_
                rotate_left
                · (intro W hSW; (try dsimp only at hSW); obtain ⟨hSB, hS1, hS2⟩ := hSW; obtain ⟨p0, p1, p2, p3⟩ := hSB.c4; have zz := Blk.lt hSB; have zb := World.block_lt_of_cell? W ⟨b, o + j, none⟩ hS1; go_simp; first | done | with_reducible rfl)
                try simp only [Act.put, List.setIfInBounds_toArray, List.set_cons_zero, List.set_cons_succ]
                refine wpAnyH_take (i := 11) (oi := { dst := some 38, op := Op.binOp BinOp.sub 3 (Operand.tmp 37) (Operand.const (Value.int IntKind.i64 1)) 3, type := 3, pos := "ref.go:229", after := #[{ on := 10, ground := Ground.data }, { on := 7, ground := Ground.guard }], guard := some (7, true) }) (v := ?_) rfl (by kernel_rfl) (by kernel_rfl) (by kernel_rfl) (fun _ _ _ h => h) (Or.inl ⟨by rfl, ?_⟩) (by assumption) ?_
                rotate_left
                · (intro W hSW; (try dsimp only at hSW); obtain ⟨hSB, hS1, hS2⟩ := hSW; obtain ⟨p0, p1, p2, p3⟩ := hSB.c4; have zz := Blk.lt hSB; have zb := World.block_lt_of_cell? W ⟨b, o + j, none⟩ hS1; go_simp; first | done | with_reducible rfl)
                try simp only [Act.put, List.setIfInBounds_toArray, List.set_cons_zero, List.set_cons_succ]
                refine wpAnyH_take (i := 12) (oi := { dst := some 39, op := Op.indexAddr 26 (Operand.tmp 36) (Operand.tmp 38), type := 0, pos := "ref.go:229", after := #[{ on := 9, ground := Ground.data }, { on := 11, ground := Ground.data }, { on := 7, ground := Ground.guard }], guard := some (7, true) }) (v := ?_) rfl (by kernel_rfl) (by kernel_rfl) (by kernel_rfl) (fun _ _ _ h => h) (Or.inl ⟨by rfl, ?_⟩) (by assumption) ?_
                rotate_left
                · (intro W hSW; (try dsimp only at hSW); obtain ⟨hSB, hS1, hS2⟩ := hSW; obtain ⟨p0, p1, p2, p3⟩ := hSB.c4; have zz := Blk.lt hSB; have zb := World.block_lt_of_cell? W ⟨b, o + j, none⟩ hS1; go_simp; first | done | with_reducible rfl)
                try simp only [Act.put, List.setIfInBounds_toArray, List.set_cons_zero, List.set_cons_succ]
                refine wpAnyH_take (i := 13) (oi := { dst := some 40, op := Op.load 9 (Operand.tmp 39), type := 9, pos := "ref.go:229", after := #[{ on := 12, ground := Ground.data }, { on := 7, ground := Ground.guard }], guard := some (7, true) }) (v := ?_) rfl (by kernel_rfl) (by kernel_rfl) (by kernel_rfl) (fun _ _ _ h => h) (Or.inl ⟨by rfl, ?_⟩) (by assumption) ?_
                rotate_left
                · (intro W hSW; (try dsimp only at hSW); obtain ⟨hSB, hS1, hS2⟩ := hSW; obtain ⟨p0, p1, p2, p3⟩ := hSB.c4; have zz := Blk.lt hSB; have zb := World.block_lt_of_cell? W ⟨b, o + j, none⟩ hS1; go_simp; first | done | with_reducible rfl)
                try simp only [Act.put, List.setIfInBounds_toArray, List.set_cons_zero, List.set_cons_succ]
                refine wpAnyH_take (i := 14) (oi := { dst := some 41, op := Op.fieldAddr 30 (Operand.tmp 1) 0, type := 0, pos := "ref.go:229", after := #[{ on := 7, ground := Ground.guard }], guard := some (7, true) }) (v := ?_) rfl (by kernel_rfl) (by kernel_rfl) (by kernel_rfl) (fun _ _ _ h => h) (Or.inl ⟨by rfl, ?_⟩) (by assumption) ?_
                rotate_left
                · (intro W hSW; (try dsimp only at hSW); obtain ⟨hSB, hS1, hS2⟩ := hSW; obtain ⟨p0, p1, p2, p3⟩ := hSB.c4; have zz := Blk.lt hSB; have zb := World.block_lt_of_cell? W ⟨b, o + j, none⟩ hS1; go_simp; first | done | with_reducible rfl)
                try simp only [Act.put, List.setIfInBounds_toArray, List.set_cons_zero, List.set_cons_succ]
                refine wpAnyH_take (i := 15) (oi := { dst := some 42, op := Op.load 26 (Operand.tmp 41), type := 26, pos := "ref.go:229", after := #[{ on := 14, ground := Ground.data }, { on := 7, ground := Ground.guard }], guard := some (7, true) }) (v := ?_) rfl (by kernel_rfl) (by kernel_rfl) (by kernel_rfl) (fun _ _ _ h => h) (Or.inl ⟨by rfl, ?_⟩) (by assumption) ?_
                rotate_left
                · (intro W hSW; (try dsimp only at hSW); obtain ⟨hSB, hS1, hS2⟩ := hSW; obtain ⟨p0, p1, p2, p3⟩ := hSB.c4; have zz := Blk.lt hSB; have zb := World.block_lt_of_cell? W ⟨b, o + j, none⟩ hS1; go_simp; first | done | with_reducible rfl)
                try simp only [Act.put, List.setIfInBounds_toArray, List.set_cons_zero, List.set_cons_succ]
                refine wpAnyH_take (i := 16) (oi := { dst := some 43, op := Op.move (Operand.tmp 8), type := 3, pos := "ref.go:229", after := #[{ on := 7, ground := Ground.guard }], guard := some (7, true) }) (v := ?_) rfl (by kernel_rfl) (by kernel_rfl) (by kernel_rfl) (fun _ _ _ h => h) (Or.inl ⟨by rfl, ?_⟩) (by assumption) ?_
                rotate_left
                · (intro W hSW; (try dsimp only at hSW); obtain ⟨hSB, hS1, hS2⟩ := hSW; obtain ⟨p0, p1, p2, p3⟩ := hSB.c4; have zz := Blk.lt hSB; have zb := World.block_lt_of_cell? W ⟨b, o + j, none⟩ hS1; go_simp; first | done | with_reducible rfl)
                try simp only [Act.put, List.setIfInBounds_toArray, List.set_cons_zero, List.set_cons_succ]
                refine wpAnyH_take (i := 17) (oi := { dst := some 44, op := Op.indexAddr 26 (Operand.tmp 42) (Operand.tmp 43), type := 0, pos := "ref.go:229", after := #[{ on := 15, ground := Ground.data }, { on := 16, ground := Ground.data }, { on := 7, ground := Ground.guard }], guard := some (7, true) }) (v := ?_) rfl (by kernel_rfl) (by kernel_rfl) (by kernel_rfl) (fun _ _ _ h => h) (Or.inl ⟨by rfl, ?_⟩) (by assumption) ?_
                rotate_left
                · (intro W hSW; (try dsimp only at hSW); obtain ⟨hSB, hS1, hS2⟩ := hSW; obtain ⟨p0, p1, p2, p3⟩ := hSB.c4; have zz := Blk.lt hSB; have zb := World.block_lt_of_cell? W ⟨b, o + j, none⟩ hS1; go_simp; first | done | with_reducible rfl)
                try simp only [Act.put, List.setIfInBounds_toArray, List.set_cons_zero, List.set_cons_succ]
                refine wpAnyH_take (i := 18) (oi := { dst := some 45, op := Op.load 9 (Operand.tmp 44), type := 9, pos := "ref.go:229", after := #[{ on := 17, ground := Ground.data }, { on := 7, ground := Ground.guard }], guard := some (7, true) }) (v := ?_) rfl (by kernel_rfl) (by kernel_rfl) (by kernel_rfl) (fun _ _ _ h => h) (Or.inl ⟨by rfl, ?_⟩) (by assumption) ?_
                rotate_left
                · (intro W hSW; (try dsimp only at hSW); obtain ⟨hSB, hS1, hS2⟩ := hSW; obtain ⟨p0, p1, p2, p3⟩ := hSB.c4; have zz := Blk.lt hSB; have zb := World.block_lt_of_cell? W ⟨b, o + j, none⟩ hS1; go_simp; first | done | with_reducible rfl)
                try simp only [Act.put, List.setIfInBounds_toArray, List.set_cons_zero, List.set_cons_succ]
                refine wpAnyH_take (i := 19) (oi := { dst := some 46, op := Op.binOp BinOp.geq 9 (Operand.tmp 40) (Operand.tmp 45) 9, type := 4, pos := "ref.go:229", after := #[{ on := 13, ground := Ground.data }, { on := 18, ground := Ground.data }, { on := 7, ground := Ground.guard }], guard := some (7, true) }) (v := .bool true) rfl (by kernel_rfl) (by kernel_rfl) (by kernel_rfl) (fun _ _ _ h => h) (Or.inl ⟨by rfl, ?_⟩) (by assumption) ?_
                · (intro W hSW; (try dsimp only at hSW); obtain ⟨hSB, hS1, hS2⟩ := hSW; obtain ⟨p0, p1, p2, p3⟩ := hSB.c4; have zz := Blk.lt hSB; have zb := World.block_lt_of_cell? W ⟨b, o + j, none⟩ hS1; go_simp; first | done | exact hbl3 | (simp [hbl3]; done) | with_reducible rfl)
                try simp only [Act.put, List.setIfInBounds_toArray, List.set_cons_zero, List.set_cons_succ]
                refine wpAnyH_take (i := 20) (oi := { dst := some 47, op := Op.pick (Operand.tmp 34) (Operand.tmp 46) (Operand.const (Value.bool false)), type := 4, pos := "ref.go:229", after := #[{ on := 7, ground := Ground.data }, { on := 19, ground := Ground.data }, { on := 4, ground := Ground.guard }], guard := some (4, false) }) (v := ?_) rfl (by kernel_rfl) (by kernel_rfl) (by kernel_rfl) (fun _ _ _ h => h) (Or.inl ⟨by rfl, ?_⟩) (by assumption) ?_
                rotate_left
                · (intro W hSW; (try dsimp only at hSW); obtain ⟨hSB, hS1, hS2⟩ := hSW; obtain ⟨p0, p1, p2, p3⟩ := hSB.c4; have zz := Blk.lt hSB; have zb := World.block_lt_of_cell? W ⟨b, o + j, none⟩ hS1; go_simp; first | done | with_reducible rfl)
                try simp only [Act.put, List.setIfInBounds_toArray, List.set_cons_zero, List.set_cons_succ]
                refine wpAnyH_take (i := 21) (oi := { dst := some 48, op := Op.pick (Operand.tmp 31) (Operand.const (Value.bool true)) (Operand.tmp 47), type := 4, pos := "ref.go:229", after := #[{ on := 4, ground := Ground.data }, { on := 20, ground := Ground.data }], guard := none }) (v := ?_) rfl (by kernel_rfl) (by kernel_rfl) (by kernel_rfl) (fun _ _ _ h => h) (Or.inl ⟨by rfl, ?_⟩) (by assumption) ?_
                rotate_left
                · (intro W hSW; (try dsimp only at hSW); obtain ⟨hSB, hS1, hS2⟩ := hSW; obtain ⟨p0, p1, p2, p3⟩ := hSB.c4; have zz := Blk.lt hSB; have zb := World.block_lt_of_cell? W ⟨b, o + j, none⟩ hS1; go_simp; first | done | with_reducible rfl)
                try simp only [Act.put, List.setIfInBounds_toArray, List.set_cons_zero, List.set_cons_succ]
                refine wpAnyH_done (by kernel_rfl) ?_ _
                go_wp2_with fail
                go_meet
                case rel => exact ⟨rfl, HB5, KK5⟩
        case rest =>
          obtain ⟨rfl, hB5, hK5⟩ := hcut
          clear m0 m1 m2 m3 z1 hB hK HUd HUd0
          cases bd with
          | true =>
            obtain rfl : v = (10, -1, -1) := by
              rw [HV2.out, if_neg]
              intro hall
              have := List.all_eq_true.1 hall i (List.mem_range.2 hlt)
              rw [← HBd.out] at this
              cases this
            go_wp2
            go_ret3
            exact ⟨rfl, hB5.out⟩
          | false =>
            have HE2 : Hid (∀ k, k < i + 1 → badF M k = false) := fun k hk => by
              rcases Nat.lt_or_ge k i with h | h
              · exact hE.out k h
              · obtain rfl : k = i := by omega
                exact HBd.out.symm
            go_wp2
            go_roundw
            case rel => exact ⟨i + 1, by omega, by go_num, HE2, hB5, hK5⟩
            case measure => simp [intOf]; omega
      · obtain rfl : i = ls := by omega
        obtain rfl : v = (0, -1, -1) := by
          rw [HV2.out, if_pos]
          refine List.all_eq_true.2 fun k hk => ?_
          rw [hE.out k (List.mem_range.1 hk)]; rfl
        go_wp2
        go_ret3
        exact ⟨rfl, hB.out⟩
  · have hg : (0 : Int) < r := by omega
    obtain rfl : v = (r, f, s) := by rw [HV.out, if_pos (show r ≠ 0 from hr)]
    clear HV hr
    go_wp2
    go_ret3
    exact ⟨rfl, HB2.out⟩
end Go.Proofs.Ytpdebnecfknohaa
