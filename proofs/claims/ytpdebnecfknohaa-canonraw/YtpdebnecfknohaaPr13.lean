/-
  Parts: Kca Ya Yd.
-/
import Derived.Test.YtpdebnecfknohaaPr00
import Derived.Test.YtpdebnecfknohaaPr01
import Derived.Test.YtpdebnecfknohaaPr02
import Derived.Test.YtpdebnecfknohaaPr03
import Derived.Test.YtpdebnecfknohaaPr04
import Derived.Test.YtpdebnecfknohaaPr05
import Derived.Test.YtpdebnecfknohaaPr06
import Derived.Test.YtpdebnecfknohaaPr07
import Derived.Test.YtpdebnecfknohaaPr08
import Derived.Test.YtpdebnecfknohaaPr09
import Derived.Test.YtpdebnecfknohaaPr10
import Derived.Test.YtpdebnecfknohaaPr11
import Derived.Test.YtpdebnecfknohaaPr12
import Derived.Deep.RegionHeld3
import Derived.Deep.DeepCutAuto
import Derived.Deep.CutBlock
import Derived.Deep.RegionLaw
namespace Go.Proofs.Ytpdebnecfknohaa
open Go.RowKit
set_option linter.unusedVariables false
set_option linter.unusedSimpArgs false
set_option maxRecDepth 20000
/-- Is a string not used, or no greater than the one ahead of it? -/
def badF (M : Md) (i : Nat) : Bool := !(usedF M.globs M.funcs (i : Int)) || (decide (0 < i) && !(Op.bytesLess (M.strs.getD (i - 1) []) (M.strs.getD i [])))
theorem used_contains (g : List Int) (L : List Fn) (n : Int) : (usedI g L L.length).contains n = usedF g L n := by
  unfold usedI usedF
  rw [List.take_length]
  apply Bool.eq_iff_iff.2
  rw [List.contains_iff_mem, List.mem_append, Bool.or_eq_true, List.any_eq_true, List.any_eq_true, List.mem_flatten]
  constructor
  · rintro (h | ⟨l, hl, hn⟩)
    · exact .inl ⟨n, h, by simp⟩
    · obtain ⟨f, hf, rfl⟩ := List.mem_map.1 hl
      refine .inr ⟨f, hf, ?_⟩
      simp only [List.mem_cons, List.mem_append] at hn
      simp only [Bool.or_eq_true, List.any_eq_true, beq_iff_eq]
      rcases hn with h | h | h
      · exact .inl (.inl h.symm)
      · exact .inl (.inr ⟨n, h, rfl⟩)
      · exact .inr ⟨n, h, rfl⟩
  · rintro (⟨x, h, hx⟩ | ⟨f, hf, h⟩)
    · obtain rfl : x = n := by simpa using hx
      exact .inl h
    · refine .inr ⟨_, List.mem_map.2 ⟨f, hf, rfl⟩, ?_⟩
      simp only [Bool.or_eq_true, List.any_eq_true, beq_iff_eq] at h
      simp only [List.mem_cons, List.mem_append]
      rcases h with (h | ⟨x, h, rfl⟩) | ⟨x, h, rfl⟩
      · exact .inl h.symm
      · exact .inr (.inl h)
      · exact .inr (.inr h)
theorem chk_bad (M : Md) : (risF M.strs 1 && (markF M.strs.length (usedI M.globs M.funcs M.funcs.length)).all id) = (List.range M.strs.length).all fun i => !badF M i := by
  apply Bool.eq_iff_iff.2
  simp only [Bool.and_eq_true, List.all_eq_true, List.mem_range, risF, markF, List.mem_map, id, badF, used_contains, Bool.not_eq_true', Bool.or_eq_false_iff, Bool.and_eq_false_iff, Bool.not_eq_false', decide_eq_false_iff_not]
  constructor
  · rintro ⟨h1, h2⟩ i hi
    refine ⟨h2 _ ⟨i, hi, rfl⟩, ?_⟩
    by_cases h0 : 0 < i
    · right
      have := h1 (i - 1) (by omega)
      rwa [show 1 + (i - 1) - 1 = i - 1 from by omega, show 1 + (i - 1) = i from by omega] at this
    · exact .inl h0
  · intro h
    refine ⟨fun j hj => ?_, ?_⟩
    · rcases (h (1 + j) (by omega)).2 with h2 | h2
      · omega
      · exact h2
    · rintro _ ⟨i, hi, rfl⟩
      exact (h i hi).1
theorem treeF_nn (M : Md) : 0 ≤ (treeF M).1 := by
  have h1 : 0 ≤ modF M := by
    unfold modF
    repeat' split
    all_goals first | omega | exact nmF_nn _ _ _ | exact entF_nn _ _ _
  have hf : ∀ f : Fn, 0 ≤ funcF M.strs f := fun f => by
    unfold funcF
    repeat' split
    all_goals first | omega | exact nmF_nn _ _ _
  have hs : ∀ (nl ng ns : Nat) (l : List It) (i : Nat), 0 ≤ (stmtsF M.funcs nl ng ns i l).1 := by
    intro nl ng ns l
    induction l with
    | nil => intro i; simp [stmtsF]
    | cons x l ih =>
      intro i
      unfold stmtsF
      split
      · exact stmtF_nn _ _ _ _ _
      · exact ih _
  have h2 : ∀ (L : List Fn) (i : Nat), 0 ≤ (funcsF M i L).1 := by
    intro L
    induction L with
    | nil => intro i; simp [funcsF]
    | cons f L ih =>
      intro i
      unfold funcsF
      split
      · exact hf f
      · split
        · exact hs _ _ _ _ _
        · exact ih _
  unfold treeF
  split
  · exact h1
  · exact h2 _ _
set_option maxHeartbeats 8000000 in
theorem rcheck_any (M : Md) (As Ag Af Ae : Option Addr) (cs cg cf ce : Nat) (w : World) (hM : M.Wf) (h : MdR w As Ag Af Ae M) (hlow : ∀ f ∈ M.funcs, ∀ x ∈ f.body.flat 0, x.Low) :
    Calls Try.prog 22 #[.agg #[.slice As M.strs.length cs, .slice Ag M.globs.length cg, .slice Af M.funcs.length cf, .slice Ae M.ents.length ce]] w (TriB w (checkF M)) := by
  obtain ⟨v, hv⟩ : ∃ v, v = checkF M := ⟨_, rfl⟩
  rw [← hv]
  unfold checkF at hv
  rw [chk_bad] at hv
  have hTr := fun wx (hx : Below w.heap.size w wx) => rtree_any M As Ag Af Ae cs cg cf ce wx hM (h.old hx) hlow
  have hUs := fun (n : Int) wx (hx : Below w.heap.size w wx) => used_any (.slice As M.strs.length cs) (.slice Ae M.ents.length ce) Ag Af cg cf M.globs M.funcs n wx (h.globs.old hx (by omega)) (h.funcs.old hx) hM.globs.1 hM.funcs (fun f hf => ⟨(hM.fns f hf).2.2.1, (hM.fns f hf).2.2.2.1⟩)
  have HS := Lib.hid h.strs
  have hsl := hM.strs
  obtain ⟨ls, hls⟩ : ∃ n, n = M.strs.length := ⟨_, rfl⟩
  obtain ⟨ng, hng⟩ : ∃ n, n = M.globs.length := ⟨_, rfl⟩
  obtain ⟨nf, hnf⟩ : ∃ n, n = M.funcs.length := ⟨_, rfl⟩
  obtain ⟨ne, hne⟩ : ∃ n, n = M.ents.length := ⟨_, rfl⟩
  have HLS := Lib.hid hls
  rw [← hls] at hv hsl
  rw [← hls, ← hng, ← hnf, ← hne] at hTr hUs ⊢
  have hp := treeF_nn M
  generalize treeF M = T at *
  obtain ⟨r, f, s⟩ := T
  have HV := Lib.hid hv
  have HTr := Lib.hid hTr
  have HUs := Lib.hid hUs
  clear hv hTr hUs hls hng hnf hne h hM hlow
  obtain ⟨w1, hw1⟩ : ∃ w1, w1 = w.alloc (.cells #[.slice As ls cs, .slice Ag ng cg, .slice Af nf cf, .slice Ae ne ce] 30) := ⟨_, rfl⟩
  have HB1 : Hid (Below w.heap.size w w1) := by rw [hw1]; exact (Below.refl _ _).alloc (Nat.le_refl _) _
  have K1 : Hid (Blk w1 w.heap.size 30 #[.slice As ls cs, .slice Ag ng cg, .slice Af nf cf, .slice Ae ne ce]) := by rw [hw1]; exact Blk.new w 30 _
  go_enter Try.func22, Try.ntmps22
  go_upto_region 1 with (fail)
  rw [← hw1]
  clear hw1
  obtain ⟨m0, m1, m2, m3⟩ := K1.out.c4
  have z1 : w.heap.size < w1.heap.size := K1.out.lt
  go_wp2_with fail
  refine (HTr.out _ HB1.out).mono ?_
  rintro e w2 ⟨rfl, hb2⟩
  have HB2 := Lib.hid (HB1.out.trans (hb2.mono HB1.out.size))
  have K2 := Lib.hid (K1.out.old hb2)
  clear hb2 m0 m1 m2 m3 z1 HTr
  dsimp only at hp ⊢
  by_cases hr : r = 0
  · subst hr
    have hv2 := HV.out
    rw [if_neg (by simp)] at hv2
    have HV2 := Lib.hid hv2
    clear hv2 HV hp
    obtain ⟨m0, m1, m2, m3⟩ := K2.out.c4
    have z1 : w.heap.size < w2.heap.size := K2.out.lt
    go_upto_region 4 with (fail)
    clear m0 m1 m2 m3 z1
    go_wp2_with fail
    go_loopw [8] (fun sl wr => ∃ (i : Nat), i ≤ ls ∧ sl = .int .i64 (i : Int) ∧ Hid (∀ k, k < i → badF M k = false) ∧ Hid (Below w.heap.size w wr) ∧ Hid (Blk wr w.heap.size 30 #[.slice As ls cs, .slice Ag ng cg, .slice Af nf cf, .slice Ae ne ce])) (fun sl _ => ls - (intOf sl).toNat)
    case atStart => exact ⟨0, Nat.zero_le _, rfl, fun k hk => absurd hk (Nat.not_lt_zero _), HB2, K2⟩
    case round =>
      clear HB2 K2
      obtain ⟨i, hi, rfl, hE, hB, hK⟩ := hrel
      obtain ⟨m0, m1, m2, m3⟩ := hK.out.c4
      have z1 : w.heap.size < wr.heap.size := hK.out.lt
      by_cases hlt : i < ls
      · have hli : (i : Int) < (ls : Int) := by omega
        have hil : i < M.strs.length := by rw [← HLS.out]; exact hlt
        have hUd := HUs.out (i : Int) wr.drew hB.out.drew
        have hUd0 := HUs.out (i : Int) wr hB.out
        obtain ⟨bu, hbu⟩ : ∃ b, b = usedF M.globs M.funcs (i : Int) := ⟨_, rfl⟩
        rw [← hbu] at hUd hUd0
        have HUd := Lib.hid hUd
        have HUd0 := Lib.hid hUd0
        obtain ⟨b, o, rfl, _, hc⟩ := HS.out.2 (by omega)
        have HcS : Hid (∀ k x, M.strs[k]? = some x → w.cell? ⟨b, o + k, none⟩ = some (.string (bs x))) := fun k x hk => hc k _ (by simp [strV, hk])
        have hbl : b < w.heap.size := World.block_lt_of_cell? w _ (HcS.out i _ (List.getElem?_eq_getElem hil))
        obtain ⟨bd, hbd⟩ : ∃ b, b = badF M i := ⟨_, rfl⟩
        have HBd := Lib.hid hbd
        have HBu := Lib.hid hbu
        clear hc hUd hUd0 hbd hbu
        go_upto_region 7 with (fail)
        go_cut [48] (fun s48 wx => s48 = .bool bd ∧ Hid (Below w.heap.size w wx) ∧ Hid (Blk wx w.heap.size 30 #[.slice (some ⟨b, o, none⟩) ls cs, .slice Ag ng cg, .slice Af nf cf, .slice Ae ne ce]))
        case first =>
          cases bu with
          | false =>
            obtain rfl : bd = true := by rw [HBd.out, badF, ← HBu.out]; rfl
            refine wp_region_held_drew (S := (fun W => Blk W w.heap.size 30 #[.slice (some ⟨b, o, none⟩) ls cs, .slice Ag ng cg, .slice Af nf cf, .slice Ae ne ce])) (by kernel_rfl) hK.out.drew (fun hHeld => ?_)
            try simp only [Act.put, List.setIfInBounds_toArray, List.set_cons_zero, List.set_cons_succ]
            refine wpAnyH_take (i := 0) (oi := ⟨_, _, _, _, _, _⟩) (v := ?_) rfl (by kernel_rfl) (by kernel_rfl) (by kernel_rfl) (fun _ _ _ h => h) (Or.inl ⟨by rfl, ?_⟩) (by assumption) ?_
            rotate_left
            · (intro W hSW; (try dsimp only at hSW); obtain ⟨p0, p1, p2, p3⟩ := Blk.c4 hSW; have zz := Blk.lt hSW; go_simp; first | done | with_reducible rfl)
            try simp only [Act.put, List.setIfInBounds_toArray, List.set_cons_zero, List.set_cons_succ]
            refine wpAnyH_take (i := 1) (oi := ⟨_, _, _, _, _, _⟩) (v := ?_) rfl (by kernel_rfl) (by kernel_rfl) (by kernel_rfl) (fun _ _ _ h => h) (Or.inl ⟨by rfl, ?_⟩) (by assumption) ?_
            rotate_left
            · (intro W hSW; (try dsimp only at hSW); obtain ⟨p0, p1, p2, p3⟩ := Blk.c4 hSW; have zz := Blk.lt hSW; go_simp; first | done | with_reducible rfl)
            try simp only [Act.put, List.setIfInBounds_toArray, List.set_cons_zero, List.set_cons_succ]
            refine wpAnyH_ready (rs := [2]) (by kernel_rfl) (by simp) ?_
            refine AllReadyH.cons (o := ⟨_, _, _, _, _, _⟩) rfl (fun KQ hKQ => ?_) AllReadyH.nil
            go_simp
            go_at_call 44
            refine HUd.out.mono ?_
            rintro e w5 ⟨rfl, hb5⟩
            have HB5 := Lib.hid (hB.out.drew.trans (hb5.mono hB.out.drew.size))
            have KK5 := Lib.hid (hK.out.drew.old hb5)
            refine hKQ.out _ _ KK5.out (fun _ => ?_)
            clear hKQ KQ hb5
            try simp only [Act.put, List.setIfInBounds_toArray, List.set_cons_zero, List.set_cons_succ]
            refine wpAnyH_take (i := 3) (oi := ⟨_, _, _, _, _, _⟩) (v := ?_) rfl (by kernel_rfl) (by kernel_rfl) (by kernel_rfl) (fun _ _ _ h => h) (Or.inl ⟨by rfl, ?_⟩) (by assumption) ?_
            rotate_left
            · (intro W hSW; (try dsimp only at hSW); obtain ⟨p0, p1, p2, p3⟩ := Blk.c4 hSW; have zz := Blk.lt hSW; go_simp; first | done | with_reducible rfl)
            try simp only [Act.put, List.setIfInBounds_toArray, List.set_cons_zero, List.set_cons_succ]
            refine wpAnyH_take (i := 4) (oi := ⟨_, _, _, _, _, _⟩) (v := ?_) rfl (by kernel_rfl) (by kernel_rfl) (by kernel_rfl) (fun _ _ _ h => h) (Or.inl ⟨by rfl, ?_⟩) (by assumption) ?_
            rotate_left
            · (intro W hSW; (try dsimp only at hSW); obtain ⟨p0, p1, p2, p3⟩ := Blk.c4 hSW; have zz := Blk.lt hSW; go_simp; first | done | with_reducible rfl)
            try simp only [Act.put, List.setIfInBounds_toArray, List.set_cons_zero, List.set_cons_succ]
            refine wpAnyH_take (i := 5) (oi := ⟨_, _, _, _, _, _⟩) (v := undef) rfl (by kernel_rfl) (by kernel_rfl) (by kernel_rfl) (fun _ _ _ h => h) (Or.inr ⟨by rfl, rfl⟩) (by assumption) ?_
            try simp only [Act.put, List.setIfInBounds_toArray, List.set_cons_zero, List.set_cons_succ]
            refine wpAnyH_take (i := 6) (oi := ⟨_, _, _, _, _, _⟩) (v := undef) rfl (by kernel_rfl) (by kernel_rfl) (by kernel_rfl) (fun _ _ _ h => h) (Or.inr ⟨by rfl, rfl⟩) (by assumption) ?_
            try simp only [Act.put, List.setIfInBounds_toArray, List.set_cons_zero, List.set_cons_succ]
            refine wpAnyH_take (i := 7) (oi := ⟨_, _, _, _, _, _⟩) (v := undef) rfl (by kernel_rfl) (by kernel_rfl) (by kernel_rfl) (fun _ _ _ h => h) (Or.inr ⟨by rfl, rfl⟩) (by assumption) ?_
            try simp only [Act.put, List.setIfInBounds_toArray, List.set_cons_zero, List.set_cons_succ]
            refine wpAnyH_take (i := 8) (oi := ⟨_, _, _, _, _, _⟩) (v := undef) rfl (by kernel_rfl) (by kernel_rfl) (by kernel_rfl) (fun _ _ _ h => h) (Or.inr ⟨by rfl, rfl⟩) (by assumption) ?_
            try simp only [Act.put, List.setIfInBounds_toArray, List.set_cons_zero, List.set_cons_succ]
            refine wpAnyH_take (i := 9) (oi := ⟨_, _, _, _, _, _⟩) (v := undef) rfl (by kernel_rfl) (by kernel_rfl) (by kernel_rfl) (fun _ _ _ h => h) (Or.inr ⟨by rfl, rfl⟩) (by assumption) ?_
            try simp only [Act.put, List.setIfInBounds_toArray, List.set_cons_zero, List.set_cons_succ]
            refine wpAnyH_take (i := 10) (oi := ⟨_, _, _, _, _, _⟩) (v := undef) rfl (by kernel_rfl) (by kernel_rfl) (by kernel_rfl) (fun _ _ _ h => h) (Or.inr ⟨by rfl, rfl⟩) (by assumption) ?_
            try simp only [Act.put, List.setIfInBounds_toArray, List.set_cons_zero, List.set_cons_succ]
            refine wpAnyH_take (i := 11) (oi := ⟨_, _, _, _, _, _⟩) (v := undef) rfl (by kernel_rfl) (by kernel_rfl) (by kernel_rfl) (fun _ _ _ h => h) (Or.inr ⟨by rfl, rfl⟩) (by assumption) ?_
            try simp only [Act.put, List.setIfInBounds_toArray, List.set_cons_zero, List.set_cons_succ]
            refine wpAnyH_take (i := 12) (oi := ⟨_, _, _, _, _, _⟩) (v := undef) rfl (by kernel_rfl) (by kernel_rfl) (by kernel_rfl) (fun _ _ _ h => h) (Or.inr ⟨by rfl, rfl⟩) (by assumption) ?_
            try simp only [Act.put, List.setIfInBounds_toArray, List.set_cons_zero, List.set_cons_succ]
            refine wpAnyH_take (i := 13) (oi := ⟨_, _, _, _, _, _⟩) (v := undef) rfl (by kernel_rfl) (by kernel_rfl) (by kernel_rfl) (fun _ _ _ h => h) (Or.inr ⟨by rfl, rfl⟩) (by assumption) ?_
            try simp only [Act.put, List.setIfInBounds_toArray, List.set_cons_zero, List.set_cons_succ]
            refine wpAnyH_take (i := 14) (oi := ⟨_, _, _, _, _, _⟩) (v := undef) rfl (by kernel_rfl) (by kernel_rfl) (by kernel_rfl) (fun _ _ _ h => h) (Or.inr ⟨by rfl, rfl⟩) (by assumption) ?_
            try simp only [Act.put, List.setIfInBounds_toArray, List.set_cons_zero, List.set_cons_succ]
            refine wpAnyH_take (i := 15) (oi := ⟨_, _, _, _, _, _⟩) (v := undef) rfl (by kernel_rfl) (by kernel_rfl) (by kernel_rfl) (fun _ _ _ h => h) (Or.inr ⟨by rfl, rfl⟩) (by assumption) ?_
            try simp only [Act.put, List.setIfInBounds_toArray, List.set_cons_zero, List.set_cons_succ]
            refine wpAnyH_take (i := 16) (oi := ⟨_, _, _, _, _, _⟩) (v := undef) rfl (by kernel_rfl) (by kernel_rfl) (by kernel_rfl) (fun _ _ _ h => h) (Or.inr ⟨by rfl, rfl⟩) (by assumption) ?_
            try simp only [Act.put, List.setIfInBounds_toArray, List.set_cons_zero, List.set_cons_succ]
            refine wpAnyH_take (i := 17) (oi := ⟨_, _, _, _, _, _⟩) (v := undef) rfl (by kernel_rfl) (by kernel_rfl) (by kernel_rfl) (fun _ _ _ h => h) (Or.inr ⟨by rfl, rfl⟩) (by assumption) ?_
            try simp only [Act.put, List.setIfInBounds_toArray, List.set_cons_zero, List.set_cons_succ]
            refine wpAnyH_take (i := 18) (oi := ⟨_, _, _, _, _, _⟩) (v := undef) rfl (by kernel_rfl) (by kernel_rfl) (by kernel_rfl) (fun _ _ _ h => h) (Or.inr ⟨by rfl, rfl⟩) (by assumption) ?_
            try simp only [Act.put, List.setIfInBounds_toArray, List.set_cons_zero, List.set_cons_succ]
            refine wpAnyH_take (i := 19) (oi := ⟨_, _, _, _, _, _⟩) (v := undef) rfl (by kernel_rfl) (by kernel_rfl) (by kernel_rfl) (fun _ _ _ h => h) (Or.inr ⟨by rfl, rfl⟩) (by assumption) ?_
            try simp only [Act.put, List.setIfInBounds_toArray, List.set_cons_zero, List.set_cons_succ]
            refine wpAnyH_take (i := 20) (oi := ⟨_, _, _, _, _, _⟩) (v := undef) rfl (by kernel_rfl) (by kernel_rfl) (by kernel_rfl) (fun _ _ _ h => h) (Or.inr ⟨by rfl, rfl⟩) (by assumption) ?_
            try simp only [Act.put, List.setIfInBounds_toArray, List.set_cons_zero, List.set_cons_succ]
            refine wpAnyH_take (i := 21) (oi := ⟨_, _, _, _, _, _⟩) (v := ?_) rfl (by kernel_rfl) (by kernel_rfl) (by kernel_rfl) (fun _ _ _ h => h) (Or.inl ⟨by rfl, ?_⟩) (by assumption) ?_
            rotate_left
            · (intro W hSW; (try dsimp only at hSW); obtain ⟨p0, p1, p2, p3⟩ := Blk.c4 hSW; have zz := Blk.lt hSW; go_simp; first | done | with_reducible rfl)
            try simp only [Act.put, List.setIfInBounds_toArray, List.set_cons_zero, List.set_cons_succ]
            refine wpAnyH_done (by kernel_rfl) ?_ _
            go_wp2_with fail
            go_meet
            case rel => exact ⟨rfl, HB5, KK5⟩
          | true =>
            by_cases h0 : i = 0
            · obtain rfl : bd = false := by rw [HBd.out, badF, ← HBu.out, h0]; rfl
              subst h0
              refine wp_region_held_drew (S := (fun W => Blk W w.heap.size 30 #[.slice (some ⟨b, o, none⟩) ls cs, .slice Ag ng cg, .slice Af nf cf, .slice Ae ne ce])) (by kernel_rfl) hK.out.drew (fun hHeld => ?_)
              try simp only [Act.put, List.setIfInBounds_toArray, List.set_cons_zero, List.set_cons_succ]
              refine wpAnyH_take (i := 0) (oi := ⟨_, _, _, _, _, _⟩) (v := ?_) rfl (by kernel_rfl) (by kernel_rfl) (by kernel_rfl) (fun _ _ _ h => h) (Or.inl ⟨by rfl, ?_⟩) (by assumption) ?_
              rotate_left
              · (intro W hSW; (try dsimp only at hSW); obtain ⟨p0, p1, p2, p3⟩ := Blk.c4 hSW; have zz := Blk.lt hSW; go_simp; first | done | with_reducible rfl)
              try simp only [Act.put, List.setIfInBounds_toArray, List.set_cons_zero, List.set_cons_succ]
              refine wpAnyH_take (i := 1) (oi := ⟨_, _, _, _, _, _⟩) (v := ?_) rfl (by kernel_rfl) (by kernel_rfl) (by kernel_rfl) (fun _ _ _ h => h) (Or.inl ⟨by rfl, ?_⟩) (by assumption) ?_
              rotate_left
              · (intro W hSW; (try dsimp only at hSW); obtain ⟨p0, p1, p2, p3⟩ := Blk.c4 hSW; have zz := Blk.lt hSW; go_simp; first | done | with_reducible rfl)
              try simp only [Act.put, List.setIfInBounds_toArray, List.set_cons_zero, List.set_cons_succ]
              refine wpAnyH_ready (rs := [2]) (by kernel_rfl) (by simp) ?_
              refine AllReadyH.cons (o := ⟨_, _, _, _, _, _⟩) rfl (fun KQ hKQ => ?_) AllReadyH.nil
              go_simp
              go_at_call 44
              refine HUd.out.mono ?_
              rintro e w5 ⟨rfl, hb5⟩
              have HB5 := Lib.hid (hB.out.drew.trans (hb5.mono hB.out.drew.size))
              have KK5 := Lib.hid (hK.out.drew.old hb5)
              refine hKQ.out _ _ KK5.out (fun _ => ?_)
              clear hKQ KQ hb5
              try simp only [Act.put, List.setIfInBounds_toArray, List.set_cons_zero, List.set_cons_succ]
              refine wpAnyH_take (i := 3) (oi := ⟨_, _, _, _, _, _⟩) (v := ?_) rfl (by kernel_rfl) (by kernel_rfl) (by kernel_rfl) (fun _ _ _ h => h) (Or.inl ⟨by rfl, ?_⟩) (by assumption) ?_
              rotate_left
              · (intro W hSW; (try dsimp only at hSW); obtain ⟨p0, p1, p2, p3⟩ := Blk.c4 hSW; have zz := Blk.lt hSW; go_simp; first | done | with_reducible rfl)
              try simp only [Act.put, List.setIfInBounds_toArray, List.set_cons_zero, List.set_cons_succ]
              refine wpAnyH_take (i := 4) (oi := ⟨_, _, _, _, _, _⟩) (v := ?_) rfl (by kernel_rfl) (by kernel_rfl) (by kernel_rfl) (fun _ _ _ h => h) (Or.inl ⟨by rfl, ?_⟩) (by assumption) ?_
              rotate_left
              · (intro W hSW; (try dsimp only at hSW); obtain ⟨p0, p1, p2, p3⟩ := Blk.c4 hSW; have zz := Blk.lt hSW; go_simp; first | done | with_reducible rfl)
              try simp only [Act.put, List.setIfInBounds_toArray, List.set_cons_zero, List.set_cons_succ]
              refine wpAnyH_take (i := 5) (oi := ⟨_, _, _, _, _, _⟩) (v := ?_) rfl (by kernel_rfl) (by kernel_rfl) (by kernel_rfl) (fun _ _ _ h => h) (Or.inl ⟨by rfl, ?_⟩) (by assumption) ?_
              rotate_left
              · (intro W hSW; (try dsimp only at hSW); obtain ⟨p0, p1, p2, p3⟩ := Blk.c4 hSW; have zz := Blk.lt hSW; go_simp; first | done | with_reducible rfl)
              try simp only [Act.put, List.setIfInBounds_toArray, List.set_cons_zero, List.set_cons_succ]
              refine wpAnyH_take (i := 6) (oi := ⟨_, _, _, _, _, _⟩) (v := ?_) rfl (by kernel_rfl) (by kernel_rfl) (by kernel_rfl) (fun _ _ _ h => h) (Or.inl ⟨by rfl, ?_⟩) (by assumption) ?_
              rotate_left
              · (intro W hSW; (try dsimp only at hSW); obtain ⟨p0, p1, p2, p3⟩ := Blk.c4 hSW; have zz := Blk.lt hSW; go_simp; first | done | with_reducible rfl)
              try simp only [Act.put, List.setIfInBounds_toArray, List.set_cons_zero, List.set_cons_succ]
              refine wpAnyH_take (i := 7) (oi := ⟨_, _, _, _, _, _⟩) (v := ?_) rfl (by kernel_rfl) (by kernel_rfl) (by kernel_rfl) (fun _ _ _ h => h) (Or.inl ⟨by rfl, ?_⟩) (by assumption) ?_
              rotate_left
              · (intro W hSW; (try dsimp only at hSW); obtain ⟨p0, p1, p2, p3⟩ := Blk.c4 hSW; have zz := Blk.lt hSW; go_simp; first | done | with_reducible rfl)
              try simp only [Act.put, List.setIfInBounds_toArray, List.set_cons_zero, List.set_cons_succ]
              refine wpAnyH_take (i := 8) (oi := ⟨_, _, _, _, _, _⟩) (v := undef) rfl (by kernel_rfl) (by kernel_rfl) (by kernel_rfl) (fun _ _ _ h => h) (Or.inr ⟨by rfl, rfl⟩) (by assumption) ?_
              try simp only [Act.put, List.setIfInBounds_toArray, List.set_cons_zero, List.set_cons_succ]
              refine wpAnyH_take (i := 9) (oi := ⟨_, _, _, _, _, _⟩) (v := undef) rfl (by kernel_rfl) (by kernel_rfl) (by kernel_rfl) (fun _ _ _ h => h) (Or.inr ⟨by rfl, rfl⟩) (by assumption) ?_
              try simp only [Act.put, List.setIfInBounds_toArray, List.set_cons_zero, List.set_cons_succ]
              refine wpAnyH_take (i := 10) (oi := ⟨_, _, _, _, _, _⟩) (v := undef) rfl (by kernel_rfl) (by kernel_rfl) (by kernel_rfl) (fun _ _ _ h => h) (Or.inr ⟨by rfl, rfl⟩) (by assumption) ?_
              try simp only [Act.put, List.setIfInBounds_toArray, List.set_cons_zero, List.set_cons_succ]
              refine wpAnyH_take (i := 11) (oi := ⟨_, _, _, _, _, _⟩) (v := undef) rfl (by kernel_rfl) (by kernel_rfl) (by kernel_rfl) (fun _ _ _ h => h) (Or.inr ⟨by rfl, rfl⟩) (by assumption) ?_
              try simp only [Act.put, List.setIfInBounds_toArray, List.set_cons_zero, List.set_cons_succ]
              refine wpAnyH_take (i := 12) (oi := ⟨_, _, _, _, _, _⟩) (v := undef) rfl (by kernel_rfl) (by kernel_rfl) (by kernel_rfl) (fun _ _ _ h => h) (Or.inr ⟨by rfl, rfl⟩) (by assumption) ?_
              try simp only [Act.put, List.setIfInBounds_toArray, List.set_cons_zero, List.set_cons_succ]
              refine wpAnyH_take (i := 13) (oi := ⟨_, _, _, _, _, _⟩) (v := undef) rfl (by kernel_rfl) (by kernel_rfl) (by kernel_rfl) (fun _ _ _ h => h) (Or.inr ⟨by rfl, rfl⟩) (by assumption) ?_
              try simp only [Act.put, List.setIfInBounds_toArray, List.set_cons_zero, List.set_cons_succ]
              refine wpAnyH_take (i := 14) (oi := ⟨_, _, _, _, _, _⟩) (v := undef) rfl (by kernel_rfl) (by kernel_rfl) (by kernel_rfl) (fun _ _ _ h => h) (Or.inr ⟨by rfl, rfl⟩) (by assumption) ?_
              try simp only [Act.put, List.setIfInBounds_toArray, List.set_cons_zero, List.set_cons_succ]
              refine wpAnyH_take (i := 15) (oi := ⟨_, _, _, _, _, _⟩) (v := undef) rfl (by kernel_rfl) (by kernel_rfl) (by kernel_rfl) (fun _ _ _ h => h) (Or.inr ⟨by rfl, rfl⟩) (by assumption) ?_
              try simp only [Act.put, List.setIfInBounds_toArray, List.set_cons_zero, List.set_cons_succ]
              refine wpAnyH_take (i := 16) (oi := ⟨_, _, _, _, _, _⟩) (v := undef) rfl (by kernel_rfl) (by kernel_rfl) (by kernel_rfl) (fun _ _ _ h => h) (Or.inr ⟨by rfl, rfl⟩) (by assumption) ?_
              try simp only [Act.put, List.setIfInBounds_toArray, List.set_cons_zero, List.set_cons_succ]
              refine wpAnyH_take (i := 17) (oi := ⟨_, _, _, _, _, _⟩) (v := undef) rfl (by kernel_rfl) (by kernel_rfl) (by kernel_rfl) (fun _ _ _ h => h) (Or.inr ⟨by rfl, rfl⟩) (by assumption) ?_
              try simp only [Act.put, List.setIfInBounds_toArray, List.set_cons_zero, List.set_cons_succ]
              refine wpAnyH_take (i := 18) (oi := ⟨_, _, _, _, _, _⟩) (v := undef) rfl (by kernel_rfl) (by kernel_rfl) (by kernel_rfl) (fun _ _ _ h => h) (Or.inr ⟨by rfl, rfl⟩) (by assumption) ?_
              try simp only [Act.put, List.setIfInBounds_toArray, List.set_cons_zero, List.set_cons_succ]
              refine wpAnyH_take (i := 19) (oi := ⟨_, _, _, _, _, _⟩) (v := undef) rfl (by kernel_rfl) (by kernel_rfl) (by kernel_rfl) (fun _ _ _ h => h) (Or.inr ⟨by rfl, rfl⟩) (by assumption) ?_
              try simp only [Act.put, List.setIfInBounds_toArray, List.set_cons_zero, List.set_cons_succ]
              refine wpAnyH_take (i := 20) (oi := ⟨_, _, _, _, _, _⟩) (v := ?_) rfl (by kernel_rfl) (by kernel_rfl) (by kernel_rfl) (fun _ _ _ h => h) (Or.inl ⟨by rfl, ?_⟩) (by assumption) ?_
              rotate_left
              · (intro W hSW; (try dsimp only at hSW); obtain ⟨p0, p1, p2, p3⟩ := Blk.c4 hSW; have zz := Blk.lt hSW; go_simp; first | done | with_reducible rfl)
              try simp only [Act.put, List.setIfInBounds_toArray, List.set_cons_zero, List.set_cons_succ]
              refine wpAnyH_take (i := 21) (oi := ⟨_, _, _, _, _, _⟩) (v := ?_) rfl (by kernel_rfl) (by kernel_rfl) (by kernel_rfl) (fun _ _ _ h => h) (Or.inl ⟨by rfl, ?_⟩) (by assumption) ?_
              rotate_left
              · (intro W hSW; (try dsimp only at hSW); obtain ⟨p0, p1, p2, p3⟩ := Blk.c4 hSW; have zz := Blk.lt hSW; go_simp; first | done | with_reducible rfl)
              try simp only [Act.put, List.setIfInBounds_toArray, List.set_cons_zero, List.set_cons_succ]
              refine wpAnyH_done (by kernel_rfl) ?_ _
              go_wp2_with fail
              go_meet
              case rel => exact ⟨rfl, HB5, KK5⟩
            · obtain ⟨j, hj⟩ : ∃ j, i = j + 1 := ⟨i - 1, by omega⟩
              have hjl : j < M.strs.length := by omega
              obtain ⟨x, hx⟩ : ∃ x, x = M.strs[j] := ⟨_, rfl⟩
              obtain ⟨y, hy⟩ : ∃ y, y = M.strs[i] := ⟨_, rfl⟩
              have HSx : Hid (M.strs[j]? = some x) := by show _ = _; rw [hx]; exact List.getElem?_eq_getElem hjl
              have HSy : Hid (M.strs[i]? = some y) := by show _ = _; rw [hy]; exact List.getElem?_eq_getElem hil
              have hbd : bd = !(Op.bytesLess x y) := by
                rw [HBd.out, badF, ← HBu.out]
                rw [show M.strs.getD (i - 1) [] = x from by rw [hx, show i - 1 = j from by omega]; simp [List.getD, hjl], show M.strs.getD i [] = y from by rw [hy]; simp [List.getD, hil]]
                simp; omega
              obtain ⟨sx, hsxe⟩ : ∃ sx, sx = bs x := ⟨_, rfl⟩
              obtain ⟨sy, hsye⟩ : ∃ sy, sy = bs y := ⟨_, rfl⟩
              have hq1 := bs_toList x
              have hq2 := bs_toList y
              have hsx : wr.drew.cell? ⟨b, o + j, none⟩ = some (.string sx) := by rw [hsxe]; exact cell_old hB.out.drew hbl (HcS.out j _ HSx.out)
              have hsy : wr.drew.cell? ⟨b, o + i, none⟩ = some (.string sy) := by rw [hsye]; exact cell_old hB.out.drew hbl (HcS.out i _ HSy.out)
              have h0i : (0 : Int) < (i : Int) := by omega
              have hjj : (i : Int) - 1 = (j : Int) := by omega
              have hjn : (j : Int) < (ls : Int) := by omega
              have hwr : IntKind.i64.wrap (j : Int) = (j : Int) := by rw [IntKind.wrap_i64]; omega
              have hbl2 : Op.bytesLess sx.toList sy.toList = !bd := by rw [hsxe, hsye, hq1, hq2, hbd]; simp
              have HQ : Hid (bs x = sx ∧ bs y = sy) := ⟨hsxe.symm, hsye.symm⟩
              clear hq1 hq2 hx hy hbd hj h0 hsxe hsye
              cases bd with
              | false =>
                have hbl3 : Op.bytesLess sx.toList sy.toList = true := hbl2
                clear hbl2
                refine wp_region_held_drew (S := (fun W => Blk W w.heap.size 30 #[.slice (some ⟨b, o, none⟩) ls cs, .slice Ag ng cg, .slice Af nf cf, .slice Ae ne ce] ∧ W.cell? ⟨b, o + j, none⟩ = some (.string sx) ∧ W.cell? ⟨b, o + i, none⟩ = some (.string sy))) (by kernel_rfl) ⟨hK.out.drew, hsx, hsy⟩ (fun hHeld => ?_)
                try simp only [Act.put, List.setIfInBounds_toArray, List.set_cons_zero, List.set_cons_succ]
                refine wpAnyH_take (i := 0) (oi := ⟨_, _, _, _, _, _⟩) (v := ?_) rfl (by kernel_rfl) (by kernel_rfl) (by kernel_rfl) (fun _ _ _ h => h) (Or.inl ⟨by rfl, ?_⟩) (by assumption) ?_
                rotate_left
                · (intro W hSW; (try dsimp only at hSW); obtain ⟨hSB, hS1, hS2⟩ := hSW; obtain ⟨p0, p1, p2, p3⟩ := hSB.c4; have zz := Blk.lt hSB; have zb := World.block_lt_of_cell? W ⟨b, o + j, none⟩ hS1; go_simp; first | done | with_reducible rfl)
                try simp only [Act.put, List.setIfInBounds_toArray, List.set_cons_zero, List.set_cons_succ]
                refine wpAnyH_take (i := 1) (oi := ⟨_, _, _, _, _, _⟩) (v := ?_) rfl (by kernel_rfl) (by kernel_rfl) (by kernel_rfl) (fun _ _ _ h => h) (Or.inl ⟨by rfl, ?_⟩) (by assumption) ?_
                rotate_left
                · (intro W hSW; (try dsimp only at hSW); obtain ⟨hSB, hS1, hS2⟩ := hSW; obtain ⟨p0, p1, p2, p3⟩ := hSB.c4; have zz := Blk.lt hSB; have zb := World.block_lt_of_cell? W ⟨b, o + j, none⟩ hS1; go_simp; first | done | with_reducible rfl)
                try simp only [Act.put, List.setIfInBounds_toArray, List.set_cons_zero, List.set_cons_succ]
                refine wpAnyH_ready (rs := [2]) (by kernel_rfl) (by simp) ?_
                refine AllReadyH.cons (o := ⟨_, _, _, _, _, _⟩) rfl (fun KQ hKQ => ?_) AllReadyH.nil
                go_simp
                go_at_call 44
                refine HUd.out.mono ?_
                rintro e w5 ⟨rfl, hb5⟩
                have HB5 := Lib.hid (hB.out.drew.trans (hb5.mono hB.out.drew.size))
                have KK5 := Lib.hid (hK.out.drew.old hb5)
                refine hKQ.out _ _ ⟨KK5.out, by have := cell_old HB5.out hbl (HcS.out j _ HSx.out); rwa [HQ.out.1] at this, by have := cell_old HB5.out hbl (HcS.out i _ HSy.out); rwa [HQ.out.2] at this⟩ (fun _ => ?_)
                clear hKQ KQ hb5
                try simp only [Act.put, List.setIfInBounds_toArray, List.set_cons_zero, List.set_cons_succ]
                refine wpAnyH_take (i := 3) (oi := ⟨_, _, _, _, _, _⟩) (v := ?_) rfl (by kernel_rfl) (by kernel_rfl) (by kernel_rfl) (fun _ _ _ h => h) (Or.inl ⟨by rfl, ?_⟩) (by assumption) ?_
                rotate_left
                · (intro W hSW; (try dsimp only at hSW); obtain ⟨hSB, hS1, hS2⟩ := hSW; obtain ⟨p0, p1, p2, p3⟩ := hSB.c4; have zz := Blk.lt hSB; have zb := World.block_lt_of_cell? W ⟨b, o + j, none⟩ hS1; go_simp; first | done | with_reducible rfl)
                try simp only [Act.put, List.setIfInBounds_toArray, List.set_cons_zero, List.set_cons_succ]
                refine wpAnyH_take (i := 4) (oi := ⟨_, _, _, _, _, _⟩) (v := ?_) rfl (by kernel_rfl) (by kernel_rfl) (by kernel_rfl) (fun _ _ _ h => h) (Or.inl ⟨by rfl, ?_⟩) (by assumption) ?_
                rotate_left
                · (intro W hSW; (try dsimp only at hSW); obtain ⟨hSB, hS1, hS2⟩ := hSW; obtain ⟨p0, p1, p2, p3⟩ := hSB.c4; have zz := Blk.lt hSB; have zb := World.block_lt_of_cell? W ⟨b, o + j, none⟩ hS1; go_simp; first | done | with_reducible rfl)
                try simp only [Act.put, List.setIfInBounds_toArray, List.set_cons_zero, List.set_cons_succ]
                refine wpAnyH_take (i := 5) (oi := ⟨_, _, _, _, _, _⟩) (v := ?_) rfl (by kernel_rfl) (by kernel_rfl) (by kernel_rfl) (fun _ _ _ h => h) (Or.inl ⟨by rfl, ?_⟩) (by assumption) ?_
                rotate_left
                · (intro W hSW; (try dsimp only at hSW); obtain ⟨hSB, hS1, hS2⟩ := hSW; obtain ⟨p0, p1, p2, p3⟩ := hSB.c4; have zz := Blk.lt hSB; have zb := World.block_lt_of_cell? W ⟨b, o + j, none⟩ hS1; go_simp; first | done | with_reducible rfl)
                try simp only [Act.put, List.setIfInBounds_toArray, List.set_cons_zero, List.set_cons_succ]
                refine wpAnyH_take (i := 6) (oi := ⟨_, _, _, _, _, _⟩) (v := .bool true) rfl (by kernel_rfl) (by kernel_rfl) (by kernel_rfl) (fun _ _ _ h => h) (Or.inl ⟨by rfl, ?_⟩) (by assumption) ?_
                · (intro W hSW; (try dsimp only at hSW); obtain ⟨hSB, hS1, hS2⟩ := hSW; obtain ⟨p0, p1, p2, p3⟩ := hSB.c4; have zz := Blk.lt hSB; have zb := World.block_lt_of_cell? W ⟨b, o + j, none⟩ hS1; go_simp; first | done | exact h0i | omega | (simp; omega) | with_reducible rfl)
                try simp only [Act.put, List.setIfInBounds_toArray, List.set_cons_zero, List.set_cons_succ]
                refine wpAnyH_take (i := 7) (oi := ⟨_, _, _, _, _, _⟩) (v := ?_) rfl (by kernel_rfl) (by kernel_rfl) (by kernel_rfl) (fun _ _ _ h => h) (Or.inl ⟨by rfl, ?_⟩) (by assumption) ?_
                rotate_left
                · (intro W hSW; (try dsimp only at hSW); obtain ⟨hSB, hS1, hS2⟩ := hSW; obtain ⟨p0, p1, p2, p3⟩ := hSB.c4; have zz := Blk.lt hSB; have zb := World.block_lt_of_cell? W ⟨b, o + j, none⟩ hS1; go_simp; first | done | with_reducible rfl)
                try simp only [Act.put, List.setIfInBounds_toArray, List.set_cons_zero, List.set_cons_succ]
                refine wpAnyH_take (i := 8) (oi := ⟨_, _, _, _, _, _⟩) (v := ?_) rfl (by kernel_rfl) (by kernel_rfl) (by kernel_rfl) (fun _ _ _ h => h) (Or.inl ⟨by rfl, ?_⟩) (by assumption) ?_
                rotate_left
                · (intro W hSW; (try dsimp only at hSW); obtain ⟨hSB, hS1, hS2⟩ := hSW; obtain ⟨p0, p1, p2, p3⟩ := hSB.c4; have zz := Blk.lt hSB; have zb := World.block_lt_of_cell? W ⟨b, o + j, none⟩ hS1; go_simp; first | done | with_reducible rfl)
                try simp only [Act.put, List.setIfInBounds_toArray, List.set_cons_zero, List.set_cons_succ]
                refine wpAnyH_take (i := 9) (oi := ⟨_, _, _, _, _, _⟩) (v := ?_) rfl (by kernel_rfl) (by kernel_rfl) (by kernel_rfl) (fun _ _ _ h => h) (Or.inl ⟨by rfl, ?_⟩) (by assumption) ?_
                rotate_left
                · (intro W hSW; (try dsimp only at hSW); obtain ⟨hSB, hS1, hS2⟩ := hSW; obtain ⟨p0, p1, p2, p3⟩ := hSB.c4; have zz := Blk.lt hSB; have zb := World.block_lt_of_cell? W ⟨b, o + j, none⟩ hS1; go_simp; first | done | with_reducible rfl)
                try simp only [Act.put, List.setIfInBounds_toArray, List.set_cons_zero, List.set_cons_succ]
                refine wpAnyH_take (i := 10) (oi := ⟨_, _, _, _, _, _⟩) (v := ?_) rfl (by kernel_rfl) (by kernel_rfl) (by kernel_rfl) (fun _ _ _ h => h) (Or.inl ⟨by rfl, ?_⟩) (by assumption) ?_
                rotate_left
                · (intro W hSW; (try dsimp only at hSW); obtain ⟨hSB, hS1, hS2⟩ := hSW; obtain ⟨p0, p1, p2, p3⟩ := hSB.c4; have zz := Blk.lt hSB; have zb := World.block_lt_of_cell? W ⟨b, o + j, none⟩ hS1; go_simp; first | done | with_reducible rfl)
                try simp only [Act.put, List.setIfInBounds_toArray, List.set_cons_zero, List.set_cons_succ]
                refine wpAnyH_take (i := 11) (oi := ⟨_, _, _, _, _, _⟩) (v := ?_) rfl (by kernel_rfl) (by kernel_rfl) (by kernel_rfl) (fun _ _ _ h => h) (Or.inl ⟨by rfl, ?_⟩) (by assumption) ?_
                rotate_left
                · (intro W hSW; (try dsimp only at hSW); obtain ⟨hSB, hS1, hS2⟩ := hSW; obtain ⟨p0, p1, p2, p3⟩ := hSB.c4; have zz := Blk.lt hSB; have zb := World.block_lt_of_cell? W ⟨b, o + j, none⟩ hS1; go_simp; first | done | with_reducible rfl)
                try simp only [Act.put, List.setIfInBounds_toArray, List.set_cons_zero, List.set_cons_succ]
                refine wpAnyH_take (i := 12) (oi := ⟨_, _, _, _, _, _⟩) (v := ?_) rfl (by kernel_rfl) (by kernel_rfl) (by kernel_rfl) (fun _ _ _ h => h) (Or.inl ⟨by rfl, ?_⟩) (by assumption) ?_
                rotate_left
                · (intro W hSW; (try dsimp only at hSW); obtain ⟨hSB, hS1, hS2⟩ := hSW; obtain ⟨p0, p1, p2, p3⟩ := hSB.c4; have zz := Blk.lt hSB; have zb := World.block_lt_of_cell? W ⟨b, o + j, none⟩ hS1; go_simp; first | done | with_reducible rfl)
                try simp only [Act.put, List.setIfInBounds_toArray, List.set_cons_zero, List.set_cons_succ]
                refine wpAnyH_take (i := 13) (oi := ⟨_, _, _, _, _, _⟩) (v := ?_) rfl (by kernel_rfl) (by kernel_rfl) (by kernel_rfl) (fun _ _ _ h => h) (Or.inl ⟨by rfl, ?_⟩) (by assumption) ?_
                rotate_left
                · (intro W hSW; (try dsimp only at hSW); obtain ⟨hSB, hS1, hS2⟩ := hSW; obtain ⟨p0, p1, p2, p3⟩ := hSB.c4; have zz := Blk.lt hSB; have zb := World.block_lt_of_cell? W ⟨b, o + j, none⟩ hS1; go_simp; first | done | with_reducible rfl)
                try simp only [Act.put, List.setIfInBounds_toArray, List.set_cons_zero, List.set_cons_succ]
                refine wpAnyH_take (i := 14) (oi := ⟨_, _, _, _, _, _⟩) (v := ?_) rfl (by kernel_rfl) (by kernel_rfl) (by kernel_rfl) (fun _ _ _ h => h) (Or.inl ⟨by rfl, ?_⟩) (by assumption) ?_
                rotate_left
                · (intro W hSW; (try dsimp only at hSW); obtain ⟨hSB, hS1, hS2⟩ := hSW; obtain ⟨p0, p1, p2, p3⟩ := hSB.c4; have zz := Blk.lt hSB; have zb := World.block_lt_of_cell? W ⟨b, o + j, none⟩ hS1; go_simp; first | done | with_reducible rfl)
                try simp only [Act.put, List.setIfInBounds_toArray, List.set_cons_zero, List.set_cons_succ]
                refine wpAnyH_take (i := 15) (oi := ⟨_, _, _, _, _, _⟩) (v := ?_) rfl (by kernel_rfl) (by kernel_rfl) (by kernel_rfl) (fun _ _ _ h => h) (Or.inl ⟨by rfl, ?_⟩) (by assumption) ?_
                rotate_left
                · (intro W hSW; (try dsimp only at hSW); obtain ⟨hSB, hS1, hS2⟩ := hSW; obtain ⟨p0, p1, p2, p3⟩ := hSB.c4; have zz := Blk.lt hSB; have zb := World.block_lt_of_cell? W ⟨b, o + j, none⟩ hS1; go_simp; first | done | with_reducible rfl)
                try simp only [Act.put, List.setIfInBounds_toArray, List.set_cons_zero, List.set_cons_succ]
                refine wpAnyH_take (i := 16) (oi := ⟨_, _, _, _, _, _⟩) (v := ?_) rfl (by kernel_rfl) (by kernel_rfl) (by kernel_rfl) (fun _ _ _ h => h) (Or.inl ⟨by rfl, ?_⟩) (by assumption) ?_
                rotate_left
                · (intro W hSW; (try dsimp only at hSW); obtain ⟨hSB, hS1, hS2⟩ := hSW; obtain ⟨p0, p1, p2, p3⟩ := hSB.c4; have zz := Blk.lt hSB; have zb := World.block_lt_of_cell? W ⟨b, o + j, none⟩ hS1; go_simp; first | done | with_reducible rfl)
                try simp only [Act.put, List.setIfInBounds_toArray, List.set_cons_zero, List.set_cons_succ]
                refine wpAnyH_take (i := 17) (oi := ⟨_, _, _, _, _, _⟩) (v := ?_) rfl (by kernel_rfl) (by kernel_rfl) (by kernel_rfl) (fun _ _ _ h => h) (Or.inl ⟨by rfl, ?_⟩) (by assumption) ?_
                rotate_left
                · (intro W hSW; (try dsimp only at hSW); obtain ⟨hSB, hS1, hS2⟩ := hSW; obtain ⟨p0, p1, p2, p3⟩ := hSB.c4; have zz := Blk.lt hSB; have zb := World.block_lt_of_cell? W ⟨b, o + j, none⟩ hS1; go_simp; first | done | with_reducible rfl)
                try simp only [Act.put, List.setIfInBounds_toArray, List.set_cons_zero, List.set_cons_succ]
                refine wpAnyH_take (i := 18) (oi := ⟨_, _, _, _, _, _⟩) (v := ?_) rfl (by kernel_rfl) (by kernel_rfl) (by kernel_rfl) (fun _ _ _ h => h) (Or.inl ⟨by rfl, ?_⟩) (by assumption) ?_
                rotate_left
                · (intro W hSW; (try dsimp only at hSW); obtain ⟨hSB, hS1, hS2⟩ := hSW; obtain ⟨p0, p1, p2, p3⟩ := hSB.c4; have zz := Blk.lt hSB; have zb := World.block_lt_of_cell? W ⟨b, o + j, none⟩ hS1; go_simp; first | done | with_reducible rfl)
                try simp only [Act.put, List.setIfInBounds_toArray, List.set_cons_zero, List.set_cons_succ]
                refine wpAnyH_take (i := 19) (oi := ⟨_, _, _, _, _, _⟩) (v := .bool false) rfl (by kernel_rfl) (by kernel_rfl) (by kernel_rfl) (fun _ _ _ h => h) (Or.inl ⟨by rfl, ?_⟩) (by assumption) ?_
                · (intro W hSW; (try dsimp only at hSW); obtain ⟨hSB, hS1, hS2⟩ := hSW; obtain ⟨p0, p1, p2, p3⟩ := hSB.c4; have zz := Blk.lt hSB; have zb := World.block_lt_of_cell? W ⟨b, o + j, none⟩ hS1; go_simp; first | done | exact hbl3 | (simp [hbl3]; done) | with_reducible rfl)
                try simp only [Act.put, List.setIfInBounds_toArray, List.set_cons_zero, List.set_cons_succ]
                refine wpAnyH_take (i := 20) (oi := ⟨_, _, _, _, _, _⟩) (v := ?_) rfl (by kernel_rfl) (by kernel_rfl) (by kernel_rfl) (fun _ _ _ h => h) (Or.inl ⟨by rfl, ?_⟩) (by assumption) ?_
                rotate_left
                · (intro W hSW; (try dsimp only at hSW); obtain ⟨hSB, hS1, hS2⟩ := hSW; obtain ⟨p0, p1, p2, p3⟩ := hSB.c4; have zz := Blk.lt hSB; have zb := World.block_lt_of_cell? W ⟨b, o + j, none⟩ hS1; go_simp; first | done | with_reducible rfl)
                try simp only [Act.put, List.setIfInBounds_toArray, List.set_cons_zero, List.set_cons_succ]
                refine wpAnyH_take (i := 21) (oi := ⟨_, _, _, _, _, _⟩) (v := ?_) rfl (by kernel_rfl) (by kernel_rfl) (by kernel_rfl) (fun _ _ _ h => h) (Or.inl ⟨by rfl, ?_⟩) (by assumption) ?_
                rotate_left
                · (intro W hSW; (try dsimp only at hSW); obtain ⟨hSB, hS1, hS2⟩ := hSW; obtain ⟨p0, p1, p2, p3⟩ := hSB.c4; have zz := Blk.lt hSB; have zb := World.block_lt_of_cell? W ⟨b, o + j, none⟩ hS1; go_simp; first | done | with_reducible rfl)
                try simp only [Act.put, List.setIfInBounds_toArray, List.set_cons_zero, List.set_cons_succ]
                refine wpAnyH_done (by kernel_rfl) ?_ _
                go_wp2_with fail
                go_meet
                case rel => exact ⟨rfl, HB5, KK5⟩
              | true =>
                have hbl3 : Op.bytesLess sx.toList sy.toList = false := hbl2
                clear hbl2
                refine wp_region_held_drew (S := (fun W => Blk W w.heap.size 30 #[.slice (some ⟨b, o, none⟩) ls cs, .slice Ag ng cg, .slice Af nf cf, .slice Ae ne ce] ∧ W.cell? ⟨b, o + j, none⟩ = some (.string sx) ∧ W.cell? ⟨b, o + i, none⟩ = some (.string sy))) (by kernel_rfl) ⟨hK.out.drew, hsx, hsy⟩ (fun hHeld => ?_)
                try simp only [Act.put, List.setIfInBounds_toArray, List.set_cons_zero, List.set_cons_succ]
                refine wpAnyH_take (i := 0) (oi := ⟨_, _, _, _, _, _⟩) (v := ?_) rfl (by kernel_rfl) (by kernel_rfl) (by kernel_rfl) (fun _ _ _ h => h) (Or.inl ⟨by rfl, ?_⟩) (by assumption) ?_
                rotate_left
                · (intro W hSW; (try dsimp only at hSW); obtain ⟨hSB, hS1, hS2⟩ := hSW; obtain ⟨p0, p1, p2, p3⟩ := hSB.c4; have zz := Blk.lt hSB; have zb := World.block_lt_of_cell? W ⟨b, o + j, none⟩ hS1; go_simp; first | done | with_reducible rfl)
                try simp only [Act.put, List.setIfInBounds_toArray, List.set_cons_zero, List.set_cons_succ]
                refine wpAnyH_take (i := 1) (oi := ⟨_, _, _, _, _, _⟩) (v := ?_) rfl (by kernel_rfl) (by kernel_rfl) (by kernel_rfl) (fun _ _ _ h => h) (Or.inl ⟨by rfl, ?_⟩) (by assumption) ?_
                rotate_left
                · (intro W hSW; (try dsimp only at hSW); obtain ⟨hSB, hS1, hS2⟩ := hSW; obtain ⟨p0, p1, p2, p3⟩ := hSB.c4; have zz := Blk.lt hSB; have zb := World.block_lt_of_cell? W ⟨b, o + j, none⟩ hS1; go_simp; first | done | with_reducible rfl)
                try simp only [Act.put, List.setIfInBounds_toArray, List.set_cons_zero, List.set_cons_succ]
                refine wpAnyH_ready (rs := [2]) (by kernel_rfl) (by simp) ?_
                refine AllReadyH.cons (o := ⟨_, _, _, _, _, _⟩) rfl (fun KQ hKQ => ?_) AllReadyH.nil
                go_simp
                go_at_call 44
                refine HUd.out.mono ?_
                rintro e w5 ⟨rfl, hb5⟩
                have HB5 := Lib.hid (hB.out.drew.trans (hb5.mono hB.out.drew.size))
                have KK5 := Lib.hid (hK.out.drew.old hb5)
                refine hKQ.out _ _ ⟨KK5.out, by have := cell_old HB5.out hbl (HcS.out j _ HSx.out); rwa [HQ.out.1] at this, by have := cell_old HB5.out hbl (HcS.out i _ HSy.out); rwa [HQ.out.2] at this⟩ (fun _ => ?_)
                clear hKQ KQ hb5
                try simp only [Act.put, List.setIfInBounds_toArray, List.set_cons_zero, List.set_cons_succ]
                refine wpAnyH_take (i := 3) (oi := ⟨_, _, _, _, _, _⟩) (v := ?_) rfl (by kernel_rfl) (by kernel_rfl) (by kernel_rfl) (fun _ _ _ h => h) (Or.inl ⟨by rfl, ?_⟩) (by assumption) ?_
                rotate_left
                · (intro W hSW; (try dsimp only at hSW); obtain ⟨hSB, hS1, hS2⟩ := hSW; obtain ⟨p0, p1, p2, p3⟩ := hSB.c4; have zz := Blk.lt hSB; have zb := World.block_lt_of_cell? W ⟨b, o + j, none⟩ hS1; go_simp; first | done | with_reducible rfl)
                try simp only [Act.put, List.setIfInBounds_toArray, List.set_cons_zero, List.set_cons_succ]
                refine wpAnyH_take (i := 4) (oi := ⟨_, _, _, _, _, _⟩) (v := ?_) rfl (by kernel_rfl) (by kernel_rfl) (by kernel_rfl) (fun _ _ _ h => h) (Or.inl ⟨by rfl, ?_⟩) (by assumption) ?_
                rotate_left
                · (intro W hSW; (try dsimp only at hSW); obtain ⟨hSB, hS1, hS2⟩ := hSW; obtain ⟨p0, p1, p2, p3⟩ := hSB.c4; have zz := Blk.lt hSB; have zb := World.block_lt_of_cell? W ⟨b, o + j, none⟩ hS1; go_simp; first | done | with_reducible rfl)
                try simp only [Act.put, List.setIfInBounds_toArray, List.set_cons_zero, List.set_cons_succ]
                refine wpAnyH_take (i := 5) (oi := ⟨_, _, _, _, _, _⟩) (v := ?_) rfl (by kernel_rfl) (by kernel_rfl) (by kernel_rfl) (fun _ _ _ h => h) (Or.inl ⟨by rfl, ?_⟩) (by assumption) ?_
                rotate_left
                · (intro W hSW; (try dsimp only at hSW); obtain ⟨hSB, hS1, hS2⟩ := hSW; obtain ⟨p0, p1, p2, p3⟩ := hSB.c4; have zz := Blk.lt hSB; have zb := World.block_lt_of_cell? W ⟨b, o + j, none⟩ hS1; go_simp; first | done | with_reducible rfl)
                try simp only [Act.put, List.setIfInBounds_toArray, List.set_cons_zero, List.set_cons_succ]
                refine wpAnyH_take (i := 6) (oi := ⟨_, _, _, _, _, _⟩) (v := .bool true) rfl (by kernel_rfl) (by kernel_rfl) (by kernel_rfl) (fun _ _ _ h => h) (Or.inl ⟨by rfl, ?_⟩) (by assumption) ?_
                · (intro W hSW; (try dsimp only at hSW); obtain ⟨hSB, hS1, hS2⟩ := hSW; obtain ⟨p0, p1, p2, p3⟩ := hSB.c4; have zz := Blk.lt hSB; have zb := World.block_lt_of_cell? W ⟨b, o + j, none⟩ hS1; go_simp; first | done | exact h0i | omega | (simp; omega) | with_reducible rfl)
                try simp only [Act.put, List.setIfInBounds_toArray, List.set_cons_zero, List.set_cons_succ]
                refine wpAnyH_take (i := 7) (oi := ⟨_, _, _, _, _, _⟩) (v := ?_) rfl (by kernel_rfl) (by kernel_rfl) (by kernel_rfl) (fun _ _ _ h => h) (Or.inl ⟨by rfl, ?_⟩) (by assumption) ?_
                rotate_left
                · (intro W hSW; (try dsimp only at hSW); obtain ⟨hSB, hS1, hS2⟩ := hSW; obtain ⟨p0, p1, p2, p3⟩ := hSB.c4; have zz := Blk.lt hSB; have zb := World.block_lt_of_cell? W ⟨b, o + j, none⟩ hS1; go_simp; first | done | with_reducible rfl)
                try simp only [Act.put, List.setIfInBounds_toArray, List.set_cons_zero, List.set_cons_succ]
                refine wpAnyH_take (i := 8) (oi := ⟨_, _, _, _, _, _⟩) (v := ?_) rfl (by kernel_rfl) (by kernel_rfl) (by kernel_rfl) (fun _ _ _ h => h) (Or.inl ⟨by rfl, ?_⟩) (by assumption) ?_
                rotate_left
                · (intro W hSW; (try dsimp only at hSW); obtain ⟨hSB, hS1, hS2⟩ := hSW; obtain ⟨p0, p1, p2, p3⟩ := hSB.c4; have zz := Blk.lt hSB; have zb := World.block_lt_of_cell? W ⟨b, o + j, none⟩ hS1; go_simp; first | done | with_reducible rfl)
                try simp only [Act.put, List.setIfInBounds_toArray, List.set_cons_zero, List.set_cons_succ]
                refine wpAnyH_take (i := 9) (oi := ⟨_, _, _, _, _, _⟩) (v := ?_) rfl (by kernel_rfl) (by kernel_rfl) (by kernel_rfl) (fun _ _ _ h => h) (Or.inl ⟨by rfl, ?_⟩) (by assumption) ?_
                rotate_left
                · (intro W hSW; (try dsimp only at hSW); obtain ⟨hSB, hS1, hS2⟩ := hSW; obtain ⟨p0, p1, p2, p3⟩ := hSB.c4; have zz := Blk.lt hSB; have zb := World.block_lt_of_cell? W ⟨b, o + j, none⟩ hS1; go_simp; first | done | with_reducible rfl)
                try simp only [Act.put, List.setIfInBounds_toArray, List.set_cons_zero, List.set_cons_succ]
                refine wpAnyH_take (i := 10) (oi := ⟨_, _, _, _, _, _⟩) (v := ?_) rfl (by kernel_rfl) (by kernel_rfl) (by kernel_rfl) (fun _ _ _ h => h) (Or.inl ⟨by rfl, ?_⟩) (by assumption) ?_
                rotate_left
                · (intro W hSW; (try dsimp only at hSW); obtain ⟨hSB, hS1, hS2⟩ := hSW; obtain ⟨p0, p1, p2, p3⟩ := hSB.c4; have zz := Blk.lt hSB; have zb := World.block_lt_of_cell? W ⟨b, o + j, none⟩ hS1; go_simp; first | done | with_reducible rfl)
                try simp only [Act.put, List.setIfInBounds_toArray, List.set_cons_zero, List.set_cons_succ]
                refine wpAnyH_take (i := 11) (oi := ⟨_, _, _, _, _, _⟩) (v := ?_) rfl (by kernel_rfl) (by kernel_rfl) (by kernel_rfl) (fun _ _ _ h => h) (Or.inl ⟨by rfl, ?_⟩) (by assumption) ?_
                rotate_left
                · (intro W hSW; (try dsimp only at hSW); obtain ⟨hSB, hS1, hS2⟩ := hSW; obtain ⟨p0, p1, p2, p3⟩ := hSB.c4; have zz := Blk.lt hSB; have zb := World.block_lt_of_cell? W ⟨b, o + j, none⟩ hS1; go_simp; first | done | with_reducible rfl)
                try simp only [Act.put, List.setIfInBounds_toArray, List.set_cons_zero, List.set_cons_succ]
                refine wpAnyH_take (i := 12) (oi := ⟨_, _, _, _, _, _⟩) (v := ?_) rfl (by kernel_rfl) (by kernel_rfl) (by kernel_rfl) (fun _ _ _ h => h) (Or.inl ⟨by rfl, ?_⟩) (by assumption) ?_
                rotate_left
                · (intro W hSW; (try dsimp only at hSW); obtain ⟨hSB, hS1, hS2⟩ := hSW; obtain ⟨p0, p1, p2, p3⟩ := hSB.c4; have zz := Blk.lt hSB; have zb := World.block_lt_of_cell? W ⟨b, o + j, none⟩ hS1; go_simp; first | done | with_reducible rfl)
                try simp only [Act.put, List.setIfInBounds_toArray, List.set_cons_zero, List.set_cons_succ]
                refine wpAnyH_take (i := 13) (oi := ⟨_, _, _, _, _, _⟩) (v := ?_) rfl (by kernel_rfl) (by kernel_rfl) (by kernel_rfl) (fun _ _ _ h => h) (Or.inl ⟨by rfl, ?_⟩) (by assumption) ?_
                rotate_left
                · (intro W hSW; (try dsimp only at hSW); obtain ⟨hSB, hS1, hS2⟩ := hSW; obtain ⟨p0, p1, p2, p3⟩ := hSB.c4; have zz := Blk.lt hSB; have zb := World.block_lt_of_cell? W ⟨b, o + j, none⟩ hS1; go_simp; first | done | with_reducible rfl)
                try simp only [Act.put, List.setIfInBounds_toArray, List.set_cons_zero, List.set_cons_succ]
                refine wpAnyH_take (i := 14) (oi := ⟨_, _, _, _, _, _⟩) (v := ?_) rfl (by kernel_rfl) (by kernel_rfl) (by kernel_rfl) (fun _ _ _ h => h) (Or.inl ⟨by rfl, ?_⟩) (by assumption) ?_
                rotate_left
                · (intro W hSW; (try dsimp only at hSW); obtain ⟨hSB, hS1, hS2⟩ := hSW; obtain ⟨p0, p1, p2, p3⟩ := hSB.c4; have zz := Blk.lt hSB; have zb := World.block_lt_of_cell? W ⟨b, o + j, none⟩ hS1; go_simp; first | done | with_reducible rfl)
                try simp only [Act.put, List.setIfInBounds_toArray, List.set_cons_zero, List.set_cons_succ]
                refine wpAnyH_take (i := 15) (oi := ⟨_, _, _, _, _, _⟩) (v := ?_) rfl (by kernel_rfl) (by kernel_rfl) (by kernel_rfl) (fun _ _ _ h => h) (Or.inl ⟨by rfl, ?_⟩) (by assumption) ?_
                rotate_left
                · (intro W hSW; (try dsimp only at hSW); obtain ⟨hSB, hS1, hS2⟩ := hSW; obtain ⟨p0, p1, p2, p3⟩ := hSB.c4; have zz := Blk.lt hSB; have zb := World.block_lt_of_cell? W ⟨b, o + j, none⟩ hS1; go_simp; first | done | with_reducible rfl)
                try simp only [Act.put, List.setIfInBounds_toArray, List.set_cons_zero, List.set_cons_succ]
                refine wpAnyH_take (i := 16) (oi := ⟨_, _, _, _, _, _⟩) (v := ?_) rfl (by kernel_rfl) (by kernel_rfl) (by kernel_rfl) (fun _ _ _ h => h) (Or.inl ⟨by rfl, ?_⟩) (by assumption) ?_
                rotate_left
                · (intro W hSW; (try dsimp only at hSW); obtain ⟨hSB, hS1, hS2⟩ := hSW; obtain ⟨p0, p1, p2, p3⟩ := hSB.c4; have zz := Blk.lt hSB; have zb := World.block_lt_of_cell? W ⟨b, o + j, none⟩ hS1; go_simp; first | done | with_reducible rfl)
                try simp only [Act.put, List.setIfInBounds_toArray, List.set_cons_zero, List.set_cons_succ]
                refine wpAnyH_take (i := 17) (oi := ⟨_, _, _, _, _, _⟩) (v := ?_) rfl (by kernel_rfl) (by kernel_rfl) (by kernel_rfl) (fun _ _ _ h => h) (Or.inl ⟨by rfl, ?_⟩) (by assumption) ?_
                rotate_left
                · (intro W hSW; (try dsimp only at hSW); obtain ⟨hSB, hS1, hS2⟩ := hSW; obtain ⟨p0, p1, p2, p3⟩ := hSB.c4; have zz := Blk.lt hSB; have zb := World.block_lt_of_cell? W ⟨b, o + j, none⟩ hS1; go_simp; first | done | with_reducible rfl)
                try simp only [Act.put, List.setIfInBounds_toArray, List.set_cons_zero, List.set_cons_succ]
                refine wpAnyH_take (i := 18) (oi := ⟨_, _, _, _, _, _⟩) (v := ?_) rfl (by kernel_rfl) (by kernel_rfl) (by kernel_rfl) (fun _ _ _ h => h) (Or.inl ⟨by rfl, ?_⟩) (by assumption) ?_
                rotate_left
                · (intro W hSW; (try dsimp only at hSW); obtain ⟨hSB, hS1, hS2⟩ := hSW; obtain ⟨p0, p1, p2, p3⟩ := hSB.c4; have zz := Blk.lt hSB; have zb := World.block_lt_of_cell? W ⟨b, o + j, none⟩ hS1; go_simp; first | done | with_reducible rfl)
                try simp only [Act.put, List.setIfInBounds_toArray, List.set_cons_zero, List.set_cons_succ]
                refine wpAnyH_take (i := 19) (oi := ⟨_, _, _, _, _, _⟩) (v := .bool true) rfl (by kernel_rfl) (by kernel_rfl) (by kernel_rfl) (fun _ _ _ h => h) (Or.inl ⟨by rfl, ?_⟩) (by assumption) ?_
                · (intro W hSW; (try dsimp only at hSW); obtain ⟨hSB, hS1, hS2⟩ := hSW; obtain ⟨p0, p1, p2, p3⟩ := hSB.c4; have zz := Blk.lt hSB; have zb := World.block_lt_of_cell? W ⟨b, o + j, none⟩ hS1; go_simp; first | done | exact hbl3 | (simp [hbl3]; done) | with_reducible rfl)
                try simp only [Act.put, List.setIfInBounds_toArray, List.set_cons_zero, List.set_cons_succ]
                refine wpAnyH_take (i := 20) (oi := ⟨_, _, _, _, _, _⟩) (v := ?_) rfl (by kernel_rfl) (by kernel_rfl) (by kernel_rfl) (fun _ _ _ h => h) (Or.inl ⟨by rfl, ?_⟩) (by assumption) ?_
                rotate_left
                · (intro W hSW; (try dsimp only at hSW); obtain ⟨hSB, hS1, hS2⟩ := hSW; obtain ⟨p0, p1, p2, p3⟩ := hSB.c4; have zz := Blk.lt hSB; have zb := World.block_lt_of_cell? W ⟨b, o + j, none⟩ hS1; go_simp; first | done | with_reducible rfl)
                try simp only [Act.put, List.setIfInBounds_toArray, List.set_cons_zero, List.set_cons_succ]
                refine wpAnyH_take (i := 21) (oi := ⟨_, _, _, _, _, _⟩) (v := ?_) rfl (by kernel_rfl) (by kernel_rfl) (by kernel_rfl) (fun _ _ _ h => h) (Or.inl ⟨by rfl, ?_⟩) (by assumption) ?_
                rotate_left
                · (intro W hSW; (try dsimp only at hSW); obtain ⟨hSB, hS1, hS2⟩ := hSW; obtain ⟨p0, p1, p2, p3⟩ := hSB.c4; have zz := Blk.lt hSB; have zb := World.block_lt_of_cell? W ⟨b, o + j, none⟩ hS1; go_simp; first | done | with_reducible rfl)
                try simp only [Act.put, List.setIfInBounds_toArray, List.set_cons_zero, List.set_cons_succ]
                refine wpAnyH_done (by kernel_rfl) ?_ _
                go_wp2_with fail
                go_meet
                case rel => exact ⟨rfl, HB5, KK5⟩
        case rest =>
          obtain ⟨rfl, hB5, hK5⟩ := hcut
          clear m0 m1 m2 m3 z1 hB hK HUd HUd0
          cases bd with
          | true =>
            obtain rfl : v = (10, -1, -1) := by
              rw [HV2.out, if_neg]
              intro hall
              have := List.all_eq_true.1 hall i (List.mem_range.2 hlt)
              rw [← HBd.out] at this
              cases this
            go_wp2
            go_ret3
            exact ⟨rfl, hB5.out⟩
          | false =>
            have HE2 : Hid (∀ k, k < i + 1 → badF M k = false) := fun k hk => by
              rcases Nat.lt_or_ge k i with h | h
              · exact hE.out k h
              · obtain rfl : k = i := by omega
                exact HBd.out.symm
            go_wp2
            go_roundw
            case rel => exact ⟨i + 1, by omega, by go_num, HE2, hB5, hK5⟩
            case measure => simp [intOf]; omega
      · obtain rfl : i = ls := by omega
        obtain rfl : v = (0, -1, -1) := by
          rw [HV2.out, if_pos]
          refine List.all_eq_true.2 fun k hk => ?_
          rw [hE.out k (List.mem_range.1 hk)]; rfl
        go_wp2
        go_ret3
        exact ⟨rfl, hB.out⟩
  · have hg : (0 : Int) < r := by omega
    obtain rfl : v = (r, f, s) := by rw [HV.out, if_pos (show r ≠ 0 from hr)]
    clear HV hr
    go_wp2
    go_ret3
    exact ⟨rfl, HB2.out⟩
end Go.Proofs.Ytpdebnecfknohaa
namespace Go.Proofs.Ytpdebnecfknohaa
open Go.RowKit
set_option linter.unusedVariables false
set_option linter.unusedSimpArgs false
set_option maxRecDepth 20000
/-- What Of leaves, in letters. -/
theorem OfC.letters {w : World} {M N : Md} {e : Ending} {w' : World} (h : OfC w M e w') (hN : canM M = N) : ∃ A1 c1 A2 c2 A3 c3 A4 c4, e = .returned (.tuple #[.agg #[.slice A1 N.strs.length c1, .slice A2 N.globs.length c2, .slice A3 N.funcs.length c3, .slice A4 N.ents.length c4], .agg #[.int .i64 0, .int .i64 0, .int .i64 0, .int .i64 0, .int .i64 0, .int .i64 (-1), .int .i64 (-1)]]) ∧ MdR w' A1 A2 A3 A4 N ∧ (0 < N.funcs.length → ∃ lo q T, A3 = some ⟨q, 0, none⟩ ∧ CpT w.heap.size lo T w' q N.funcs) ∧ Below w.heap.size w w' := by
  subst hN
  obtain ⟨A1, c1, A2, c2, A3, c3, A4, c4, rfl, h1, h2, h3⟩ := h
  exact ⟨A1, c1, A2, c2, A3, c3, A4, c4, by simp [faultV], h1, h2, h3⟩
end Go.Proofs.Ytpdebnecfknohaa
namespace Go.Proofs.Ytpdebnecfknohaa
open Go.RowKit
set_option linter.unusedVariables false
set_option linter.unusedSimpArgs false
set_option maxRecDepth 20000
/-- A statement without a body, without arguments, whose references are of kinds that there are. -/
def plB : Bd → Prop
  | .nil => True
  | .cons k a1 a2 b1 b2 xs sub rest => (sub.len = 0 ∧ xs.length = 0 ∧ a1 ≤ 4 ∧ b1 ≤ 4) ∧ plB rest
theorem plB_of : ∀ (t : Bd), (∀ i, i < t.len → ∀ k a1 a2 b1 b2 xs sub rest, t.drop i = .cons k a1 a2 b1 b2 xs sub rest → sub.len = 0 ∧ xs.length = 0 ∧ a1 ≤ 4 ∧ b1 ≤ 4) → plB t
  | .nil, _ => trivial
  | .cons k a1 a2 b1 b2 xs sub rest, h => ⟨h 0 (by simp [Bd.len]) k a1 a2 b1 b2 xs sub rest rfl, plB_of rest (fun i hi k' a1' a2' b1' b2' xs' sub' rest' e => h (i + 1) (by simp [Bd.len]; omega) k' a1' a2' b1' b2' xs' sub' rest' (by simpa [Bd.drop] using e))⟩
theorem len_nil : ∀ (t : Bd), t.len = 0 → t = .nil
  | .nil, _ => rfl
  | .cons _ _ _ _ _ _ _ _, h => by simp [Bd.len] at h
theorem plB_size : ∀ (t : Bd), plB t → t.size = t.len ∧ t.wide = 0
  | .nil, _ => ⟨rfl, rfl⟩
  | .cons k a1 a2 b1 b2 xs sub rest, h => by
    obtain ⟨⟨h1, h2, _, _⟩, h5⟩ := h
    obtain rfl := len_nil sub h1
    obtain ⟨h6, h7⟩ := plB_size rest h5
    simp only [Bd.size, Bd.wide, Bd.len]
    omega
theorem plB_low : ∀ (t : Bd), plB t → t.fit → ∀ x ∈ t.flat 0, x.Low
  | .nil, _, _, x, hx => by simp [Bd.flat] at hx
  | .cons k a1 a2 b1 b2 xs sub rest, h, hf, x, hx => by
    obtain ⟨⟨h1, h2, h3, h4⟩, h5⟩ := h
    obtain rfl := len_nil sub h1
    obtain rfl : xs = [] := List.eq_nil_of_length_eq_zero h2
    simp only [Bd.flat, List.mem_cons, List.mem_append] at hx
    rcases hx with rfl | hx | hx
    · have hf1 := hf.1
      unfold okU8 at hf1
      exact ⟨by dsimp only; omega, h3, by dsimp only; omega, h4, fun p hp => by simp at hp⟩
    · split at hx <;> simp at hx
    · exact plB_low rest h5 hf.2.2.2 x hx
/-- What is asked of a module that is handed in. -/
structure Md.In2 (M : Md) : Prop where
  globs : WfI M.globs
  ents : WfI M.ents
  names : WfI (namesL M.funcs)
  fns : ∀ f ∈ M.funcs, WfI f.locals ∧ WfI f.sites ∧ f.body.fit
def goodR (f : Fn) : Prop := f.locals.length ≤ 60 ∧ f.sites.length ≤ 60 ∧ f.body.len ≤ 30 ∧ plB f.body
theorem goodR_size {f : Fn} (h : goodR f) : f.body.size ≤ 30 ∧ f.body.wide = 0 := by
  obtain ⟨_, _, h3, h4⟩ := h
  obtain ⟨h5, h6⟩ := plB_size f.body h4
  omega
theorem Md.In2.wf {M : Md} (h : M.In2) (h1 : M.strs.length ≤ 60) (h2 : M.globs.length ≤ 60) (h3 : M.funcs.length ≤ 50) (h4 : M.ents.length ≤ 50) (hg : ∀ f ∈ M.funcs, goodR f) : M.Wf ∧ M.Fit :=
  ⟨⟨by omega, ⟨by omega, h.globs⟩, ⟨by omega, h.ents⟩, by omega, fun f hf => by
    obtain ⟨a, b, _⟩ := h.fns f hf
    have hs := goodR_size (hg f hf)
    obtain ⟨g1, g2, g3, g4⟩ := hg f hf
    exact ⟨a, b, by omega, by omega, by omega, by omega⟩, h.names⟩, ⟨by omega, by omega, by omega, by omega, fun f hf => by
    have hs := goodR_size (hg f hf)
    obtain ⟨g1, g2, g3, g4⟩ := hg f hf
    exact ⟨by omega, by omega, by omega, by omega⟩⟩⟩
theorem treeF_zero (M : Md) (h : (treeF M).1 = 0) : treeF M = (0, -1, -1) := by
  unfold treeF at h ⊢
  split at h
  · rename_i h5; exact absurd h h5
  · rename_i h5
    rw [if_neg h5]
    exact funcsF_none M M.funcs 0 h
theorem ren_low (M : Md) (F : Int → Int) (S' : List (List UInt8)) (h : ∀ f ∈ M.funcs, ∀ x ∈ f.body.flat 0, x.Low) : ∀ f ∈ (renM F S' M).funcs, ∀ x ∈ f.body.flat 0, x.Low := fun f hf => by
  obtain ⟨g, hg, rfl⟩ := List.mem_map.1 hf
  exact h g hg
/-- What the reference's Canon leaves, read. -/
theorem CanPost.read {Sb : Nat → Prop} {w w' : World} {M : Md} {Ae : Option Addr} {ce : Nat} {e : Ending} (h : CanPost Sb w M Ae ce e w') (he : RdS (fun _ => True) w Ae M.ents.length 1 (intV M.ents)) : ∃ A1 c1 A2 c2 A3 c3, e = .returned (.agg #[.slice A1 (canM M).strs.length c1, .slice A2 (canM M).globs.length c2, .slice A3 (canM M).funcs.length c3, .slice Ae (canM M).ents.length ce]) ∧ MdR w' A1 A2 A3 Ae (canM M) ∧ Below w.heap.size w w' := by
  obtain ⟨Al, cl, A2, c2, Ax, cx, rfl, h1, h2, h3, hb⟩ := h
  exact ⟨Al, cl, A2, c2, Ax, cx, rfl, ⟨(RdS.own h1).below (fun _ _ => trivial), (RdS.own h2).below (fun _ _ => trivial), h3.fns, he.old hb (by omega)⟩, hb⟩
set_option maxHeartbeats 4000000 in
theorem canonRaw_walk (M : Md) (As Ag Af Ae : Option Addr) (cs cg cf ce : Nat) (w : World) (hM : M.In2) (h : MdR w As Ag Af Ae M) :
    Calls Try.prog 11 #[.agg #[.slice As M.strs.length cs, .slice Ag M.globs.length cg, .slice Af M.funcs.length cf, .slice Ae M.ents.length ce]] w fun e w' => e = .returned (.bool true) ∧ Below w.heap.size w w' := by
  have HM := Lib.hid h
  have HI := Lib.hid hM
  have HF0 := Lib.hid h.funcs
  obtain ⟨ns, hns⟩ : ∃ n, n = M.strs.length := ⟨_, rfl⟩
  obtain ⟨ng, hng⟩ : ∃ n, n = M.globs.length := ⟨_, rfl⟩
  obtain ⟨nf, hnf⟩ : ∃ n, n = M.funcs.length := ⟨_, rfl⟩
  obtain ⟨ne, hne⟩ : ∃ n, n = M.ents.length := ⟨_, rfl⟩
  have HNs := Lib.hid hns
  have HNg := Lib.hid hng
  have HNf := Lib.hid hnf
  have HNe := Lib.hid hne
  rw [← hns, ← hng, ← hnf, ← hne]
  clear hns hng hnf hne h hM
  have HB0 : Hid (Below w.heap.size w (w.alloc (.cells #[.slice As ns cs, .slice Ag ng cg, .slice Af nf cf, .slice Ae ne ce] 30))) := (Below.refl _ _).alloc (Nat.le_refl _) _
  have KM : Hid (Blk (w.alloc (.cells #[.slice As ns cs, .slice Ag ng cg, .slice Af nf cf, .slice Ae ne ce] 30)) w.heap.size 30 #[.slice As ns cs, .slice Ag ng cg, .slice Af nf cf, .slice Ae ne ce]) := Blk.new w 30 _
  go_enter Try.func11, Try.ntmps11
  go_wp2_with fail
  generalize w.alloc (.cells #[.slice As ns cs, .slice Ag ng cg, .slice Af nf cf, .slice Ae ne ce] 30) = W0 at *
  refine (awk_any _).mono ?_
  rintro e w1 ⟨rfl, hb1⟩
  have zz : w.heap.size < W0.heap.size := KM.out.lt
  have HB1 : Hid (Below w.heap.size w w1) := HB0.out.trans (hb1.mono (by omega))
  have K1 := Lib.hid (KM.out.old hb1)
  clear hb1 zz HB0 KM
  have HAw := fun wx => awk_any wx
  by_cases c1 : ns ≤ 60
  rotate_left
  · obtain ⟨m0, m1, m2, m3⟩ := K1.out.c4
    have l1 : 60 < (ns : Int) := by omega
    go_wp2_with fail
    refine (HAw _).mono ?_
    rintro e w2 ⟨rfl, hb2⟩
    go_wp2
    go_ret
    exact ⟨rfl, HB1.out.trans (hb2.mono (by have := K1.out.lt; omega))⟩
  by_cases c2 : ng ≤ 60
  rotate_left
  · obtain ⟨m0, m1, m2, m3⟩ := K1.out.c4
    have l1 : ¬ 60 < (ns : Int) := by omega
    have l2 : 60 < (ng : Int) := by omega
    go_wp2_with fail
    refine (HAw _).mono ?_
    rintro e w2 ⟨rfl, hb2⟩
    go_wp2
    go_ret
    exact ⟨rfl, HB1.out.trans (hb2.mono (by have := K1.out.lt; omega))⟩
  by_cases c3 : nf ≤ 50
  rotate_left
  · obtain ⟨m0, m1, m2, m3⟩ := K1.out.c4
    have l1 : ¬ 60 < (ns : Int) := by omega
    have l2 : ¬ 60 < (ng : Int) := by omega
    have l3 : 50 < (nf : Int) := by omega
    go_wp2_with fail
    refine (HAw _).mono ?_
    rintro e w2 ⟨rfl, hb2⟩
    go_wp2
    go_ret
    exact ⟨rfl, HB1.out.trans (hb2.mono (by have := K1.out.lt; omega))⟩
  by_cases c4 : ne ≤ 50
  rotate_left
  · obtain ⟨m0, m1, m2, m3⟩ := K1.out.c4
    have l1 : ¬ 60 < (ns : Int) := by omega
    have l2 : ¬ 60 < (ng : Int) := by omega
    have l3 : ¬ 50 < (nf : Int) := by omega
    have l4 : 50 < (ne : Int) := by omega
    go_wp2_with fail
    refine (HAw _).mono ?_
    rintro e w2 ⟨rfl, hb2⟩
    go_wp2
    go_ret
    exact ⟨rfl, HB1.out.trans (hb2.mono (by have := K1.out.lt; omega))⟩
  have z1 := K1.out.lt
  have l1 : ¬ 60 < (ns : Int) := by omega
  have l2 : ¬ 60 < (ng : Int) := by omega
  have l3 : ¬ 50 < (nf : Int) := by omega
  have l4 : ¬ 50 < (ne : Int) := by omega
  obtain ⟨m0, m1, m2, m3⟩ := K1.out.c4
  go_wp2_with fail
  clear m0 m1 m2 m3 HAw l1 l2 l3 l4
  go_loopw [3] (fun s3 wr => ∃ (i : Nat), i ≤ nf ∧ s3 = .int .i64 (i : Int) ∧ Hid (Below w1.heap.size w1 wr) ∧ Hid (∀ j (hj : j < i) (hl : j < M.funcs.length), goodR M.funcs[j])) (fun s3 _ => nf - (intOf s3).toNat)
  case atStart => exact ⟨0, Nat.zero_le _, rfl, Below.refl _ _, fun j hj => by omega⟩
  case round =>
    obtain ⟨i, hi, rfl, hB, hP⟩ := hrel
    have Kr := Lib.hid (K1.out.old hB.out)
    have HBr := Lib.hid (HB1.out.trans (hB.out.mono HB1.out.size))
    obtain ⟨m0, m1, m2, m3⟩ := Kr.out.c4
    have zr : w.heap.size < wr.heap.size := Kr.out.lt
    by_cases hlt : i < nf
    · have hli : (i : Int) < (nf : Int) := by omega
      have hlm : i < M.funcs.length := by rw [← HNf.out]; exact hlt
      obtain ⟨b, o, A1, a1, A2, a2, A3, a3, rfl, hbl, ⟨f0, f1, f2, f3, f4⟩, _, _, hbody⟩ := HF0.out.at_ (HBr.out) i hlm
      have HGd : Hid (goodR M.funcs[i] ↔ M.funcs[i].locals.length ≤ 60 ∧ M.funcs[i].sites.length ≤ 60 ∧ M.funcs[i].body.len ≤ 30 ∧ plB M.funcs[i].body) := Iff.rfl
      generalize M.funcs[i].locals.length = nl at f2 HGd
      generalize M.funcs[i].sites.length = nt at f3 HGd
      generalize M.funcs[i].name = fn at f0
      generalize M.funcs[i].params = fp at f1
      have HGf : Hid (goodR M.funcs[i] ↔ nl ≤ 60 ∧ nt ≤ 60 ∧ M.funcs[i].body.len ≤ 30 ∧ plB M.funcs[i].body) := HGd.out
      generalize M.funcs[i].body = t at hbody f4 HGf HGd
      obtain ⟨nb, hnb⟩ : ∃ n, n = t.len := ⟨_, rfl⟩
      rw [← hnb] at f4
      have HNB := Lib.hid hnb
      have HBd := Lib.hid hbody
      clear hbody HGd hnb
      obtain ⟨w2, hw2⟩ : ∃ w2, w2 = wr.alloc (.cells #[.int .i64 fn, .int .i64 fp, .slice A1 nl a1, .slice A2 nt a2, .slice A3 nb a3] 40) := ⟨_, rfl⟩
      have hb2 : Below wr.heap.size wr w2 := by rw [hw2]; exact (Below.refl _ _).alloc (Nat.le_refl _) _
      have HB2 := Lib.hid (hB.out.trans (hb2.mono hB.out.size))
      have HBd2 := Lib.hid (HBd.out.old hb2)
      have KB : Hid (Blk w2 wr.heap.size 40 #[.int .i64 fn, .int .i64 fp, .slice A1 nl a1, .slice A2 nt a2, .slice A3 nb a3]) := by rw [hw2]; exact Blk.new wr 40 _
      go_upto_region 7 with (fail)
      rw [← hw2]
      obtain ⟨g, hg⟩ : ∃ g, g = wr.heap.size := ⟨_, rfl⟩
      rw [← hg] at KB
      try simp only [← hg]
      clear hw2 hg hb2 f0 f1 f2 f3 f4 hbl m0 m1 m2 m3 zr HBd HBr Kr hB
      obtain ⟨n0, n1, n2, n3, n4⟩ := KB.out.c5
      have zg : g < w2.heap.size := KB.out.lt
      by_cases d1 : nl ≤ 60
      rotate_left
      · have e1 : 60 < (nl : Int) := by omega
        go_wp2
        go_ret
        exact ⟨rfl, HB1.out.trans (HB2.out.mono HB1.out.size)⟩
      by_cases d2 : nt ≤ 60
      rotate_left
      · have e1 : ¬ 60 < (nl : Int) := by omega
        have e2 : 60 < (nt : Int) := by omega
        go_wp2
        go_ret
        exact ⟨rfl, HB1.out.trans (HB2.out.mono HB1.out.size)⟩
      by_cases d3 : nb ≤ 30
      rotate_left
      · have e1 : ¬ 60 < (nl : Int) := by omega
        have e2 : ¬ 60 < (nt : Int) := by omega
        have e3 : 30 < (nb : Int) := by omega
        go_wp2
        go_ret
        exact ⟨rfl, HB1.out.trans (HB2.out.mono HB1.out.size)⟩
      have e1 : ¬ 60 < (nl : Int) := by omega
      have e2 : ¬ 60 < (nt : Int) := by omega
      have e3 : ¬ 30 < (nb : Int) := by omega
      go_wp2_with fail
      clear e1 e2 e3 n0 n1 n2 n3 n4 zg
      go_loopw [5] (fun s5 wr => ∃ (k : Nat), k ≤ nb ∧ s5 = .int .i64 (k : Int) ∧ Hid (Below w2.heap.size w2 wr) ∧ Hid (∀ j, j < k → ∀ q a1 a2 b1 b2 xs sub rest, t.drop j = .cons q a1 a2 b1 b2 xs sub rest → sub.len = 0 ∧ xs.length = 0 ∧ a1 ≤ 4 ∧ b1 ≤ 4)) (fun s5 _ => nb - (intOf s5).toNat)
      case atStart => exact ⟨0, Nat.zero_le _, rfl, Below.refl _ _, fun j hj => by omega⟩
      case round =>
        obtain ⟨k, hk, rfl, hB, hQ⟩ := hrel
        have KBr := Lib.hid (KB.out.old hB.out)
        have HBz := Lib.hid (HB2.out.trans (hB.out.mono HB2.out.size))
        obtain ⟨n0, n1, n2, n3, n4⟩ := KBr.out.c5
        have zg : g < wr.heap.size := KBr.out.lt
        by_cases hlk : k < nb
        · have hlki : (k : Int) < (nb : Int) := by omega
          have hkt : k < t.len := by rw [← HNB.out]; exact hlk
          obtain ⟨b9, o9, rfl, hbt⟩ := HBd2.out.old hB.out (by omega)
          have hbk := BdAt.drop t b9 o9 k hbt
          obtain ⟨q, x1, x2, y1, y2, xs, sub, rest, hd⟩ := Bd.drop_cons t k hkt
          rw [hd] at hbk
          obtain ⟨⟨s0, s1, s2, s3, s4⟩, ⟨va, s5, A9, c9, rfl, _⟩, ⟨A8, c8, s6, _⟩, _⟩ := hbk
          have hb9 : b9 < wr.heap.size := World.block_lt_of_cell? wr ⟨b9, o9 + k * 7, none⟩ s0
          have HD : Hid (t.drop k = .cons q x1 x2 y1 y2 xs sub rest) := hd
          obtain ⟨nx, hnx⟩ : ∃ n, n = xs.length := ⟨_, rfl⟩
          obtain ⟨nu, hnu⟩ : ∃ n, n = sub.len := ⟨_, rfl⟩
          rw [← hnx] at s5
          rw [← hnu] at s6
          have HNX : Hid (nx = xs.length ∧ nu = sub.len) := ⟨hnx, hnu⟩
          clear hnx hnu hd hbt
          obtain ⟨w3, hw3⟩ : ∃ w3, w3 = wr.alloc (.cells #[.int .u8 q, .int .u8 x1, .int .i64 x2, .int .u8 y1, .int .i64 y2, .slice A9 nx c9, .slice A8 nu c8] 50) := ⟨_, rfl⟩
          have hb3 : Below wr.heap.size wr w3 := by rw [hw3]; exact (Below.refl _ _).alloc (Nat.le_refl _) _
          have HB3 := Lib.hid (hB.out.trans (hb3.mono hB.out.size))
          have HBx := Lib.hid (HB2.out.trans (HB3.out.mono HB2.out.size))
          have KS : Hid (Blk w3 wr.heap.size 50 #[.int .u8 q, .int .u8 x1, .int .i64 x2, .int .u8 y1, .int .i64 y2, .slice A9 nx c9, .slice A8 nu c8]) := by rw [hw3]; exact Blk.new wr 50 _
          go_upto_region 13 with (fail)
          rw [← hw3]
          obtain ⟨gs, hgs⟩ : ∃ g, g = wr.heap.size := ⟨_, rfl⟩
          rw [← hgs] at KS
          try simp only [← hgs]
          clear hw3 hgs hb3 s0 s1 s2 s3 s4 s5 s6 hb9 n0 n1 n2 n3 n4 zg hB HBz KBr
          obtain ⟨p0, p1, p2, p3, p4, p5, p6⟩ := KS.out.c7
          have zs : gs < w3.heap.size := KS.out.lt
          by_cases v1 : 0 < nu
          · have e1 : 0 < (nu : Int) := by omega
            go_wp2
            go_ret
            exact ⟨rfl, HB1.out.trans (HBx.out.mono HB1.out.size)⟩
          by_cases v2 : 0 < nx
          · have e1 : ¬ 0 < (nu : Int) := by omega
            have e2 : 0 < (nx : Int) := by omega
            go_wp2
            go_ret
            exact ⟨rfl, HB1.out.trans (HBx.out.mono HB1.out.size)⟩
          by_cases v3 : 4 < x1
          · have e1 : ¬ 0 < (nu : Int) := by omega
            have e2 : ¬ 0 < (nx : Int) := by omega
            go_wp2
            go_ret
            exact ⟨rfl, HB1.out.trans (HBx.out.mono HB1.out.size)⟩
          by_cases v4 : 4 < y1
          · have e1 : ¬ 0 < (nu : Int) := by omega
            have e2 : ¬ 0 < (nx : Int) := by omega
            go_wp2
            go_ret
            exact ⟨rfl, HB1.out.trans (HBx.out.mono HB1.out.size)⟩
          have HQ2 : Hid (∀ j, j < k + 1 → ∀ q a1 a2 b1 b2 xs sub rest, t.drop j = .cons q a1 a2 b1 b2 xs sub rest → sub.len = 0 ∧ xs.length = 0 ∧ a1 ≤ 4 ∧ b1 ≤ 4) := fun j hj q' a1' a2' b1' b2' xs' sub' rest' e => by
            by_cases hjk : j < k
            · exact hQ.out j hjk _ _ _ _ _ _ _ _ e
            · obtain rfl : j = k := by omega
              have h9 := HD.out.symm.trans e
              injection h9 with h91 h92 h93 h94 h95 h96 h97 h98
              subst h92 h94 h96 h97
              have := HNX.out
              omega
          have e1 : ¬ 0 < (nu : Int) := by omega
          have e2 : ¬ 0 < (nx : Int) := by omega
          clear HD HNX hQ
          go_wp2
          go_roundw
          case rel => exact ⟨k + 1, by omega, by go_num, HB3, HQ2⟩
          case measure => simp [intOf]; omega
        · obtain rfl : k = nb := by omega
          have HP2 : Hid (∀ j (hj : j < i + 1) (hl : j < M.funcs.length), goodR M.funcs[j]) := fun j hj hl => by
            by_cases hji : j < i
            · exact hP.out j hji hl
            · obtain rfl : j = i := by omega
              exact HGf.out.2 ⟨d1, d2, by have := HNB.out; omega, plB_of t (fun j hj => hQ.out j (by have := HNB.out; omega))⟩
          clear HGf hQ hP
          go_wp2
          go_roundw
          case rel => exact ⟨i + 1, by omega, by go_num, HBz, HP2⟩
          case measure => simp [intOf]; omega
    · obtain rfl : i = nf := by omega
      have hgood : ∀ f ∈ M.funcs, goodR f := fun f hf => by
        obtain ⟨j, hj, rfl⟩ := List.getElem_of_mem hf
        exact hP.out j (by have := HNf.out; omega) hj
      obtain ⟨hwf, hfit⟩ := HI.out.wf (by have := HNs.out; omega) (by have := HNg.out; omega) (by have := HNf.out; omega) (by have := HNe.out; omega) hgood
      have hlow : ∀ f ∈ M.funcs, ∀ x ∈ f.body.flat 0, x.Low := fun f hf => plB_low _ (hgood f hf).2.2.2 (HI.out.fns f hf).2.2
      have hsz : ∀ f ∈ M.funcs, f.body.size ≤ 1000 ∧ f.body.wide ≤ 1000 := fun f hf => by have := goodR_size (hgood f hf); omega
      have hMR := fun wx (hx : Below w.heap.size w wx) => HM.out.old hx
      have HRt : Hid (∀ wx, Below w.heap.size w wx → Calls Try.prog 21 #[.agg #[.slice As ns cs, .slice Ag ng cg, .slice Af i cf, .slice Ae ne ce]] wx (TriB wx (treeF M))) := fun wx hx => by
        rw [HNs.out, HNg.out, HNf.out, HNe.out]; exact rtree_any M As Ag Af Ae cs cg cf ce wx hwf (hMR wx hx) hlow
      go_wp2_with fail
      refine (HRt.out _ (HB1.out.trans (hB.out.mono HB1.out.size))).mono ?_
      rintro e w2 ⟨rfl, hb2⟩
      have HB2 : Hid (Below w.heap.size w w2) := (HB1.out.trans (hB.out.mono HB1.out.size)).trans (hb2.mono (by omega))
      have K2 := Lib.hid (Kr.out.old hb2)
      clear hb2 m0 m1 m2 m3 zr HB1 K1 hB Kr HBr HRt z1
      dsimp only
      obtain ⟨m0, m1, m2, m3⟩ := K2.out.c4
      have z1 : w.heap.size < w2.heap.size := K2.out.lt
      by_cases hT : (treeF M).1 = 0
      · have hTe := treeF_zero M hT
        have hG : Good M := ⟨hwf, hfit, hsz, hTe⟩
        rw [hTe]
        dsimp only
        have hr0 := hG.names
        have hto := tree_ok M hTe
        have hOk : M.Ok := ⟨by have := HNs.out; omega, ⟨by have := HNg.out; omega, fun n hn => hr0 n (used_glob hn)⟩, by have := HNf.out; omega, fun f hf => ⟨hr0 _ (used_fn hf (by simp)), ⟨by have := (hgood f hf).1; omega, fun n hn => hr0 n (used_fn hf (by simp [hn]))⟩, ⟨by have := (hgood f hf).2.1; omega, fun n hn => hr0 n (used_fn hf (by simp [hn]))⟩⟩⟩
        have hlC : ∀ f ∈ (canM M).funcs, ∀ x ∈ f.body.flat 0, x.Low := by rw [can_is_ren M hr0]; exact ren_low M _ _ hlow
        have hOf := fun wx (hx : Below w.heap.size w wx) => (hG.of As Ag Af Ae cs cg cf ce wx (hMR wx hx)).mono fun e w' h => h.letters rfl
        have hRc := fun wx Bs Bg Bf Be ds dg df de (h : MdR wx Bs Bg Bf Be (canM M)) => rcheck_any (canM M) Bs Bg Bf Be ds dg df de wx hG.can.wf h hlC
        have hCn := fun wx (hx : Below w.heap.size w wx) => (canon_any (fun _ => True) As Ag Af Ae cs cg cf ce M wx hOk (hMR wx hx).strs (hMR wx hx).globs (hMR wx hx).funcs).mono fun e w' h => h.read (hMR wx hx).ents
        have hSm := fun wx Bs Bg Bf Be ds dg df de Cs Cg Cf Ce d1 d2 d3 d4 (h1 : MdR wx Bs Bg Bf Be (canM M)) (h2 : MdR wx Cs Cg Cf Ce (canM M)) => same_any (canM M) (canM M) Bs Bg Bf Be Cs Cg Cf Ce ds dg df de d1 d2 d3 d4 wx hG.can.fit hG.can.fit h1 h2
        rw [can_check M hTe] at hRc
        unfold TriB at hRc
        dsimp only at hRc
        rw [mdSame_refl] at hSm
        rw [← HNs.out, ← HNg.out, ← HNf.out, ← HNe.out] at hOf hCn
        clear hto hOk hlC hgood hwf hfit hlow hsz hMR hP HM HI HF0 HNs HNg HNf HNe hG hTe hT hr0
        generalize canM M = C at *
        obtain ⟨l1, hl1⟩ : ∃ n, n = C.strs.length := ⟨_, rfl⟩
        obtain ⟨l2, hl2⟩ : ∃ n, n = C.globs.length := ⟨_, rfl⟩
        obtain ⟨l3, hl3⟩ : ∃ n, n = C.funcs.length := ⟨_, rfl⟩
        obtain ⟨l4, hl4⟩ : ∃ n, n = C.ents.length := ⟨_, rfl⟩
        simp only [← hl1, ← hl2, ← hl3, ← hl4] at hOf hRc hCn hSm
        clear hl1 hl2 hl3 hl4
        have HOf := Lib.hid hOf
        have HRc := Lib.hid hRc
        have HCn := Lib.hid hCn
        have HSm := Lib.hid hSm
        clear hOf hRc hCn hSm
        go_wp2_with fail
        refine (HOf.out _ HB2.out).mono ?_
        rintro e w3 ⟨B1, b1, B2, b2, B3, b3, B4, b4, rfl, hR3, _, hb3⟩
        have HB3 := Lib.hid (HB2.out.trans (hb3.mono HB2.out.size))
        have K3 := K2.out.old hb3
        dsimp only
        clear HOf m0 m1 m2 m3 hb3 HB2 K2 z1
        obtain ⟨w4, hw4⟩ : ∃ w4, w4 = (w3.alloc (.cells #[.slice B1 l1 b1, .slice B2 l2 b2, .slice B3 l3 b3, .slice B4 l4 b4] 30)).alloc (.cells #[.int .i64 0, .int .i64 0, .int .i64 0, .int .i64 0, .int .i64 0, .int .i64 (-1), .int .i64 (-1)] 35) := ⟨_, rfl⟩
        have hb4 : Below w3.heap.size w3 w4 := by rw [hw4]; exact ((Below.refl _ _).alloc (Nat.le_refl _) _).alloc (by simp) _
        have HB4 := Lib.hid (HB3.out.trans (hb4.mono HB3.out.size))
        have K4 := Lib.hid (K3.old hb4)
        have HR4 := Lib.hid (hR3.old hb4)
        have KX : Hid (Blk w4 w3.heap.size 30 #[.slice B1 l1 b1, .slice B2 l2 b2, .slice B3 l3 b3, .slice B4 l4 b4]) := by rw [hw4]; exact (Blk.new w3 30 _).alloc _
        have KE : Hid (Blk w4 (w3.heap.size + 1) 35 #[.int .i64 0, .int .i64 0, .int .i64 0, .int .i64 0, .int .i64 0, .int .i64 (-1), .int .i64 (-1)]) := by rw [hw4]; exact Blk.new' _ 35 _ _ (by simp)
        go_upto_region 17 with (fail)
        rw [← hw4]
        obtain ⟨gx, hgx⟩ : ∃ g, g = w3.heap.size := ⟨_, rfl⟩
        rw [← hgx] at KX KE
        try simp only [← hgx]
        clear hw4 hgx hb4 HB3 K3 hR3
        obtain ⟨m0, m1, m2, m3⟩ := KX.out.c4
        have z1 : gx < w4.heap.size := KX.out.lt
        have hrc := HRc.out w4 B1 B2 B3 B4 b1 b2 b3 b4 HR4.out
        have HRC := Lib.hid hrc
        clear hrc HRc
        go_wp2_with fail
        refine (HRC.out).mono ?_
        rintro e w5 ⟨rfl, hb5⟩
        have HB5 := Lib.hid (HB4.out.trans (hb5.mono HB4.out.size))
        have K5 := Lib.hid (K4.out.old hb5)
        have KX5 := Lib.hid (KX.out.old hb5)
        have KE5 := Lib.hid (KE.out.old hb5)
        have HR5 := Lib.hid (HR4.out.old hb5)
        dsimp only
        clear hb5 HRC m0 m1 m2 m3 z1 HB4 K4 KX KE HR4
        go_upto_region 20 with (fail)
        obtain ⟨e0, e1, e2, e3, e4, e5, e6⟩ := KE5.out.c7
        have z2 : gx + 1 < w5.heap.size := KE5.out.lt
        obtain ⟨m0, m1, m2, m3⟩ := KX5.out.c4
        have z1 : gx < w5.heap.size := KX5.out.lt
        obtain ⟨k0, k1, k2, k3⟩ := K5.out.c4
        have z3 : w.heap.size < w5.heap.size := K5.out.lt
        have hc5 := HCn.out w5.drew (HB5.out.trans (Below.refl _ _).drew)
        have HC5 := Lib.hid hc5
        have HR5d := Lib.hid (HR5.out.old (w' := w5.drew) (Below.refl _ _).drew)
        clear hc5 HCn
        go_region_law (first
          | (go_simp
             go_at_call 29
             refine (HC5.out).mono ?_
             rintro e wa ⟨C1, c1', C2, c2', C3, c3', rfl, hRa, hba⟩
             have HBa := Lib.hid (HB5.out.trans (Below.trans ((Below.refl _ _).drew) (hba.mono HB5.out.size)))
             have KXa := Lib.hid (Blk.old (w := w5.drew) KX5.out hba)
             have hsa := HSm.out wa B1 B2 B3 B4 b1 b2 b3 b4 C1 C2 C3 Ae c1' c2' c3' ce (HR5d.out.old hba) hRa
             have HSa := Lib.hid hsa
             clear hsa hRa hba
             obtain ⟨n0, n1, n2, n3⟩ := KXa.out.c4
             have z4 : gx < wa.heap.size := KXa.out.lt)
          | (go_simp
             go_at_call 28
             refine (HSa.out).mono ?_
             rintro e wb ⟨rfl, hbb⟩))
        all_goals
          try simp only [List.getElem_toArray, List.getElem_cons_succ, List.getElem_cons_zero, Act.put, List.setIfInBounds_toArray, List.set_cons_zero, List.set_cons_succ]
          go_wp2_with fail
          go_ret
          exact ⟨rfl, HBa.out.trans (hbb.mono HBa.out.size)⟩
      · have hpos : 0 < (treeF M).1 := by have := treeF_nn M; omega
        have HOf : Hid (∀ wx, Below w.heap.size w wx → Calls Try.prog 26 #[.agg #[.slice As ns cs, .slice Ag ng cg, .slice Af i cf, .slice Ae ne ce]] wx fun e w' => e = .returned (.tuple #[.agg #[.slice none 0 0, .slice none 0 0, .slice none 0 0, .slice none 0 0], .agg #[.int .i64 8, .int .i64 0, .int .i64 0, .int .i64 0, .int .i64 (treeF M).1, .int .i64 (treeF M).2.1, .int .i64 (treeF M).2.2]]) ∧ Below wx.heap.size wx w') := fun wx hx => by
          rw [HNs.out, HNg.out, HNf.out, HNe.out, ← fault8 _ _ _ hT]; exact of_fault M As Ag Af Ae cs cg cf ce wx hwf hT (hMR wx hx)
        generalize treeF M = u at *
        obtain ⟨u0, u1, u2⟩ := u
        dsimp only at *
        go_wp2_with fail
        refine (HOf.out _ HB2.out).mono ?_
        rintro e w3 ⟨rfl, hb3⟩
        have HB3 := Lib.hid (HB2.out.trans (hb3.mono HB2.out.size))
        dsimp only
        clear HOf hgood hwf hfit hlow hsz hMR hP HM HI HF0 HNs HNg HNf HNe m0 m1 m2 m3 hb3 HB2 K2 z1
        obtain ⟨w4, hw4⟩ : ∃ w4, w4 = (w3.alloc (.cells #[.slice none 0 0, .slice none 0 0, .slice none 0 0, .slice none 0 0] 30)).alloc (.cells #[.int .i64 8, .int .i64 0, .int .i64 0, .int .i64 0, .int .i64 u0, .int .i64 u1, .int .i64 u2] 35) := ⟨_, rfl⟩
        have hb4 : Below w3.heap.size w3 w4 := by rw [hw4]; exact ((Below.refl _ _).alloc (Nat.le_refl _) _).alloc (by simp) _
        have HB4 := Lib.hid (HB3.out.trans (hb4.mono HB3.out.size))
        have KX : Hid (Blk w4 w3.heap.size 30 #[.slice none 0 0, .slice none 0 0, .slice none 0 0, .slice none 0 0]) := by rw [hw4]; exact (Blk.new w3 30 _).alloc _
        have KE : Hid (Blk w4 (w3.heap.size + 1) 35 #[.int .i64 8, .int .i64 0, .int .i64 0, .int .i64 0, .int .i64 u0, .int .i64 u1, .int .i64 u2]) := by rw [hw4]; exact Blk.new' _ 35 _ _ (by simp)
        go_upto_region 17 with (fail)
        rw [← hw4]
        obtain ⟨gx, hgx⟩ : ∃ g, g = w3.heap.size := ⟨_, rfl⟩
        rw [← hgx] at KX KE
        try simp only [← hgx]
        clear hw4 hgx hb4 HB3
        obtain ⟨m0, m1, m2, m3⟩ := KX.out.c4
        have z1 : gx < w4.heap.size := KX.out.lt
        obtain ⟨e0, e1, e2, e3, e4, e5, e6⟩ := KE.out.c7
        have z2 : gx + 1 < w4.heap.size := KE.out.lt
        go_wp2_with fail
        go_ret
        exact ⟨rfl, HB4.out⟩
end Go.Proofs.Ytpdebnecfknohaa
