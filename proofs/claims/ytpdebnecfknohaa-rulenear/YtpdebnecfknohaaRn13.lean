/-
  Parts: Kca Kr Na Nb Nd.
-/
import Derived.Test.YtpdebnecfknohaaRn00
import Derived.Test.YtpdebnecfknohaaRn01
import Derived.Test.YtpdebnecfknohaaRn02
import Derived.Test.YtpdebnecfknohaaRn03
import Derived.Test.YtpdebnecfknohaaRn04
import Derived.Test.YtpdebnecfknohaaRn05
import Derived.Test.YtpdebnecfknohaaRn06
import Derived.Test.YtpdebnecfknohaaRn07
import Derived.Test.YtpdebnecfknohaaRn08
import Derived.Test.YtpdebnecfknohaaRn09
import Derived.Test.YtpdebnecfknohaaRn10
import Derived.Test.YtpdebnecfknohaaRn11
import Derived.Test.YtpdebnecfknohaaRn12
import Derived.Deep.RegionHeld3
import Derived.Deep.RegionLaw
namespace Go.Proofs.Ytpdebnecfknohaa
open Go.RowKit
set_option linter.unusedVariables false
set_option linter.unusedSimpArgs false
set_option maxRecDepth 20000
/-- Is a string not used, or no greater than the one ahead of it? -/
def badF (M : Md) (i : Nat) : Bool := !(usedF M.globs M.funcs (i : Int)) || (decide (0 < i) && !(Op.bytesLess (M.strs.getD (i - 1) []) (M.strs.getD i [])))
theorem used_contains (g : List Int) (L : List Fn) (n : Int) : (usedI g L L.length).contains n = usedF g L n := by
  unfold usedI usedF
  rw [List.take_length]
  apply Bool.eq_iff_iff.2
  rw [List.contains_iff_mem, List.mem_append, Bool.or_eq_true, List.any_eq_true, List.any_eq_true, List.mem_flatten]
  constructor
  · rintro (h | ⟨l, hl, hn⟩)
    · exact .inl ⟨n, h, by simp⟩
    · obtain ⟨f, hf, rfl⟩ := List.mem_map.1 hl
      refine .inr ⟨f, hf, ?_⟩
      simp only [List.mem_cons, List.mem_append] at hn
      simp only [Bool.or_eq_true, List.any_eq_true, beq_iff_eq]
      rcases hn with h | h | h
      · exact .inl (.inl h.symm)
      · exact .inl (.inr ⟨n, h, rfl⟩)
      · exact .inr ⟨n, h, rfl⟩
  · rintro (⟨x, h, hx⟩ | ⟨f, hf, h⟩)
    · obtain rfl : x = n := by simpa using hx
      exact .inl h
    · refine .inr ⟨_, List.mem_map.2 ⟨f, hf, rfl⟩, ?_⟩
      simp only [Bool.or_eq_true, List.any_eq_true, beq_iff_eq] at h
      simp only [List.mem_cons, List.mem_append]
      rcases h with (h | ⟨x, h, rfl⟩) | ⟨x, h, rfl⟩
      · exact .inl h.symm
      · exact .inr (.inl h)
      · exact .inr (.inr h)
theorem chk_bad (M : Md) : (risF M.strs 1 && (markF M.strs.length (usedI M.globs M.funcs M.funcs.length)).all id) = (List.range M.strs.length).all fun i => !badF M i := by
  apply Bool.eq_iff_iff.2
  simp only [Bool.and_eq_true, List.all_eq_true, List.mem_range, risF, markF, List.mem_map, id, badF, used_contains, Bool.not_eq_true', Bool.or_eq_false_iff, Bool.and_eq_false_iff, Bool.not_eq_false', decide_eq_false_iff_not]
  constructor
  · rintro ⟨h1, h2⟩ i hi
    refine ⟨h2 _ ⟨i, hi, rfl⟩, ?_⟩
    by_cases h0 : 0 < i
    · right
      have := h1 (i - 1) (by omega)
      rwa [show 1 + (i - 1) - 1 = i - 1 from by omega, show 1 + (i - 1) = i from by omega] at this
    · exact .inl h0
  · intro h
    refine ⟨fun j hj => ?_, ?_⟩
    · rcases (h (1 + j) (by omega)).2 with h2 | h2
      · omega
      · exact h2
    · rintro _ ⟨i, hi, rfl⟩
      exact (h i hi).1
theorem treeF_nn (M : Md) : 0 ≤ (treeF M).1 := by
  have h1 : 0 ≤ modF M := by
    unfold modF
    repeat' split
    all_goals first | omega | exact nmF_nn _ _ _ | exact entF_nn _ _ _
  have hf : ∀ f : Fn, 0 ≤ funcF M.strs f := fun f => by
    unfold funcF
    repeat' split
    all_goals first | omega | exact nmF_nn _ _ _
  have hs : ∀ (nl ng ns : Nat) (l : List It) (i : Nat), 0 ≤ (stmtsF M.funcs nl ng ns i l).1 := by
    intro nl ng ns l
    induction l with
    | nil => intro i; simp [stmtsF]
    | cons x l ih =>
      intro i
      unfold stmtsF
      split
      · exact stmtF_nn _ _ _ _ _
      · exact ih _
  have h2 : ∀ (L : List Fn) (i : Nat), 0 ≤ (funcsF M i L).1 := by
    intro L
    induction L with
    | nil => intro i; simp [funcsF]
    | cons f L ih =>
      intro i
      unfold funcsF
      split
      · exact hf f
      · split
        · exact hs _ _ _ _ _
        · exact ih _
  unfold treeF
  split
  · exact h1
  · exact h2 _ _
set_option maxHeartbeats 8000000 in
theorem rcheck_any (M : Md) (As Ag Af Ae : Option Addr) (cs cg cf ce : Nat) (w : World) (hM : M.Wf) (h : MdR w As Ag Af Ae M) (hlow : ∀ f ∈ M.funcs, ∀ x ∈ f.body.flat 0, x.Low) :
    Calls Try.prog 22 #[.agg #[.slice As M.strs.length cs, .slice Ag M.globs.length cg, .slice Af M.funcs.length cf, .slice Ae M.ents.length ce]] w (TriB w (checkF M)) := by
  obtain ⟨v, hv⟩ : ∃ v, v = checkF M := ⟨_, rfl⟩
  rw [← hv]
  unfold checkF at hv
  rw [chk_bad] at hv
  have hTr := fun wx (hx : Below w.heap.size w wx) => rtree_any M As Ag Af Ae cs cg cf ce wx hM (h.old hx) hlow
  have hUs := fun (n : Int) wx (hx : Below w.heap.size w wx) => used_any (.slice As M.strs.length cs) (.slice Ae M.ents.length ce) Ag Af cg cf M.globs M.funcs n wx (h.globs.old hx (by omega)) (h.funcs.old hx) hM.globs.1 hM.funcs (fun f hf => ⟨(hM.fns f hf).2.2.1, (hM.fns f hf).2.2.2.1⟩)
  have HS := Lib.hid h.strs
  have hsl := hM.strs
  obtain ⟨ls, hls⟩ : ∃ n, n = M.strs.length := ⟨_, rfl⟩
  obtain ⟨ng, hng⟩ : ∃ n, n = M.globs.length := ⟨_, rfl⟩
  obtain ⟨nf, hnf⟩ : ∃ n, n = M.funcs.length := ⟨_, rfl⟩
  obtain ⟨ne, hne⟩ : ∃ n, n = M.ents.length := ⟨_, rfl⟩
  have HLS := Lib.hid hls
  rw [← hls] at hv hsl
  rw [← hls, ← hng, ← hnf, ← hne] at hTr hUs ⊢
  have hp := treeF_nn M
  generalize treeF M = T at *
  obtain ⟨r, f, s⟩ := T
  have HV := Lib.hid hv
  have HTr := Lib.hid hTr
  have HUs := Lib.hid hUs
  clear hv hTr hUs hls hng hnf hne h hM hlow
  obtain ⟨w1, hw1⟩ : ∃ w1, w1 = w.alloc (.cells #[.slice As ls cs, .slice Ag ng cg, .slice Af nf cf, .slice Ae ne ce] 30) := ⟨_, rfl⟩
  have HB1 : Hid (Below w.heap.size w w1) := by rw [hw1]; exact (Below.refl _ _).alloc (Nat.le_refl _) _
  have K1 : Hid (Blk w1 w.heap.size 30 #[.slice As ls cs, .slice Ag ng cg, .slice Af nf cf, .slice Ae ne ce]) := by rw [hw1]; exact Blk.new w 30 _
  go_enter Try.func22, Try.ntmps22
  go_upto_region 1 with (fail)
  rw [← hw1]
  clear hw1
  obtain ⟨m0, m1, m2, m3⟩ := K1.out.c4
  have z1 : w.heap.size < w1.heap.size := K1.out.lt
  go_wp2_with fail
  refine (HTr.out _ HB1.out).mono ?_
  rintro e w2 ⟨rfl, hb2⟩
  have HB2 := Lib.hid (HB1.out.trans (hb2.mono HB1.out.size))
  have K2 := Lib.hid (K1.out.old hb2)
  clear hb2 m0 m1 m2 m3 z1 HTr
  dsimp only at hp ⊢
  by_cases hr : r = 0
  · subst hr
    have hv2 := HV.out
    rw [if_neg (by simp)] at hv2
    have HV2 := Lib.hid hv2
    clear hv2 HV hp
    obtain ⟨m0, m1, m2, m3⟩ := K2.out.c4
    have z1 : w.heap.size < w2.heap.size := K2.out.lt
    go_upto_region 4 with (fail)
    clear m0 m1 m2 m3 z1
    go_wp2_with fail
    go_loopw [8] (fun sl wr => ∃ (i : Nat), i ≤ ls ∧ sl = .int .i64 (i : Int) ∧ Hid (∀ k, k < i → badF M k = false) ∧ Hid (Below w.heap.size w wr) ∧ Hid (Blk wr w.heap.size 30 #[.slice As ls cs, .slice Ag ng cg, .slice Af nf cf, .slice Ae ne ce])) (fun sl _ => ls - (intOf sl).toNat)
    case atStart => exact ⟨0, Nat.zero_le _, rfl, fun k hk => absurd hk (Nat.not_lt_zero _), HB2, K2⟩
    case round =>
      clear HB2 K2
      obtain ⟨i, hi, rfl, hE, hB, hK⟩ := hrel
      obtain ⟨m0, m1, m2, m3⟩ := hK.out.c4
      have z1 : w.heap.size < wr.heap.size := hK.out.lt
      by_cases hlt : i < ls
      · have hli : (i : Int) < (ls : Int) := by omega
        have hil : i < M.strs.length := by rw [← HLS.out]; exact hlt
        have hUd := HUs.out (i : Int) wr.drew hB.out.drew
        have hUd0 := HUs.out (i : Int) wr hB.out
        obtain ⟨bu, hbu⟩ : ∃ b, b = usedF M.globs M.funcs (i : Int) := ⟨_, rfl⟩
        rw [← hbu] at hUd hUd0
        have HUd := Lib.hid hUd
        have HUd0 := Lib.hid hUd0
        obtain ⟨b, o, rfl, _, hc⟩ := HS.out.2 (by omega)
        have HcS : Hid (∀ k x, M.strs[k]? = some x → w.cell? ⟨b, o + k, none⟩ = some (.string (bs x))) := fun k x hk => hc k _ (by simp [strV, hk])
        have hbl : b < w.heap.size := World.block_lt_of_cell? w _ (HcS.out i _ (List.getElem?_eq_getElem hil))
        obtain ⟨bd, hbd⟩ : ∃ b, b = badF M i := ⟨_, rfl⟩
        have HBd := Lib.hid hbd
        have HBu := Lib.hid hbu
        clear hc hUd hUd0 hbd hbu
        go_upto_region 7 with (fail)
        go_cut [48] (fun s48 wx => s48 = .bool bd ∧ Hid (Below w.heap.size w wx) ∧ Hid (Blk wx w.heap.size 30 #[.slice (some ⟨b, o, none⟩) ls cs, .slice Ag ng cg, .slice Af nf cf, .slice Ae ne ce]))
        case first =>
          cases bu with
          | false =>
            obtain rfl : bd = true := by rw [HBd.out, badF, ← HBu.out]; rfl
            refine wp_region_held_drew (S := (fun W => Blk W w.heap.size 30 #[.slice (some ⟨b, o, none⟩) ls cs, .slice Ag ng cg, .slice Af nf cf, .slice Ae ne ce])) (by kernel_rfl) hK.out.drew (fun hHeld => ?_)
            try simp only [Act.put, List.setIfInBounds_toArray, List.set_cons_zero, List.set_cons_succ]
            refine wpAnyH_take (i := 0) (oi := ⟨_, _, _, _, _, _⟩) (v := ?_) rfl (by kernel_rfl) (by kernel_rfl) (by kernel_rfl) (fun _ _ _ h => h) (Or.inl ⟨by rfl, ?_⟩) (by assumption) ?_
            rotate_left
            · (intro W hSW; (try dsimp only at hSW); obtain ⟨p0, p1, p2, p3⟩ := Blk.c4 hSW; have zz := Blk.lt hSW; go_simp; first | done | with_reducible rfl)
            try simp only [Act.put, List.setIfInBounds_toArray, List.set_cons_zero, List.set_cons_succ]
            refine wpAnyH_take (i := 1) (oi := ⟨_, _, _, _, _, _⟩) (v := ?_) rfl (by kernel_rfl) (by kernel_rfl) (by kernel_rfl) (fun _ _ _ h => h) (Or.inl ⟨by rfl, ?_⟩) (by assumption) ?_
            rotate_left
            · (intro W hSW; (try dsimp only at hSW); obtain ⟨p0, p1, p2, p3⟩ := Blk.c4 hSW; have zz := Blk.lt hSW; go_simp; first | done | with_reducible rfl)
            try simp only [Act.put, List.setIfInBounds_toArray, List.set_cons_zero, List.set_cons_succ]
            refine wpAnyH_ready (rs := [2]) (by kernel_rfl) (by simp) ?_
            refine AllReadyH.cons (o := ⟨_, _, _, _, _, _⟩) rfl (fun KQ hKQ => ?_) AllReadyH.nil
            go_simp
            go_at_call 44
            refine HUd.out.mono ?_
            rintro e w5 ⟨rfl, hb5⟩
            have HB5 := Lib.hid (hB.out.drew.trans (hb5.mono hB.out.drew.size))
            have KK5 := Lib.hid (hK.out.drew.old hb5)
            refine hKQ.out _ _ KK5.out (fun _ => ?_)
            clear hKQ KQ hb5
            try simp only [Act.put, List.setIfInBounds_toArray, List.set_cons_zero, List.set_cons_succ]
            refine wpAnyH_take (i := 3) (oi := ⟨_, _, _, _, _, _⟩) (v := ?_) rfl (by kernel_rfl) (by kernel_rfl) (by kernel_rfl) (fun _ _ _ h => h) (Or.inl ⟨by rfl, ?_⟩) (by assumption) ?_
            rotate_left
            · (intro W hSW; (try dsimp only at hSW); obtain ⟨p0, p1, p2, p3⟩ := Blk.c4 hSW; have zz := Blk.lt hSW; go_simp; first | done | with_reducible rfl)
            try simp only [Act.put, List.setIfInBounds_toArray, List.set_cons_zero, List.set_cons_succ]
            refine wpAnyH_take (i := 4) (oi := ⟨_, _, _, _, _, _⟩) (v := ?_) rfl (by kernel_rfl) (by kernel_rfl) (by kernel_rfl) (fun _ _ _ h => h) (Or.inl ⟨by rfl, ?_⟩) (by assumption) ?_
            rotate_left
            · (intro W hSW; (try dsimp only at hSW); obtain ⟨p0, p1, p2, p3⟩ := Blk.c4 hSW; have zz := Blk.lt hSW; go_simp; first | done | with_reducible rfl)
            try simp only [Act.put, List.setIfInBounds_toArray, List.set_cons_zero, List.set_cons_succ]
            refine wpAnyH_take (i := 5) (oi := ⟨_, _, _, _, _, _⟩) (v := undef) rfl (by kernel_rfl) (by kernel_rfl) (by kernel_rfl) (fun _ _ _ h => h) (Or.inr ⟨by rfl, rfl⟩) (by assumption) ?_
            try simp only [Act.put, List.setIfInBounds_toArray, List.set_cons_zero, List.set_cons_succ]
            refine wpAnyH_take (i := 6) (oi := ⟨_, _, _, _, _, _⟩) (v := undef) rfl (by kernel_rfl) (by kernel_rfl) (by kernel_rfl) (fun _ _ _ h => h) (Or.inr ⟨by rfl, rfl⟩) (by assumption) ?_
            try simp only [Act.put, List.setIfInBounds_toArray, List.set_cons_zero, List.set_cons_succ]
            refine wpAnyH_take (i := 7) (oi := ⟨_, _, _, _, _, _⟩) (v := undef) rfl (by kernel_rfl) (by kernel_rfl) (by kernel_rfl) (fun _ _ _ h => h) (Or.inr ⟨by rfl, rfl⟩) (by assumption) ?_
            try simp only [Act.put, List.setIfInBounds_toArray, List.set_cons_zero, List.set_cons_succ]
            refine wpAnyH_take (i := 8) (oi := ⟨_, _, _, _, _, _⟩) (v := undef) rfl (by kernel_rfl) (by kernel_rfl) (by kernel_rfl) (fun _ _ _ h => h) (Or.inr ⟨by rfl, rfl⟩) (by assumption) ?_
            try simp only [Act.put, List.setIfInBounds_toArray, List.set_cons_zero, List.set_cons_succ]
            refine wpAnyH_take (i := 9) (oi := ⟨_, _, _, _, _, _⟩) (v := undef) rfl (by kernel_rfl) (by kernel_rfl) (by kernel_rfl) (fun _ _ _ h => h) (Or.inr ⟨by rfl, rfl⟩) (by assumption) ?_
            try simp only [Act.put, List.setIfInBounds_toArray, List.set_cons_zero, List.set_cons_succ]
            refine wpAnyH_take (i := 10) (oi := ⟨_, _, _, _, _, _⟩) (v := undef) rfl (by kernel_rfl) (by kernel_rfl) (by kernel_rfl) (fun _ _ _ h => h) (Or.inr ⟨by rfl, rfl⟩) (by assumption) ?_
            try simp only [Act.put, List.setIfInBounds_toArray, List.set_cons_zero, List.set_cons_succ]
            refine wpAnyH_take (i := 11) (oi := ⟨_, _, _, _, _, _⟩) (v := undef) rfl (by kernel_rfl) (by kernel_rfl) (by kernel_rfl) (fun _ _ _ h => h) (Or.inr ⟨by rfl, rfl⟩) (by assumption) ?_
            try simp only [Act.put, List.setIfInBounds_toArray, List.set_cons_zero, List.set_cons_succ]
            refine wpAnyH_take (i := 12) (oi := ⟨_, _, _, _, _, _⟩) (v := undef) rfl (by kernel_rfl) (by kernel_rfl) (by kernel_rfl) (fun _ _ _ h => h) (Or.inr ⟨by rfl, rfl⟩) (by assumption) ?_
            try simp only [Act.put, List.setIfInBounds_toArray, List.set_cons_zero, List.set_cons_succ]
            refine wpAnyH_take (i := 13) (oi := ⟨_, _, _, _, _, _⟩) (v := undef) rfl (by kernel_rfl) (by kernel_rfl) (by kernel_rfl) (fun _ _ _ h => h) (Or.inr ⟨by rfl, rfl⟩) (by assumption) ?_
            try simp only [Act.put, List.setIfInBounds_toArray, List.set_cons_zero, List.set_cons_succ]
            refine wpAnyH_take (i := 14) (oi := ⟨_, _, _, _, _, _⟩) (v := undef) rfl (by kernel_rfl) (by kernel_rfl) (by kernel_rfl) (fun _ _ _ h => h) (Or.inr ⟨by rfl, rfl⟩) (by assumption) ?_
            try simp only [Act.put, List.setIfInBounds_toArray, List.set_cons_zero, List.set_cons_succ]
            refine wpAnyH_take (i := 15) (oi := ⟨_, _, _, _, _, _⟩) (v := undef) rfl (by kernel_rfl) (by kernel_rfl) (by kernel_rfl) (fun _ _ _ h => h) (Or.inr ⟨by rfl, rfl⟩) (by assumption) ?_
            try simp only [Act.put, List.setIfInBounds_toArray, List.set_cons_zero, List.set_cons_succ]
            refine wpAnyH_take (i := 16) (oi := ⟨_, _, _, _, _, _⟩) (v := undef) rfl (by kernel_rfl) (by kernel_rfl) (by kernel_rfl) (fun _ _ _ h => h) (Or.inr ⟨by rfl, rfl⟩) (by assumption) ?_
            try simp only [Act.put, List.setIfInBounds_toArray, List.set_cons_zero, List.set_cons_succ]
            refine wpAnyH_take (i := 17) (oi := ⟨_, _, _, _, _, _⟩) (v := undef) rfl (by kernel_rfl) (by kernel_rfl) (by kernel_rfl) (fun _ _ _ h => h) (Or.inr ⟨by rfl, rfl⟩) (by assumption) ?_
            try simp only [Act.put, List.setIfInBounds_toArray, List.set_cons_zero, List.set_cons_succ]
            refine wpAnyH_take (i := 18) (oi := ⟨_, _, _, _, _, _⟩) (v := undef) rfl (by kernel_rfl) (by kernel_rfl) (by kernel_rfl) (fun _ _ _ h => h) (Or.inr ⟨by rfl, rfl⟩) (by assumption) ?_
            try simp only [Act.put, List.setIfInBounds_toArray, List.set_cons_zero, List.set_cons_succ]
            refine wpAnyH_take (i := 19) (oi := ⟨_, _, _, _, _, _⟩) (v := undef) rfl (by kernel_rfl) (by kernel_rfl) (by kernel_rfl) (fun _ _ _ h => h) (Or.inr ⟨by rfl, rfl⟩) (by assumption) ?_
            try simp only [Act.put, List.setIfInBounds_toArray, List.set_cons_zero, List.set_cons_succ]
            refine wpAnyH_take (i := 20) (oi := ⟨_, _, _, _, _, _⟩) (v := undef) rfl (by kernel_rfl) (by kernel_rfl) (by kernel_rfl) (fun _ _ _ h => h) (Or.inr ⟨by rfl, rfl⟩) (by assumption) ?_
            try simp only [Act.put, List.setIfInBounds_toArray, List.set_cons_zero, List.set_cons_succ]
            refine wpAnyH_take (i := 21) (oi := ⟨_, _, _, _, _, _⟩) (v := ?_) rfl (by kernel_rfl) (by kernel_rfl) (by kernel_rfl) (fun _ _ _ h => h) (Or.inl ⟨by rfl, ?_⟩) (by assumption) ?_
            rotate_left
            · (intro W hSW; (try dsimp only at hSW); obtain ⟨p0, p1, p2, p3⟩ := Blk.c4 hSW; have zz := Blk.lt hSW; go_simp; first | done | with_reducible rfl)
            try simp only [Act.put, List.setIfInBounds_toArray, List.set_cons_zero, List.set_cons_succ]
            refine wpAnyH_done (by kernel_rfl) ?_ _
            go_wp2_with fail
            go_meet
            case rel => exact ⟨rfl, HB5, KK5⟩
          | true =>
            by_cases h0 : i = 0
            · obtain rfl : bd = false := by rw [HBd.out, badF, ← HBu.out, h0]; rfl
              subst h0
              refine wp_region_held_drew (S := (fun W => Blk W w.heap.size 30 #[.slice (some ⟨b, o, none⟩) ls cs, .slice Ag ng cg, .slice Af nf cf, .slice Ae ne ce])) (by kernel_rfl) hK.out.drew (fun hHeld => ?_)
              try simp only [Act.put, List.setIfInBounds_toArray, List.set_cons_zero, List.set_cons_succ]
              refine wpAnyH_take (i := 0) (oi := ⟨_, _, _, _, _, _⟩) (v := ?_) rfl (by kernel_rfl) (by kernel_rfl) (by kernel_rfl) (fun _ _ _ h => h) (Or.inl ⟨by rfl, ?_⟩) (by assumption) ?_
              rotate_left
              · (intro W hSW; (try dsimp only at hSW); obtain ⟨p0, p1, p2, p3⟩ := Blk.c4 hSW; have zz := Blk.lt hSW; go_simp; first | done | with_reducible rfl)
              try simp only [Act.put, List.setIfInBounds_toArray, List.set_cons_zero, List.set_cons_succ]
              refine wpAnyH_take (i := 1) (oi := ⟨_, _, _, _, _, _⟩) (v := ?_) rfl (by kernel_rfl) (by kernel_rfl) (by kernel_rfl) (fun _ _ _ h => h) (Or.inl ⟨by rfl, ?_⟩) (by assumption) ?_
              rotate_left
              · (intro W hSW; (try dsimp only at hSW); obtain ⟨p0, p1, p2, p3⟩ := Blk.c4 hSW; have zz := Blk.lt hSW; go_simp; first | done | with_reducible rfl)
              try simp only [Act.put, List.setIfInBounds_toArray, List.set_cons_zero, List.set_cons_succ]
              refine wpAnyH_ready (rs := [2]) (by kernel_rfl) (by simp) ?_
              refine AllReadyH.cons (o := ⟨_, _, _, _, _, _⟩) rfl (fun KQ hKQ => ?_) AllReadyH.nil
              go_simp
              go_at_call 44
              refine HUd.out.mono ?_
              rintro e w5 ⟨rfl, hb5⟩
              have HB5 := Lib.hid (hB.out.drew.trans (hb5.mono hB.out.drew.size))
              have KK5 := Lib.hid (hK.out.drew.old hb5)
              refine hKQ.out _ _ KK5.out (fun _ => ?_)
              clear hKQ KQ hb5
              try simp only [Act.put, List.setIfInBounds_toArray, List.set_cons_zero, List.set_cons_succ]
              refine wpAnyH_take (i := 3) (oi := ⟨_, _, _, _, _, _⟩) (v := ?_) rfl (by kernel_rfl) (by kernel_rfl) (by kernel_rfl) (fun _ _ _ h => h) (Or.inl ⟨by rfl, ?_⟩) (by assumption) ?_
              rotate_left
              · (intro W hSW; (try dsimp only at hSW); obtain ⟨p0, p1, p2, p3⟩ := Blk.c4 hSW; have zz := Blk.lt hSW; go_simp; first | done | with_reducible rfl)
              try simp only [Act.put, List.setIfInBounds_toArray, List.set_cons_zero, List.set_cons_succ]
              refine wpAnyH_take (i := 4) (oi := ⟨_, _, _, _, _, _⟩) (v := ?_) rfl (by kernel_rfl) (by kernel_rfl) (by kernel_rfl) (fun _ _ _ h => h) (Or.inl ⟨by rfl, ?_⟩) (by assumption) ?_
              rotate_left
              · (intro W hSW; (try dsimp only at hSW); obtain ⟨p0, p1, p2, p3⟩ := Blk.c4 hSW; have zz := Blk.lt hSW; go_simp; first | done | with_reducible rfl)
              try simp only [Act.put, List.setIfInBounds_toArray, List.set_cons_zero, List.set_cons_succ]
              refine wpAnyH_take (i := 5) (oi := ⟨_, _, _, _, _, _⟩) (v := ?_) rfl (by kernel_rfl) (by kernel_rfl) (by kernel_rfl) (fun _ _ _ h => h) (Or.inl ⟨by rfl, ?_⟩) (by assumption) ?_
              rotate_left
              · (intro W hSW; (try dsimp only at hSW); obtain ⟨p0, p1, p2, p3⟩ := Blk.c4 hSW; have zz := Blk.lt hSW; go_simp; first | done | with_reducible rfl)
              try simp only [Act.put, List.setIfInBounds_toArray, List.set_cons_zero, List.set_cons_succ]
              refine wpAnyH_take (i := 6) (oi := ⟨_, _, _, _, _, _⟩) (v := ?_) rfl (by kernel_rfl) (by kernel_rfl) (by kernel_rfl) (fun _ _ _ h => h) (Or.inl ⟨by rfl, ?_⟩) (by assumption) ?_
              rotate_left
              · (intro W hSW; (try dsimp only at hSW); obtain ⟨p0, p1, p2, p3⟩ := Blk.c4 hSW; have zz := Blk.lt hSW; go_simp; first | done | with_reducible rfl)
              try simp only [Act.put, List.setIfInBounds_toArray, List.set_cons_zero, List.set_cons_succ]
              refine wpAnyH_take (i := 7) (oi := ⟨_, _, _, _, _, _⟩) (v := ?_) rfl (by kernel_rfl) (by kernel_rfl) (by kernel_rfl) (fun _ _ _ h => h) (Or.inl ⟨by rfl, ?_⟩) (by assumption) ?_
              rotate_left
              · (intro W hSW; (try dsimp only at hSW); obtain ⟨p0, p1, p2, p3⟩ := Blk.c4 hSW; have zz := Blk.lt hSW; go_simp; first | done | with_reducible rfl)
              try simp only [Act.put, List.setIfInBounds_toArray, List.set_cons_zero, List.set_cons_succ]
              refine wpAnyH_take (i := 8) (oi := ⟨_, _, _, _, _, _⟩) (v := undef) rfl (by kernel_rfl) (by kernel_rfl) (by kernel_rfl) (fun _ _ _ h => h) (Or.inr ⟨by rfl, rfl⟩) (by assumption) ?_
              try simp only [Act.put, List.setIfInBounds_toArray, List.set_cons_zero, List.set_cons_succ]
              refine wpAnyH_take (i := 9) (oi := ⟨_, _, _, _, _, _⟩) (v := undef) rfl (by kernel_rfl) (by kernel_rfl) (by kernel_rfl) (fun _ _ _ h => h) (Or.inr ⟨by rfl, rfl⟩) (by assumption) ?_
              try simp only [Act.put, List.setIfInBounds_toArray, List.set_cons_zero, List.set_cons_succ]
              refine wpAnyH_take (i := 10) (oi := ⟨_, _, _, _, _, _⟩) (v := undef) rfl (by kernel_rfl) (by kernel_rfl) (by kernel_rfl) (fun _ _ _ h => h) (Or.inr ⟨by rfl, rfl⟩) (by assumption) ?_
              try simp only [Act.put, List.setIfInBounds_toArray, List.set_cons_zero, List.set_cons_succ]
              refine wpAnyH_take (i := 11) (oi := ⟨_, _, _, _, _, _⟩) (v := undef) rfl (by kernel_rfl) (by kernel_rfl) (by kernel_rfl) (fun _ _ _ h => h) (Or.inr ⟨by rfl, rfl⟩) (by assumption) ?_
              try simp only [Act.put, List.setIfInBounds_toArray, List.set_cons_zero, List.set_cons_succ]
              refine wpAnyH_take (i := 12) (oi := ⟨_, _, _, _, _, _⟩) (v := undef) rfl (by kernel_rfl) (by kernel_rfl) (by kernel_rfl) (fun _ _ _ h => h) (Or.inr ⟨by rfl, rfl⟩) (by assumption) ?_
              try simp only [Act.put, List.setIfInBounds_toArray, List.set_cons_zero, List.set_cons_succ]
              refine wpAnyH_take (i := 13) (oi := ⟨_, _, _, _, _, _⟩) (v := undef) rfl (by kernel_rfl) (by kernel_rfl) (by kernel_rfl) (fun _ _ _ h => h) (Or.inr ⟨by rfl, rfl⟩) (by assumption) ?_
              try simp only [Act.put, List.setIfInBounds_toArray, List.set_cons_zero, List.set_cons_succ]
              refine wpAnyH_take (i := 14) (oi := ⟨_, _, _, _, _, _⟩) (v := undef) rfl (by kernel_rfl) (by kernel_rfl) (by kernel_rfl) (fun _ _ _ h => h) (Or.inr ⟨by rfl, rfl⟩) (by assumption) ?_
              try simp only [Act.put, List.setIfInBounds_toArray, List.set_cons_zero, List.set_cons_succ]
              refine wpAnyH_take (i := 15) (oi := ⟨_, _, _, _, _, _⟩) (v := undef) rfl (by kernel_rfl) (by kernel_rfl) (by kernel_rfl) (fun _ _ _ h => h) (Or.inr ⟨by rfl, rfl⟩) (by assumption) ?_
              try simp only [Act.put, List.setIfInBounds_toArray, List.set_cons_zero, List.set_cons_succ]
              refine wpAnyH_take (i := 16) (oi := ⟨_, _, _, _, _, _⟩) (v := undef) rfl (by kernel_rfl) (by kernel_rfl) (by kernel_rfl) (fun _ _ _ h => h) (Or.inr ⟨by rfl, rfl⟩) (by assumption) ?_
              try simp only [Act.put, List.setIfInBounds_toArray, List.set_cons_zero, List.set_cons_succ]
              refine wpAnyH_take (i := 17) (oi := ⟨_, _, _, _, _, _⟩) (v := undef) rfl (by kernel_rfl) (by kernel_rfl) (by kernel_rfl) (fun _ _ _ h => h) (Or.inr ⟨by rfl, rfl⟩) (by assumption) ?_
              try simp only [Act.put, List.setIfInBounds_toArray, List.set_cons_zero, List.set_cons_succ]
              refine wpAnyH_take (i := 18) (oi := ⟨_, _, _, _, _, _⟩) (v := undef) rfl (by kernel_rfl) (by kernel_rfl) (by kernel_rfl) (fun _ _ _ h => h) (Or.inr ⟨by rfl, rfl⟩) (by assumption) ?_
              try simp only [Act.put, List.setIfInBounds_toArray, List.set_cons_zero, List.set_cons_succ]
              refine wpAnyH_take (i := 19) (oi := ⟨_, _, _, _, _, _⟩) (v := undef) rfl (by kernel_rfl) (by kernel_rfl) (by kernel_rfl) (fun _ _ _ h => h) (Or.inr ⟨by rfl, rfl⟩) (by assumption) ?_
              try simp only [Act.put, List.setIfInBounds_toArray, List.set_cons_zero, List.set_cons_succ]
              refine wpAnyH_take (i := 20) (oi := ⟨_, _, _, _, _, _⟩) (v := ?_) rfl (by kernel_rfl) (by kernel_rfl) (by kernel_rfl) (fun _ _ _ h => h) (Or.inl ⟨by rfl, ?_⟩) (by assumption) ?_
              rotate_left
              · (intro W hSW; (try dsimp only at hSW); obtain ⟨p0, p1, p2, p3⟩ := Blk.c4 hSW; have zz := Blk.lt hSW; go_simp; first | done | with_reducible rfl)
              try simp only [Act.put, List.setIfInBounds_toArray, List.set_cons_zero, List.set_cons_succ]
              refine wpAnyH_take (i := 21) (oi := ⟨_, _, _, _, _, _⟩) (v := ?_) rfl (by kernel_rfl) (by kernel_rfl) (by kernel_rfl) (fun _ _ _ h => h) (Or.inl ⟨by rfl, ?_⟩) (by assumption) ?_
              rotate_left
              · (intro W hSW; (try dsimp only at hSW); obtain ⟨p0, p1, p2, p3⟩ := Blk.c4 hSW; have zz := Blk.lt hSW; go_simp; first | done | with_reducible rfl)
              try simp only [Act.put, List.setIfInBounds_toArray, List.set_cons_zero, List.set_cons_succ]
              refine wpAnyH_done (by kernel_rfl) ?_ _
              go_wp2_with fail
              go_meet
              case rel => exact ⟨rfl, HB5, KK5⟩
            · obtain ⟨j, hj⟩ : ∃ j, i = j + 1 := ⟨i - 1, by omega⟩
              have hjl : j < M.strs.length := by omega
              obtain ⟨x, hx⟩ : ∃ x, x = M.strs[j] := ⟨_, rfl⟩
              obtain ⟨y, hy⟩ : ∃ y, y = M.strs[i] := ⟨_, rfl⟩
              have HSx : Hid (M.strs[j]? = some x) := by show _ = _; rw [hx]; exact List.getElem?_eq_getElem hjl
              have HSy : Hid (M.strs[i]? = some y) := by show _ = _; rw [hy]; exact List.getElem?_eq_getElem hil
              have hbd : bd = !(Op.bytesLess x y) := by
                rw [HBd.out, badF, ← HBu.out]
                rw [show M.strs.getD (i - 1) [] = x from by rw [hx, show i - 1 = j from by omega]; simp [List.getD, hjl], show M.strs.getD i [] = y from by rw [hy]; simp [List.getD, hil]]
                simp; omega
              obtain ⟨sx, hsxe⟩ : ∃ sx, sx = bs x := ⟨_, rfl⟩
              obtain ⟨sy, hsye⟩ : ∃ sy, sy = bs y := ⟨_, rfl⟩
              have hq1 := bs_toList x
              have hq2 := bs_toList y
              have hsx : wr.drew.cell? ⟨b, o + j, none⟩ = some (.string sx) := by rw [hsxe]; exact cell_old hB.out.drew hbl (HcS.out j _ HSx.out)
              have hsy : wr.drew.cell? ⟨b, o + i, none⟩ = some (.string sy) := by rw [hsye]; exact cell_old hB.out.drew hbl (HcS.out i _ HSy.out)
              have h0i : (0 : Int) < (i : Int) := by omega
              have hjj : (i : Int) - 1 = (j : Int) := by omega
              have hjn : (j : Int) < (ls : Int) := by omega
              have hwr : IntKind.i64.wrap (j : Int) = (j : Int) := by rw [IntKind.wrap_i64]; omega
              have hbl2 : Op.bytesLess sx.toList sy.toList = !bd := by rw [hsxe, hsye, hq1, hq2, hbd]; simp
              have HQ : Hid (bs x = sx ∧ bs y = sy) := ⟨hsxe.symm, hsye.symm⟩
              clear hq1 hq2 hx hy hbd hj h0 hsxe hsye
              cases bd with
              | false =>
                have hbl3 : Op.bytesLess sx.toList sy.toList = true := hbl2
                clear hbl2
                refine wp_region_held_drew (S := (fun W => Blk W w.heap.size 30 #[.slice (some ⟨b, o, none⟩) ls cs, .slice Ag ng cg, .slice Af nf cf, .slice Ae ne ce] ∧ W.cell? ⟨b, o + j, none⟩ = some (.string sx) ∧ W.cell? ⟨b, o + i, none⟩ = some (.string sy))) (by kernel_rfl) ⟨hK.out.drew, hsx, hsy⟩ (fun hHeld => ?_)
                try simp only [Act.put, List.setIfInBounds_toArray, List.set_cons_zero, List.set_cons_succ]
                refine wpAnyH_take (i := 0) (oi := ⟨_, _, _, _, _, _⟩) (v := ?_) rfl (by kernel_rfl) (by kernel_rfl) (by kernel_rfl) (fun _ _ _ h => h) (Or.inl ⟨by rfl, ?_⟩) (by assumption) ?_
                rotate_left
                · (intro W hSW; (try dsimp only at hSW); obtain ⟨hSB, hS1, hS2⟩ := hSW; obtain ⟨p0, p1, p2, p3⟩ := hSB.c4; have zz := Blk.lt hSB; have zb := World.block_lt_of_cell? W ⟨b, o + j, none⟩ hS1; go_simp; first | done | with_reducible rfl)
                try simp only [Act.put, List.setIfInBounds_toArray, List.set_cons_zero, List.set_cons_succ]
                refine wpAnyH_take (i := 1) (oi := ⟨_, _, _, _, _, _⟩) (v := ?_) rfl (by kernel_rfl) (by kernel_rfl) (by kernel_rfl) (fun _ _ _ h => h) (Or.inl ⟨by rfl, ?_⟩) (by assumption) ?_
                rotate_left
                · (intro W hSW; (try dsimp only at hSW); obtain ⟨hSB, hS1, hS2⟩ := hSW; obtain ⟨p0, p1, p2, p3⟩ := hSB.c4; have zz := Blk.lt hSB; have zb := World.block_lt_of_cell? W ⟨b, o + j, none⟩ hS1; go_simp; first | done | with_reducible rfl)
                try simp only [Act.put, List.setIfInBounds_toArray, List.set_cons_zero, List.set_cons_succ]
                refine wpAnyH_ready (rs := [2]) (by kernel_rfl) (by simp) ?_
                refine AllReadyH.cons (o := ⟨_, _, _, _, _, _⟩) rfl (fun KQ hKQ => ?_) AllReadyH.nil
                go_simp
                go_at_call 44
                refine HUd.out.mono ?_
                rintro e w5 ⟨rfl, hb5⟩
                have HB5 := Lib.hid (hB.out.drew.trans (hb5.mono hB.out.drew.size))
                have KK5 := Lib.hid (hK.out.drew.old hb5)
                refine hKQ.out _ _ ⟨KK5.out, by have := cell_old HB5.out hbl (HcS.out j _ HSx.out); rwa [HQ.out.1] at this, by have := cell_old HB5.out hbl (HcS.out i _ HSy.out); rwa [HQ.out.2] at this⟩ (fun _ => ?_)
                clear hKQ KQ hb5
                try simp only [Act.put, List.setIfInBounds_toArray, List.set_cons_zero, List.set_cons_succ]
                refine wpAnyH_take (i := 3) (oi := ⟨_, _, _, _, _, _⟩) (v := ?_) rfl (by kernel_rfl) (by kernel_rfl) (by kernel_rfl) (fun _ _ _ h => h) (Or.inl ⟨by rfl, ?_⟩) (by assumption) ?_
                rotate_left
                · (intro W hSW; (try dsimp only at hSW); obtain ⟨hSB, hS1, hS2⟩ := hSW; obtain ⟨p0, p1, p2, p3⟩ := hSB.c4; have zz := Blk.lt hSB; have zb := World.block_lt_of_cell? W ⟨b, o + j, none⟩ hS1; go_simp; first | done | with_reducible rfl)
                try simp only [Act.put, List.setIfInBounds_toArray, List.set_cons_zero, List.set_cons_succ]
                refine wpAnyH_take (i := 4) (oi := ⟨_, _, _, _, _, _⟩) (v := ?_) rfl (by kernel_rfl) (by kernel_rfl) (by kernel_rfl) (fun _ _ _ h => h) (Or.inl ⟨by rfl, ?_⟩) (by assumption) ?_
                rotate_left
                · (intro W hSW; (try dsimp only at hSW); obtain ⟨hSB, hS1, hS2⟩ := hSW; obtain ⟨p0, p1, p2, p3⟩ := hSB.c4; have zz := Blk.lt hSB; have zb := World.block_lt_of_cell? W ⟨b, o + j, none⟩ hS1; go_simp; first | done | with_reducible rfl)
                try simp only [Act.put, List.setIfInBounds_toArray, List.set_cons_zero, List.set_cons_succ]
                refine wpAnyH_take (i := 5) (oi := ⟨_, _, _, _, _, _⟩) (v := ?_) rfl (by kernel_rfl) (by kernel_rfl) (by kernel_rfl) (fun _ _ _ h => h) (Or.inl ⟨by rfl, ?_⟩) (by assumption) ?_
                rotate_left
                · (intro W hSW; (try dsimp only at hSW); obtain ⟨hSB, hS1, hS2⟩ := hSW; obtain ⟨p0, p1, p2, p3⟩ := hSB.c4; have zz := Blk.lt hSB; have zb := World.block_lt_of_cell? W ⟨b, o + j, none⟩ hS1; go_simp; first | done | with_reducible rfl)
                try simp only [Act.put, List.setIfInBounds_toArray, List.set_cons_zero, List.set_cons_succ]
                refine wpAnyH_take (i := 6) (oi := ⟨_, _, _, _, _, _⟩) (v := .bool true) rfl (by kernel_rfl) (by kernel_rfl) (by kernel_rfl) (fun _ _ _ h => h) (Or.inl ⟨by rfl, ?_⟩) (by assumption) ?_
                · (intro W hSW; (try dsimp only at hSW); obtain ⟨hSB, hS1, hS2⟩ := hSW; obtain ⟨p0, p1, p2, p3⟩ := hSB.c4; have zz := Blk.lt hSB; have zb := World.block_lt_of_cell? W ⟨b, o + j, none⟩ hS1; go_simp; first | done | exact h0i | omega | (simp; omega) | with_reducible rfl)
                try simp only [Act.put, List.setIfInBounds_toArray, List.set_cons_zero, List.set_cons_succ]
                refine wpAnyH_take (i := 7) (oi := ⟨_, _, _, _, _, _⟩) (v := ?_) rfl (by kernel_rfl) (by kernel_rfl) (by kernel_rfl) (fun _ _ _ h => h) (Or.inl ⟨by rfl, ?_⟩) (by assumption) ?_
                rotate_left
                · (intro W hSW; (try dsimp only at hSW); obtain ⟨hSB, hS1, hS2⟩ := hSW; obtain ⟨p0, p1, p2, p3⟩ := hSB.c4; have zz := Blk.lt hSB; have zb := World.block_lt_of_cell? W ⟨b, o + j, none⟩ hS1; go_simp; first | done | with_reducible rfl)
                try simp only [Act.put, List.setIfInBounds_toArray, List.set_cons_zero, List.set_cons_succ]
                refine wpAnyH_take (i := 8) (oi := ⟨_, _, _, _, _, _⟩) (v := ?_) rfl (by kernel_rfl) (by kernel_rfl) (by kernel_rfl) (fun _ _ _ h => h) (Or.inl ⟨by rfl, ?_⟩) (by assumption) ?_
                rotate_left
                · (intro W hSW; (try dsimp only at hSW); obtain ⟨hSB, hS1, hS2⟩ := hSW; obtain ⟨p0, p1, p2, p3⟩ := hSB.c4; have zz := Blk.lt hSB; have zb := World.block_lt_of_cell? W ⟨b, o + j, none⟩ hS1; go_simp; first | done | with_reducible rfl)
                try simp only [Act.put, List.setIfInBounds_toArray, List.set_cons_zero, List.set_cons_succ]
                refine wpAnyH_take (i := 9) (oi := ⟨_, _, _, _, _, _⟩) (v := ?_) rfl (by kernel_rfl) (by kernel_rfl) (by kernel_rfl) (fun _ _ _ h => h) (Or.inl ⟨by rfl, ?_⟩) (by assumption) ?_
                rotate_left
                · (intro W hSW; (try dsimp only at hSW); obtain ⟨hSB, hS1, hS2⟩ := hSW; obtain ⟨p0, p1, p2, p3⟩ := hSB.c4; have zz := Blk.lt hSB; have zb := World.block_lt_of_cell? W ⟨b, o + j, none⟩ hS1; go_simp; first | done | with_reducible rfl)
                try simp only [Act.put, List.setIfInBounds_toArray, List.set_cons_zero, List.set_cons_succ]
                refine wpAnyH_take (i := 10) (oi := ⟨_, _, _, _, _, _⟩) (v := ?_) rfl (by kernel_rfl) (by kernel_rfl) (by kernel_rfl) (fun _ _ _ h => h) (Or.inl ⟨by rfl, ?_⟩) (by assumption) ?_
                rotate_left
                · (intro W hSW; (try dsimp only at hSW); obtain ⟨hSB, hS1, hS2⟩ := hSW; obtain ⟨p0, p1, p2, p3⟩ := hSB.c4; have zz := Blk.lt hSB; have zb := World.block_lt_of_cell? W ⟨b, o + j, none⟩ hS1; go_simp; first | done | with_reducible rfl)
                try simp only [Act.put, List.setIfInBounds_toArray, List.set_cons_zero, List.set_cons_succ]
                refine wpAnyH_take (i := 11) (oi := ⟨_, _, _, _, _, _⟩) (v := ?_) rfl (by kernel_rfl) (by kernel_rfl) (by kernel_rfl) (fun _ _ _ h => h) (Or.inl ⟨by rfl, ?_⟩) (by assumption) ?_
                rotate_left
                · (intro W hSW; (try dsimp only at hSW); obtain ⟨hSB, hS1, hS2⟩ := hSW; obtain ⟨p0, p1, p2, p3⟩ := hSB.c4; have zz := Blk.lt hSB; have zb := World.block_lt_of_cell? W ⟨b, o + j, none⟩ hS1; go_simp; first | done | with_reducible rfl)
                try simp only [Act.put, List.setIfInBounds_toArray, List.set_cons_zero, List.set_cons_succ]
                refine wpAnyH_take (i := 12) (oi := ⟨_, _, _, _, _, _⟩) (v := ?_) rfl (by kernel_rfl) (by kernel_rfl) (by kernel_rfl) (fun _ _ _ h => h) (Or.inl ⟨by rfl, ?_⟩) (by assumption) ?_
                rotate_left
                · (intro W hSW; (try dsimp only at hSW); obtain ⟨hSB, hS1, hS2⟩ := hSW; obtain ⟨p0, p1, p2, p3⟩ := hSB.c4; have zz := Blk.lt hSB; have zb := World.block_lt_of_cell? W ⟨b, o + j, none⟩ hS1; go_simp; first | done | with_reducible rfl)
                try simp only [Act.put, List.setIfInBounds_toArray, List.set_cons_zero, List.set_cons_succ]
                refine wpAnyH_take (i := 13) (oi := ⟨_, _, _, _, _, _⟩) (v := ?_) rfl (by kernel_rfl) (by kernel_rfl) (by kernel_rfl) (fun _ _ _ h => h) (Or.inl ⟨by rfl, ?_⟩) (by assumption) ?_
                rotate_left
                · (intro W hSW; (try dsimp only at hSW); obtain ⟨hSB, hS1, hS2⟩ := hSW; obtain ⟨p0, p1, p2, p3⟩ := hSB.c4; have zz := Blk.lt hSB; have zb := World.block_lt_of_cell? W ⟨b, o + j, none⟩ hS1; go_simp; first | done | with_reducible rfl)
                try simp only [Act.put, List.setIfInBounds_toArray, List.set_cons_zero, List.set_cons_succ]
                refine wpAnyH_take (i := 14) (oi := ⟨_, _, _, _, _, _⟩) (v := ?_) rfl (by kernel_rfl) (by kernel_rfl) (by kernel_rfl) (fun _ _ _ h => h) (Or.inl ⟨by rfl, ?_⟩) (by assumption) ?_
                rotate_left
                · (intro W hSW; (try dsimp only at hSW); obtain ⟨hSB, hS1, hS2⟩ := hSW; obtain ⟨p0, p1, p2, p3⟩ := hSB.c4; have zz := Blk.lt hSB; have zb := World.block_lt_of_cell? W ⟨b, o + j, none⟩ hS1; go_simp; first | done | with_reducible rfl)
                try simp only [Act.put, List.setIfInBounds_toArray, List.set_cons_zero, List.set_cons_succ]
                refine wpAnyH_take (i := 15) (oi := ⟨_, _, _, _, _, _⟩) (v := ?_) rfl (by kernel_rfl) (by kernel_rfl) (by kernel_rfl) (fun _ _ _ h => h) (Or.inl ⟨by rfl, ?_⟩) (by assumption) ?_
                rotate_left
                · (intro W hSW; (try dsimp only at hSW); obtain ⟨hSB, hS1, hS2⟩ := hSW; obtain ⟨p0, p1, p2, p3⟩ := hSB.c4; have zz := Blk.lt hSB; have zb := World.block_lt_of_cell? W ⟨b, o + j, none⟩ hS1; go_simp; first | done | with_reducible rfl)
                try simp only [Act.put, List.setIfInBounds_toArray, List.set_cons_zero, List.set_cons_succ]
                refine wpAnyH_take (i := 16) (oi := ⟨_, _, _, _, _, _⟩) (v := ?_) rfl (by kernel_rfl) (by kernel_rfl) (by kernel_rfl) (fun _ _ _ h => h) (Or.inl ⟨by rfl, ?_⟩) (by assumption) ?_
                rotate_left
                · (intro W hSW; (try dsimp only at hSW); obtain ⟨hSB, hS1, hS2⟩ := hSW; obtain ⟨p0, p1, p2, p3⟩ := hSB.c4; have zz := Blk.lt hSB; have zb := World.block_lt_of_cell? W ⟨b, o + j, none⟩ hS1; go_simp; first | done | with_reducible rfl)
                try simp only [Act.put, List.setIfInBounds_toArray, List.set_cons_zero, List.set_cons_succ]
                refine wpAnyH_take (i := 17) (oi := ⟨_, _, _, _, _, _⟩) (v := ?_) rfl (by kernel_rfl) (by kernel_rfl) (by kernel_rfl) (fun _ _ _ h => h) (Or.inl ⟨by rfl, ?_⟩) (by assumption) ?_
                rotate_left
                · (intro W hSW; (try dsimp only at hSW); obtain ⟨hSB, hS1, hS2⟩ := hSW; obtain ⟨p0, p1, p2, p3⟩ := hSB.c4; have zz := Blk.lt hSB; have zb := World.block_lt_of_cell? W ⟨b, o + j, none⟩ hS1; go_simp; first | done | with_reducible rfl)
                try simp only [Act.put, List.setIfInBounds_toArray, List.set_cons_zero, List.set_cons_succ]
                refine wpAnyH_take (i := 18) (oi := ⟨_, _, _, _, _, _⟩) (v := ?_) rfl (by kernel_rfl) (by kernel_rfl) (by kernel_rfl) (fun _ _ _ h => h) (Or.inl ⟨by rfl, ?_⟩) (by assumption) ?_
                rotate_left
                · (intro W hSW; (try dsimp only at hSW); obtain ⟨hSB, hS1, hS2⟩ := hSW; obtain ⟨p0, p1, p2, p3⟩ := hSB.c4; have zz := Blk.lt hSB; have zb := World.block_lt_of_cell? W ⟨b, o + j, none⟩ hS1; go_simp; first | done | with_reducible rfl)
                try simp only [Act.put, List.setIfInBounds_toArray, List.set_cons_zero, List.set_cons_succ]
                refine wpAnyH_take (i := 19) (oi := ⟨_, _, _, _, _, _⟩) (v := .bool false) rfl (by kernel_rfl) (by kernel_rfl) (by kernel_rfl) (fun _ _ _ h => h) (Or.inl ⟨by rfl, ?_⟩) (by assumption) ?_
                · (intro W hSW; (try dsimp only at hSW); obtain ⟨hSB, hS1, hS2⟩ := hSW; obtain ⟨p0, p1, p2, p3⟩ := hSB.c4; have zz := Blk.lt hSB; have zb := World.block_lt_of_cell? W ⟨b, o + j, none⟩ hS1; go_simp; first | done | exact hbl3 | (simp [hbl3]; done) | with_reducible rfl)
                try simp only [Act.put, List.setIfInBounds_toArray, List.set_cons_zero, List.set_cons_succ]
                refine wpAnyH_take (i := 20) (oi := ⟨_, _, _, _, _, _⟩) (v := ?_) rfl (by kernel_rfl) (by kernel_rfl) (by kernel_rfl) (fun _ _ _ h => h) (Or.inl ⟨by rfl, ?_⟩) (by assumption) ?_
                rotate_left
                · (intro W hSW; (try dsimp only at hSW); obtain ⟨hSB, hS1, hS2⟩ := hSW; obtain ⟨p0, p1, p2, p3⟩ := hSB.c4; have zz := Blk.lt hSB; have zb := World.block_lt_of_cell? W ⟨b, o + j, none⟩ hS1; go_simp; first | done | with_reducible rfl)
                try simp only [Act.put, List.setIfInBounds_toArray, List.set_cons_zero, List.set_cons_succ]
                refine wpAnyH_take (i := 21) (oi := ⟨_, _, _, _, _, _⟩) (v := ?_) rfl (by kernel_rfl) (by kernel_rfl) (by kernel_rfl) (fun _ _ _ h => h) (Or.inl ⟨by rfl, ?_⟩) (by assumption) ?_
                rotate_left
                · (intro W hSW; (try dsimp only at hSW); obtain ⟨hSB, hS1, hS2⟩ := hSW; obtain ⟨p0, p1, p2, p3⟩ := hSB.c4; have zz := Blk.lt hSB; have zb := World.block_lt_of_cell? W ⟨b, o + j, none⟩ hS1; go_simp; first | done | with_reducible rfl)
                try simp only [Act.put, List.setIfInBounds_toArray, List.set_cons_zero, List.set_cons_succ]
                refine wpAnyH_done (by kernel_rfl) ?_ _
                go_wp2_with fail
                go_meet
                case rel => exact ⟨rfl, HB5, KK5⟩
              | true =>
                have hbl3 : Op.bytesLess sx.toList sy.toList = false := hbl2
                clear hbl2
                refine wp_region_held_drew (S := (fun W => Blk W w.heap.size 30 #[.slice (some ⟨b, o, none⟩) ls cs, .slice Ag ng cg, .slice Af nf cf, .slice Ae ne ce] ∧ W.cell? ⟨b, o + j, none⟩ = some (.string sx) ∧ W.cell? ⟨b, o + i, none⟩ = some (.string sy))) (by kernel_rfl) ⟨hK.out.drew, hsx, hsy⟩ (fun hHeld => ?_)
                try simp only [Act.put, List.setIfInBounds_toArray, List.set_cons_zero, List.set_cons_succ]
                refine wpAnyH_take (i := 0) (oi := ⟨_, _, _, _, _, _⟩) (v := ?_) rfl (by kernel_rfl) (by kernel_rfl) (by kernel_rfl) (fun _ _ _ h => h) (Or.inl ⟨by rfl, ?_⟩) (by assumption) ?_
                rotate_left
                · (intro W hSW; (try dsimp only at hSW); obtain ⟨hSB, hS1, hS2⟩ := hSW; obtain ⟨p0, p1, p2, p3⟩ := hSB.c4; have zz := Blk.lt hSB; have zb := World.block_lt_of_cell? W ⟨b, o + j, none⟩ hS1; go_simp; first | done | with_reducible rfl)
                try simp only [Act.put, List.setIfInBounds_toArray, List.set_cons_zero, List.set_cons_succ]
                refine wpAnyH_take (i := 1) (oi := ⟨_, _, _, _, _, _⟩) (v := ?_) rfl (by kernel_rfl) (by kernel_rfl) (by kernel_rfl) (fun _ _ _ h => h) (Or.inl ⟨by rfl, ?_⟩) (by assumption) ?_
                rotate_left
                · (intro W hSW; (try dsimp only at hSW); obtain ⟨hSB, hS1, hS2⟩ := hSW; obtain ⟨p0, p1, p2, p3⟩ := hSB.c4; have zz := Blk.lt hSB; have zb := World.block_lt_of_cell? W ⟨b, o + j, none⟩ hS1; go_simp; first | done | with_reducible rfl)
                try simp only [Act.put, List.setIfInBounds_toArray, List.set_cons_zero, List.set_cons_succ]
                refine wpAnyH_ready (rs := [2]) (by kernel_rfl) (by simp) ?_
                refine AllReadyH.cons (o := ⟨_, _, _, _, _, _⟩) rfl (fun KQ hKQ => ?_) AllReadyH.nil
                go_simp
                go_at_call 44
                refine HUd.out.mono ?_
                rintro e w5 ⟨rfl, hb5⟩
                have HB5 := Lib.hid (hB.out.drew.trans (hb5.mono hB.out.drew.size))
                have KK5 := Lib.hid (hK.out.drew.old hb5)
                refine hKQ.out _ _ ⟨KK5.out, by have := cell_old HB5.out hbl (HcS.out j _ HSx.out); rwa [HQ.out.1] at this, by have := cell_old HB5.out hbl (HcS.out i _ HSy.out); rwa [HQ.out.2] at this⟩ (fun _ => ?_)
                clear hKQ KQ hb5
                try simp only [Act.put, List.setIfInBounds_toArray, List.set_cons_zero, List.set_cons_succ]
                refine wpAnyH_take (i := 3) (oi := ⟨_, _, _, _, _, _⟩) (v := ?_) rfl (by kernel_rfl) (by kernel_rfl) (by kernel_rfl) (fun _ _ _ h => h) (Or.inl ⟨by rfl, ?_⟩) (by assumption) ?_
                rotate_left
                · (intro W hSW; (try dsimp only at hSW); obtain ⟨hSB, hS1, hS2⟩ := hSW; obtain ⟨p0, p1, p2, p3⟩ := hSB.c4; have zz := Blk.lt hSB; have zb := World.block_lt_of_cell? W ⟨b, o + j, none⟩ hS1; go_simp; first | done | with_reducible rfl)
                try simp only [Act.put, List.setIfInBounds_toArray, List.set_cons_zero, List.set_cons_succ]
                refine wpAnyH_take (i := 4) (oi := ⟨_, _, _, _, _, _⟩) (v := ?_) rfl (by kernel_rfl) (by kernel_rfl) (by kernel_rfl) (fun _ _ _ h => h) (Or.inl ⟨by rfl, ?_⟩) (by assumption) ?_
                rotate_left
                · (intro W hSW; (try dsimp only at hSW); obtain ⟨hSB, hS1, hS2⟩ := hSW; obtain ⟨p0, p1, p2, p3⟩ := hSB.c4; have zz := Blk.lt hSB; have zb := World.block_lt_of_cell? W ⟨b, o + j, none⟩ hS1; go_simp; first | done | with_reducible rfl)
                try simp only [Act.put, List.setIfInBounds_toArray, List.set_cons_zero, List.set_cons_succ]
                refine wpAnyH_take (i := 5) (oi := ⟨_, _, _, _, _, _⟩) (v := ?_) rfl (by kernel_rfl) (by kernel_rfl) (by kernel_rfl) (fun _ _ _ h => h) (Or.inl ⟨by rfl, ?_⟩) (by assumption) ?_
                rotate_left
                · (intro W hSW; (try dsimp only at hSW); obtain ⟨hSB, hS1, hS2⟩ := hSW; obtain ⟨p0, p1, p2, p3⟩ := hSB.c4; have zz := Blk.lt hSB; have zb := World.block_lt_of_cell? W ⟨b, o + j, none⟩ hS1; go_simp; first | done | with_reducible rfl)
                try simp only [Act.put, List.setIfInBounds_toArray, List.set_cons_zero, List.set_cons_succ]
                refine wpAnyH_take (i := 6) (oi := ⟨_, _, _, _, _, _⟩) (v := .bool true) rfl (by kernel_rfl) (by kernel_rfl) (by kernel_rfl) (fun _ _ _ h => h) (Or.inl ⟨by rfl, ?_⟩) (by assumption) ?_
                · (intro W hSW; (try dsimp only at hSW); obtain ⟨hSB, hS1, hS2⟩ := hSW; obtain ⟨p0, p1, p2, p3⟩ := hSB.c4; have zz := Blk.lt hSB; have zb := World.block_lt_of_cell? W ⟨b, o + j, none⟩ hS1; go_simp; first | done | exact h0i | omega | (simp; omega) | with_reducible rfl)
                try simp only [Act.put, List.setIfInBounds_toArray, List.set_cons_zero, List.set_cons_succ]
                refine wpAnyH_take (i := 7) (oi := ⟨_, _, _, _, _, _⟩) (v := ?_) rfl (by kernel_rfl) (by kernel_rfl) (by kernel_rfl) (fun _ _ _ h => h) (Or.inl ⟨by rfl, ?_⟩) (by assumption) ?_
                rotate_left
                · (intro W hSW; (try dsimp only at hSW); obtain ⟨hSB, hS1, hS2⟩ := hSW; obtain ⟨p0, p1, p2, p3⟩ := hSB.c4; have zz := Blk.lt hSB; have zb := World.block_lt_of_cell? W ⟨b, o + j, none⟩ hS1; go_simp; first | done | with_reducible rfl)
                try simp only [Act.put, List.setIfInBounds_toArray, List.set_cons_zero, List.set_cons_succ]
                refine wpAnyH_take (i := 8) (oi := ⟨_, _, _, _, _, _⟩) (v := ?_) rfl (by kernel_rfl) (by kernel_rfl) (by kernel_rfl) (fun _ _ _ h => h) (Or.inl ⟨by rfl, ?_⟩) (by assumption) ?_
                rotate_left
                · (intro W hSW; (try dsimp only at hSW); obtain ⟨hSB, hS1, hS2⟩ := hSW; obtain ⟨p0, p1, p2, p3⟩ := hSB.c4; have zz := Blk.lt hSB; have zb := World.block_lt_of_cell? W ⟨b, o + j, none⟩ hS1; go_simp; first | done | with_reducible rfl)
                try simp only [Act.put, List.setIfInBounds_toArray, List.set_cons_zero, List.set_cons_succ]
                refine wpAnyH_take (i := 9) (oi := ⟨_, _, _, _, _, _⟩) (v := ?_) rfl (by kernel_rfl) (by kernel_rfl) (by kernel_rfl) (fun _ _ _ h => h) (Or.inl ⟨by rfl, ?_⟩) (by assumption) ?_
                rotate_left
                · (intro W hSW; (try dsimp only at hSW); obtain ⟨hSB, hS1, hS2⟩ := hSW; obtain ⟨p0, p1, p2, p3⟩ := hSB.c4; have zz := Blk.lt hSB; have zb := World.block_lt_of_cell? W ⟨b, o + j, none⟩ hS1; go_simp; first | done | with_reducible rfl)
                try simp only [Act.put, List.setIfInBounds_toArray, List.set_cons_zero, List.set_cons_succ]
                refine wpAnyH_take (i := 10) (oi := ⟨_, _, _, _, _, _⟩) (v := ?_) rfl (by kernel_rfl) (by kernel_rfl) (by kernel_rfl) (fun _ _ _ h => h) (Or.inl ⟨by rfl, ?_⟩) (by assumption) ?_
                rotate_left
                · (intro W hSW; (try dsimp only at hSW); obtain ⟨hSB, hS1, hS2⟩ := hSW; obtain ⟨p0, p1, p2, p3⟩ := hSB.c4; have zz := Blk.lt hSB; have zb := World.block_lt_of_cell? W ⟨b, o + j, none⟩ hS1; go_simp; first | done | with_reducible rfl)
                try simp only [Act.put, List.setIfInBounds_toArray, List.set_cons_zero, List.set_cons_succ]
                refine wpAnyH_take (i := 11) (oi := ⟨_, _, _, _, _, _⟩) (v := ?_) rfl (by kernel_rfl) (by kernel_rfl) (by kernel_rfl) (fun _ _ _ h => h) (Or.inl ⟨by rfl, ?_⟩) (by assumption) ?_
                rotate_left
                · (intro W hSW; (try dsimp only at hSW); obtain ⟨hSB, hS1, hS2⟩ := hSW; obtain ⟨p0, p1, p2, p3⟩ := hSB.c4; have zz := Blk.lt hSB; have zb := World.block_lt_of_cell? W ⟨b, o + j, none⟩ hS1; go_simp; first | done | with_reducible rfl)
                try simp only [Act.put, List.setIfInBounds_toArray, List.set_cons_zero, List.set_cons_succ]
                refine wpAnyH_take (i := 12) (oi := ⟨_, _, _, _, _, _⟩) (v := ?_) rfl (by kernel_rfl) (by kernel_rfl) (by kernel_rfl) (fun _ _ _ h => h) (Or.inl ⟨by rfl, ?_⟩) (by assumption) ?_
                rotate_left
                · (intro W hSW; (try dsimp only at hSW); obtain ⟨hSB, hS1, hS2⟩ := hSW; obtain ⟨p0, p1, p2, p3⟩ := hSB.c4; have zz := Blk.lt hSB; have zb := World.block_lt_of_cell? W ⟨b, o + j, none⟩ hS1; go_simp; first | done | with_reducible rfl)
                try simp only [Act.put, List.setIfInBounds_toArray, List.set_cons_zero, List.set_cons_succ]
                refine wpAnyH_take (i := 13) (oi := ⟨_, _, _, _, _, _⟩) (v := ?_) rfl (by kernel_rfl) (by kernel_rfl) (by kernel_rfl) (fun _ _ _ h => h) (Or.inl ⟨by rfl, ?_⟩) (by assumption) ?_
                rotate_left
                · (intro W hSW; (try dsimp only at hSW); obtain ⟨hSB, hS1, hS2⟩ := hSW; obtain ⟨p0, p1, p2, p3⟩ := hSB.c4; have zz := Blk.lt hSB; have zb := World.block_lt_of_cell? W ⟨b, o + j, none⟩ hS1; go_simp; first | done | with_reducible rfl)
                try simp only [Act.put, List.setIfInBounds_toArray, List.set_cons_zero, List.set_cons_succ]
                refine wpAnyH_take (i := 14) (oi := ⟨_, _, _, _, _, _⟩) (v := ?_) rfl (by kernel_rfl) (by kernel_rfl) (by kernel_rfl) (fun _ _ _ h => h) (Or.inl ⟨by rfl, ?_⟩) (by assumption) ?_
                rotate_left
                · (intro W hSW; (try dsimp only at hSW); obtain ⟨hSB, hS1, hS2⟩ := hSW; obtain ⟨p0, p1, p2, p3⟩ := hSB.c4; have zz := Blk.lt hSB; have zb := World.block_lt_of_cell? W ⟨b, o + j, none⟩ hS1; go_simp; first | done | with_reducible rfl)
                try simp only [Act.put, List.setIfInBounds_toArray, List.set_cons_zero, List.set_cons_succ]
                refine wpAnyH_take (i := 15) (oi := ⟨_, _, _, _, _, _⟩) (v := ?_) rfl (by kernel_rfl) (by kernel_rfl) (by kernel_rfl) (fun _ _ _ h => h) (Or.inl ⟨by rfl, ?_⟩) (by assumption) ?_
                rotate_left
                · (intro W hSW; (try dsimp only at hSW); obtain ⟨hSB, hS1, hS2⟩ := hSW; obtain ⟨p0, p1, p2, p3⟩ := hSB.c4; have zz := Blk.lt hSB; have zb := World.block_lt_of_cell? W ⟨b, o + j, none⟩ hS1; go_simp; first | done | with_reducible rfl)
                try simp only [Act.put, List.setIfInBounds_toArray, List.set_cons_zero, List.set_cons_succ]
                refine wpAnyH_take (i := 16) (oi := ⟨_, _, _, _, _, _⟩) (v := ?_) rfl (by kernel_rfl) (by kernel_rfl) (by kernel_rfl) (fun _ _ _ h => h) (Or.inl ⟨by rfl, ?_⟩) (by assumption) ?_
                rotate_left
                · (intro W hSW; (try dsimp only at hSW); obtain ⟨hSB, hS1, hS2⟩ := hSW; obtain ⟨p0, p1, p2, p3⟩ := hSB.c4; have zz := Blk.lt hSB; have zb := World.block_lt_of_cell? W ⟨b, o + j, none⟩ hS1; go_simp; first | done | with_reducible rfl)
                try simp only [Act.put, List.setIfInBounds_toArray, List.set_cons_zero, List.set_cons_succ]
                refine wpAnyH_take (i := 17) (oi := ⟨_, _, _, _, _, _⟩) (v := ?_) rfl (by kernel_rfl) (by kernel_rfl) (by kernel_rfl) (fun _ _ _ h => h) (Or.inl ⟨by rfl, ?_⟩) (by assumption) ?_
                rotate_left
                · (intro W hSW; (try dsimp only at hSW); obtain ⟨hSB, hS1, hS2⟩ := hSW; obtain ⟨p0, p1, p2, p3⟩ := hSB.c4; have zz := Blk.lt hSB; have zb := World.block_lt_of_cell? W ⟨b, o + j, none⟩ hS1; go_simp; first | done | with_reducible rfl)
                try simp only [Act.put, List.setIfInBounds_toArray, List.set_cons_zero, List.set_cons_succ]
                refine wpAnyH_take (i := 18) (oi := ⟨_, _, _, _, _, _⟩) (v := ?_) rfl (by kernel_rfl) (by kernel_rfl) (by kernel_rfl) (fun _ _ _ h => h) (Or.inl ⟨by rfl, ?_⟩) (by assumption) ?_
                rotate_left
                · (intro W hSW; (try dsimp only at hSW); obtain ⟨hSB, hS1, hS2⟩ := hSW; obtain ⟨p0, p1, p2, p3⟩ := hSB.c4; have zz := Blk.lt hSB; have zb := World.block_lt_of_cell? W ⟨b, o + j, none⟩ hS1; go_simp; first | done | with_reducible rfl)
                try simp only [Act.put, List.setIfInBounds_toArray, List.set_cons_zero, List.set_cons_succ]
                refine wpAnyH_take (i := 19) (oi := ⟨_, _, _, _, _, _⟩) (v := .bool true) rfl (by kernel_rfl) (by kernel_rfl) (by kernel_rfl) (fun _ _ _ h => h) (Or.inl ⟨by rfl, ?_⟩) (by assumption) ?_
                · (intro W hSW; (try dsimp only at hSW); obtain ⟨hSB, hS1, hS2⟩ := hSW; obtain ⟨p0, p1, p2, p3⟩ := hSB.c4; have zz := Blk.lt hSB; have zb := World.block_lt_of_cell? W ⟨b, o + j, none⟩ hS1; go_simp; first | done | exact hbl3 | (simp [hbl3]; done) | with_reducible rfl)
                try simp only [Act.put, List.setIfInBounds_toArray, List.set_cons_zero, List.set_cons_succ]
                refine wpAnyH_take (i := 20) (oi := ⟨_, _, _, _, _, _⟩) (v := ?_) rfl (by kernel_rfl) (by kernel_rfl) (by kernel_rfl) (fun _ _ _ h => h) (Or.inl ⟨by rfl, ?_⟩) (by assumption) ?_
                rotate_left
                · (intro W hSW; (try dsimp only at hSW); obtain ⟨hSB, hS1, hS2⟩ := hSW; obtain ⟨p0, p1, p2, p3⟩ := hSB.c4; have zz := Blk.lt hSB; have zb := World.block_lt_of_cell? W ⟨b, o + j, none⟩ hS1; go_simp; first | done | with_reducible rfl)
                try simp only [Act.put, List.setIfInBounds_toArray, List.set_cons_zero, List.set_cons_succ]
                refine wpAnyH_take (i := 21) (oi := ⟨_, _, _, _, _, _⟩) (v := ?_) rfl (by kernel_rfl) (by kernel_rfl) (by kernel_rfl) (fun _ _ _ h => h) (Or.inl ⟨by rfl, ?_⟩) (by assumption) ?_
                rotate_left
                · (intro W hSW; (try dsimp only at hSW); obtain ⟨hSB, hS1, hS2⟩ := hSW; obtain ⟨p0, p1, p2, p3⟩ := hSB.c4; have zz := Blk.lt hSB; have zb := World.block_lt_of_cell? W ⟨b, o + j, none⟩ hS1; go_simp; first | done | with_reducible rfl)
                try simp only [Act.put, List.setIfInBounds_toArray, List.set_cons_zero, List.set_cons_succ]
                refine wpAnyH_done (by kernel_rfl) ?_ _
                go_wp2_with fail
                go_meet
                case rel => exact ⟨rfl, HB5, KK5⟩
        case rest =>
          obtain ⟨rfl, hB5, hK5⟩ := hcut
          clear m0 m1 m2 m3 z1 hB hK HUd HUd0
          cases bd with
          | true =>
            obtain rfl : v = (10, -1, -1) := by
              rw [HV2.out, if_neg]
              intro hall
              have := List.all_eq_true.1 hall i (List.mem_range.2 hlt)
              rw [← HBd.out] at this
              cases this
            go_wp2
            go_ret3
            exact ⟨rfl, hB5.out⟩
          | false =>
            have HE2 : Hid (∀ k, k < i + 1 → badF M k = false) := fun k hk => by
              rcases Nat.lt_or_ge k i with h | h
              · exact hE.out k h
              · obtain rfl : k = i := by omega
                exact HBd.out.symm
            go_wp2
            go_roundw
            case rel => exact ⟨i + 1, by omega, by go_num, HE2, hB5, hK5⟩
            case measure => simp [intOf]; omega
      · obtain rfl : i = ls := by omega
        obtain rfl : v = (0, -1, -1) := by
          rw [HV2.out, if_pos]
          refine List.all_eq_true.2 fun k hk => ?_
          rw [hE.out k (List.mem_range.1 hk)]; rfl
        go_wp2
        go_ret3
        exact ⟨rfl, hB.out⟩
  · have hg : (0 : Int) < r := by omega
    obtain rfl : v = (r, f, s) := by rw [HV.out, if_pos (show r ≠ 0 from hr)]
    clear HV hr
    go_wp2
    go_ret3
    exact ⟨rfl, HB2.out⟩
end Go.Proofs.Ytpdebnecfknohaa
namespace Go.Proofs.Ytpdebnecfknohaa
open Go.RowKit
set_option linter.unusedVariables false
set_option linter.unusedSimpArgs false
set_option maxRecDepth 20000
theorem check_zero9 (M : Md) (h : (checkF M).1 = 0) : checkF M = (0, -1, -1) := by
  unfold checkF at h ⊢
  split at h
  · rename_i h1; exact absurd h h1
  · rename_i h1
    rw [if_neg h1]
    split at h
    · rename_i h2; rw [if_pos h2]
    · simp at h
theorem tree_zero9 (M : Md) (h : (treeF M).1 = 0) : treeF M = (0, -1, -1) := (treeF_in M h).1
theorem told_self9 (v : Int × Int × Int) (h : v.1 = 0 → v = (0, -1, -1)) : toldF (v.1, v.2.1, v.2.2) v.1 v.2.1 v.2.2 = true := by
  by_cases h0 : v.1 = 0
  · rw [h h0]; rfl
  · simp [toldF, h0]
/-- What is asked of a module that is handed in. -/
structure Md.In (M : Md) : Prop where
  globs : WfI M.globs
  ents : WfI M.ents
  names : WfI (namesL M.funcs)
  fns : ∀ f ∈ M.funcs, WfI f.locals ∧ WfI f.sites ∧ f.body.size ≤ 1000000 ∧ f.body.wide ≤ 1000000 ∧ f.body.fit
def goodF (f : Fn) : Prop := f.locals.length ≤ 60 ∧ f.sites.length ≤ 60 ∧ shF f.body 0 = true
theorem Md.In.wf {M : Md} (h : M.In) (h1 : M.strs.length ≤ 60) (h2 : M.globs.length ≤ 60) (h3 : M.funcs.length ≤ 50) (h4 : M.ents.length ≤ 50) (hg : ∀ f ∈ M.funcs, goodF f) : M.Wf :=
  ⟨by omega, ⟨by omega, h.globs⟩, ⟨by omega, h.ents⟩, by omega, fun f hf => by
    obtain ⟨a, b, c, d, _⟩ := h.fns f hf
    obtain ⟨g1, g2, _⟩ := hg f hf
    exact ⟨a, b, by omega, by omega, c, d⟩, h.names⟩
theorem Md.In.low {M : Md} (h : M.In) (hg : ∀ f ∈ M.funcs, goodF f) : ∀ f ∈ M.funcs, ∀ x ∈ f.body.flat 0, x.Low := fun f hf => shF_low _ (h.fns f hf).2.2.2.2 (hg f hf).2.2
theorem told_all (v : Int × Int × Int) (hv : v.1 = 0 → v = (0, -1, -1)) (wx : World) : Calls Try.prog 17 #[faultV v.1 v.2.1 v.2.2, .int .i64 v.1, .int .i64 v.2.1, .int .i64 v.2.2] wx (BlB wx true) := by
  have := told_any v.1 v.2.1 v.2.2 v.1 v.2.1 v.2.2 wx
  rwa [told_self9 v hv] at this
end Go.Proofs.Ytpdebnecfknohaa
namespace Go.Proofs.Ytpdebnecfknohaa
open Go.RowKit
set_option linter.unusedVariables false
set_option linter.unusedSimpArgs false
set_option maxRecDepth 20000
theorem acs_old9 {w wx : World} {A : Option Addr} {l : List Ac} (hx : Below w.heap.size w wx) (h : AcsAt w A l) : AcsAt wx A l := fun hp => by
  obtain ⟨b, o, hA, hc⟩ := h hp
  refine ⟨b, o, hA, fun i hi => ?_⟩
  obtain ⟨x0, x1, x2, x3⟩ := hc i hi
  have hl := World.block_lt_of_cell? w ⟨b, o + i * 4, none⟩ x0
  exact ⟨cell_old hx hl x0, cell_old hx hl x1, cell_old hx hl x2, cell_old hx hl x3⟩
theorem numsF_wf9 (l fr : List (List UInt8)) (x : List Int) (hl : l.length ≤ 1000000) : WfI (numsF l fr x) := fun n hn => by
  simp only [numsF, List.mem_map] at hn
  obtain ⟨a, _, rfl⟩ := hn
  have := numF_bound l (fr.getD a.toNat []) 0
  omega
theorem entsF_wf9 (E : Nat) : ∀ n, n ≤ 4 → WfI (entsF E n) := by
  intro n hn
  induction n with
  | zero => intro x hx; simp [entsF] at hx
  | succ n ih =>
    intro x hx
    rw [entsF] at hx
    split at hx
    · rcases List.mem_append.1 hx with h | h
      · exact ih (by omega) x h
      · simp at h; omega
    · exact ih (by omega) x hx
theorem made_okM (G F E : Nat) (acts : List Ac) : OkM (canM (mkM (gnames (1 + G / 4 % 3) (G % 4)) (ints (G % 4)) F E acts)) := by
  have h := mk_made (gnames (1 + G / 4 % 3) (G % 4)) F E G acts (gnames_len _ _)
  have hl := tree_low _ (made_ok G F E acts).1
  have hs : (canl (mkM (gnames (1 + G / 4 % 3) (G % 4)) (ints (G % 4)) F E acts)).length ≤ 1000000 := h.fit.strs
  refine ⟨h.fit.strs, ⟨h.fit.globs, numsF_wf9 _ _ _ hs⟩, ⟨h.fit.ents, entsF_wf9 E _ (by omega)⟩, h.fit.funcs, fun f hf => ?_⟩
  have h1 := h.fit.fns f hf
  have h2 := h.small.body f hf
  have h3 := h.nums f hf
  have h4 := hl f hf
  obtain ⟨f0, _, rfl⟩ := List.mem_map.1 hf
  exact ⟨⟨numsF_wf9 _ _ _ hs, h1.locals⟩, ⟨numsF_wf9 _ _ _ hs, h1.sites⟩, ⟨by omega, by omega⟩, h4, by omega⟩
section
variable {w0 : Nat} {W W' : World} {g q : Nat} {M : Md} {As Ag Ae : Option Addr} {cs cg cf ce : Nat} {Vs : List Value} {Ts : List (List St7)}
theorem Nr.old (h : Nr w0 W g q M As Ag Ae cs cg cf ce Vs Ts) (hb : Below W.heap.size W W') : Nr w0 W' g q M As Ag Ae cs cg cf ce Vs Ts := by
  obtain ⟨rc, hr1, hr2⟩ := h.row
  refine ⟨h.box.old hb, h.bel, own_old h.strs hb, own_old h.globs hb, own_old h.ents hb, h.ge, ⟨rc, hr1.old hb, hr2⟩, fun i hi => ?_, h.apart⟩
  obtain ⟨Al, cl, At, ct, Ab, cb, T, hc, r1, r2, hV, hT, hB, hR⟩ := h.fns i hi
  exact ⟨Al, cl, At, ct, Ab, cb, T, fun t u ht => cell_old hb hr1.lt (hc t u ht), r1.old hb (by decide), r2.old hb (by decide), hV, hT, hB, hR.kept (fun k hk => hb.block k (hR.blk k hk).2.1) (fun k _ hk => hb.block k hk) (fun _ h _ => h)⟩
end
end Go.Proofs.Ytpdebnecfknohaa
namespace Go.Proofs.Ytpdebnecfknohaa
open Go.RowKit
set_option linter.unusedVariables false
set_option linter.unusedSimpArgs false
set_option maxRecDepth 20000
theorem made_sits (G F E : Nat) (acts : List Ac) : ∀ f ∈ (canM (mkM (gnames (1 + G / 4 % 3) (G % 4)) (ints (G % 4)) F E acts)).funcs, 0 < f.sites.length := fun f hf => by
  simp only [canM, List.mem_map] at hf
  obtain ⟨f0, hf0, rfl⟩ := hf
  obtain ⟨f1, h1, _, _, h4⟩ := fillB_mem hf0
  obtain ⟨i, hi, rfl⟩ := List.mem_iff_getElem.1 h1
  have e := mkL_get (gnames (1 + G / 4 % 3) (G % 4)) F (1 + F % 4) i (by rwa [mkL_len] at hi)
  rw [List.getElem?_eq_getElem hi, Option.some.injEq] at e
  simp only [canFn, numsF, List.length_map, h4, e, seqI, List.length_range, nsF]
  omega
theorem made_few (G F E : Nat) (acts : List Ac) : (canM (mkM (gnames (1 + G / 4 % 3) (G % 4)) (ints (G % 4)) F E acts)).strs.length ≤ 1000 ∧ (canM (mkM (gnames (1 + G / 4 % 3) (G % 4)) (ints (G % 4)) F E acts)).globs.length ≤ 40 ∧ (canM (mkM (gnames (1 + G / 4 % 3) (G % 4)) (ints (G % 4)) F E acts)).ents.length ≤ 40 ∧ ∀ f ∈ (canM (mkM (gnames (1 + G / 4 % 3) (G % 4)) (ints (G % 4)) F E acts)).funcs, f.locals.length ≤ 40 ∧ f.sites.length ≤ 40 := by
  have ht := tree_ok _ (made_ok G F E acts).1
  refine ⟨?_, ht.2.2.1, ht.2.2.2.2.1, fun f hf => ⟨(ht.2.2.2.2.2 f hf).1, (ht.2.2.2.2.2 f hf).2.1⟩⟩
  have hlen := mkS_len (gnames (1 + G / 4 % 3) (G % 4)) F (1 + F % 4)
  have hg := gnames_len (1 + G / 4 % 3) (G % 4)
  have := canL_len (mkM (gnames (1 + G / 4 % 3) (G % 4)) (ints (G % 4)) F E acts).globs (mkM (gnames (1 + G / 4 % 3) (G % 4)) (ints (G % 4)) F E acts).funcs (mkM (gnames (1 + G / 4 % 3) (G % 4)) (ints (G % 4)) F E acts).strs (mkM (gnames (1 + G / 4 % 3) (G % 4)) (ints (G % 4)) F E acts).strs.length
  have e : (mkM (gnames (1 + G / 4 % 3) (G % 4)) (ints (G % 4)) F E acts).strs.length = (mkS (gnames (1 + G / 4 % 3) (G % 4)) F (1 + F % 4)).length := rfl
  show (canL _ _ _ _).length ≤ 1000
  omega
/-- The module in its box, ahead of the checks. -/
def Nz (w wz : World) (g : Nat) : Prop := ∃ (M : Md) (Bs Bg Bf Be : Option Addr) (ds dg df de : Nat), Blk wz g 30 #[.slice Bs M.strs.length ds, .slice Bg M.globs.length dg, .slice Bf M.funcs.length df, .slice Be M.ents.length de] ∧ MdR wz Bs Bg Bf Be M ∧ OkM M ∧ Below w.heap.size w wz
/-- What is read, behind nothing, and new elements behind that: in both orders. -/
theorem two_any (t e : TypeId) (z : Value) (size bytes : Nat) (ht : Try.prog.underlying t = some (.slice e)) (hinfo : (Try.prog.info? e).map (fun i => (i.zero, i.size, i.bytes)) = some (some z, size, bytes)) (hz : z.cells.size = size) (hs : 0 < size) (hb : bytes ≤ 1000) {W : World} {A : Option Addr} {n c m : Nat} {xs us : List Value}
    (hr : RdS (fun _ => True) W A n size xs) (h1 : ∀ u ∈ xs, u.oneCell' = true) (hn : n ≤ 1000000) (hu : us.length = m * size) (h2 : ∀ u ∈ us, u.oneCell' = true) (hm : m ≤ 10) :
    (∃ A1 c1 V1 A2 c2 V2, (Builtin.append_ #[t, t] t #[.slice none 0 0, .slice A n c]).run Try.prog (W.alloc (.cells us.toArray e)) = .ok (.slice A1 n c1) V1 ∧ (Builtin.append_ #[t, t] t #[.slice A1 n c1, .slice (some ⟨W.heap.size, 0, none⟩) m m]).run Try.prog V1 = .ok (.slice A2 (n + m) c2) V2 ∧ V2.ownsRow W.heap.size e size (.slice A2 (n + m) c2) (n + m) (xs ++ us) ∧ Below W.heap.size W V1 ∧ Below W.heap.size W V2) ∧
    (∃ A1 c1 V1 A2 c2 V2, (Builtin.append_ #[t, t] t #[.slice none 0 0, .slice A n c]).run Try.prog W = .ok (.slice A1 n c1) V1 ∧ (Builtin.append_ #[t, t] t #[.slice A1 n c1, .slice (some ⟨V1.heap.size, 0, none⟩) m m]).run Try.prog (V1.alloc (.cells us.toArray e)) = .ok (.slice A2 (n + m) c2) V2 ∧ V2.ownsRow W.heap.size e size (.slice A2 (n + m) c2) (n + m) (xs ++ us) ∧ Below W.heap.size W V1 ∧ Below W.heap.size W V2) := by
  obtain ⟨i0, hi0, hz0, hz1, hz2⟩ := info_parts hinfo
  have first : ∀ (V : World) (B : Nat), B ≤ V.heap.size → RdS (fun _ => True) V A n size xs → ∃ A1 c1 V1, (Builtin.append_ #[t, t] t #[.slice none 0 0, .slice A n c]).run Try.prog V = .ok (.slice A1 n c1) V1 ∧ V1.ownsRow B e size (.slice A1 n c1) n xs ∧ V.grownBy V1 none := fun V B hB h => by
    cases A with
    | none =>
      have h0 : n = 0 := by
        rcases Nat.eq_zero_or_pos n with h0 | h0
        · exact h0
        · obtain ⟨b, o, hA, _⟩ := h.2 h0; cases hA
      subst h0
      have hxs : xs = [] := List.eq_nil_of_length_eq_zero (by rw [h.1, Nat.zero_mul])
      subst hxs
      refine ⟨none, 0, V, ?_, World.ownsRow_nil _ _ _ _, World.grownBy.refl _ _⟩
      simp [Builtin.append_, run_underlying ht, sizeOf, typeInfo, hi0, Builtin.lenOf, Builtin.firstCells]
    | some a =>
      have hc : ∀ j u, xs[j]? = some u → V.cell? (a.add j) = some u := by
        intro j u hj
        have hp : 0 < n := by
          rcases Nat.eq_zero_or_pos n with h0 | h0
          · have hxs : xs = [] := List.eq_nil_of_length_eq_zero (by rw [h.1, h0, Nat.zero_mul])
            subst hxs; simp at hj
          · exact h0
        obtain ⟨b, o, hA, _, hc⟩ := h.2 hp
        injection hA with hA
        subst hA
        rw [Go.WideShapes.add_plain]
        exact hc j u hj
      obtain ⟨v5, w5, hr5, hO5, hg5, _, _⟩ := run_append_own_at (P := Try.prog) V B t t e i0 z size bytes ht hi0 hz0 hz1 hz2 hz hs (.slice none 0 0) 0 [] (World.ownsRow_nil _ _ _ _) a n c xs h.1 hc h1 (by unfold maxLen; omega) (by
        have : (0 + n) * bytes ≤ 1000000 * 1000 := Nat.mul_le_mul (by omega) hb
        omega) hB
      rw [Nat.zero_add, List.nil_append] at hO5
      obtain ⟨A', c', rfl⟩ := own_slice hO5
      exact ⟨A', c', w5, hr5, hO5, hg5⟩
  have second : ∀ (V : World) (B k : Nat) (A1 : Option Addr) (c1 : Nat), B ≤ V.heap.size → V.ownsRow B e size (.slice A1 n c1) n xs → (∀ j u, us[j]? = some u → V.cell? ⟨k, j, none⟩ = some u) → ∃ A2 c2 V2, (Builtin.append_ #[t, t] t #[.slice A1 n c1, .slice (some ⟨k, 0, none⟩) m m]).run Try.prog V = .ok (.slice A2 (n + m) c2) V2 ∧ V2.ownsRow B e size (.slice A2 (n + m) c2) (n + m) (xs ++ us) ∧ V.grownBy V2 (Value.slice A1 n c1).ownBlock := fun V B k A1 c1 hB hO hc => by
    obtain ⟨v5, w5, hr5, hO5, hg5, _, _⟩ := run_append_own_at (P := Try.prog) V B t t e i0 z size bytes ht hi0 hz0 hz1 hz2 hz hs (.slice A1 n c1) n xs hO ⟨k, 0, none⟩ m m us hu (fun j u hj => by rw [Go.WideShapes.add_plain, Nat.zero_add]; exact hc j u hj) h2 (by unfold maxLen; omega) (by
        have : (n + m) * bytes ≤ 1000010 * 1000 := Nat.mul_le_mul (by omega) hb
        omega) hB
    obtain ⟨A', c', rfl⟩ := own_slice hO5
    exact ⟨A', c', w5, hr5, hO5, hg5⟩
  have cellU : ∀ (V : World) (j : Nat) (u : Value), us[j]? = some u → (V.alloc (.cells us.toArray e)).cell? ⟨V.heap.size, j, none⟩ = some u := fun V j u hj => by
    rw [cell_of_row _ V.heap.size _ _ e (0, 0) (heap_alloc_new V _)]
    simpa using hj
  constructor
  · have hA : Below W.heap.size W (W.alloc (.cells us.toArray e)) := (Below.refl _ _).alloc (Nat.le_refl _) _
    obtain ⟨A1, c1, V1, r1, o1, g1⟩ := first (W.alloc (.cells us.toArray e)) (W.heap.size + 1) (by simp) (hr.old hA hs)
    have hb1 : Below W.heap.size W V1 := hA.grown g1 (by simp) (fun k hk => by cases hk)
    obtain ⟨A2, c2, V2, r2, o2, g2⟩ := second V1 (W.heap.size + 1) W.heap.size A1 c1 (by have := g1.size; simp at this; omega) o1 (fun j u hj => (World.cell?_of_block (g1.block W.heap.size (by simp) (by simp))).trans (cellU W j u hj))
    exact ⟨A1, c1, V1, A2, c2, V2, r1, r2, own_base o2 (by omega), hb1, hb1.grown g2 hb1.size (fun k hk => by have := own_ge o1 k hk.symm; omega)⟩
  · obtain ⟨A1, c1, V1, r1, o1, g1⟩ := first W W.heap.size (Nat.le_refl _) hr
    have hb1 : Below W.heap.size W V1 := (Below.refl _ _).grown g1 (Nat.le_refl _) (fun k hk => by cases hk)
    have hb2 : Below W.heap.size W (V1.alloc (.cells us.toArray e)) := hb1.alloc hb1.size _
    obtain ⟨A2, c2, V2, r2, o2, g2⟩ := second (V1.alloc (.cells us.toArray e)) W.heap.size V1.heap.size A1 c1 hb2.size (o1.alloc _) (cellU V1)
    exact ⟨A1, c1, V1, A2, c2, V2, r1, r2, o2, hb1, hb2.grown g2 hb2.size (fun k hk => by have := own_ge o1 k hk.symm; omega)⟩
section
variable {w0 : Nat} {W W' : World} {g q : Nat} {M : Md} {As Ag Ae : Option Addr} {cs cg cf ce : Nat} {Vs : List Value} {Ts : List (List St7)}
theorem Nr.cut (h : Nr w0 W g q M As Ag Ae cs cg cf ce Vs Ts) : Nr w0 W g q M As Ag Ae cs cg cf ce (Vs.take M.funcs.length) Ts := by
  have hz : ∀ k, Zk g q (.slice As M.strs.length cs) (.slice Ag M.globs.length cg) (.slice Ae M.ents.length ce) Vs k → Zk g q (.slice As M.strs.length cs) (.slice Ag M.globs.length cg) (.slice Ae M.ents.length ce) (Vs.take M.funcs.length) k := fun k hk => ⟨hk.1, hk.2.1, hk.2.2.1, hk.2.2.2.1, hk.2.2.2.2.1, fun u hu => hk.2.2.2.2.2 u (List.mem_of_mem_take hu)⟩
  have ht : ∀ (i : Nat) (v : Value), (Vs.take M.funcs.length)[i]? = some v → Vs[i]? = some v := fun i v hv => by
    rw [List.getElem?_take] at hv
    split at hv
    · exact hv
    · cases hv
  refine ⟨h.box, h.bel, h.strs, h.globs, h.ents, h.ge, h.row, fun i hi => ?_, fun i j v u hij hv hu => h.apart i j v u hij (ht i v hv) (ht j u hu)⟩
  obtain ⟨Al, cl, At, ct, Ab, cb, T, hc, r1, r2, hV, hT, hB, hR⟩ := h.fns i hi
  exact ⟨Al, cl, At, ct, Ab, cb, T, hc, r1.kept (fun _ _ _ => rfl) (fun k hk _ => hz k hk) (by decide), r2.kept (fun _ _ _ => rfl) (fun k hk _ => hz k hk) (by decide), by rw [List.getElem?_take_of_lt hi]; exact hV, hT, hB, hR.kept (fun _ _ => rfl) (fun _ _ _ => rfl) (fun k hk _ => hz k hk)⟩
/-- A change beside functions. -/
theorem Nr.fns_box (h : Nr w0 W g q M As Ag Ae cs cg cf ce Vs Ts) (hl : Vs.length ≤ M.funcs.length) (row : Option Nat) (hrow : row = none ∨ row = (Value.slice As M.strs.length cs).ownBlock ∨ row = (Value.slice Ag M.globs.length cg).ownBlock ∨ row = (Value.slice Ae M.ents.length ce).ownBlock)
    (hK : ∀ k, k < W.heap.size → k ≠ g → some k ≠ row → W'.heap[k]? = W.heap[k]?) : FnsS (fun _ => True) W' (some ⟨q, 0, none⟩) M.funcs := by
  obtain ⟨rc, hr1, _⟩ := h.row
  refine h.fns_all (hK q hr1.lt h.qg ?_) (fun k hk hlt => hK k hlt hk.1 ?_) (fun u hu k hk => ?_)
  · rcases hrow with rfl | rfl | rfl | rfl
    · simp
    · exact own_ne h.strs hr1 (by decide)
    · exact own_ne h.globs hr1 (by decide)
    · exact own_ne h.ents hr1 (by decide)
  · rcases hrow with rfl | rfl | rfl | rfl
    · simp
    · exact hk.2.2.1
    · exact hk.2.2.2.1
    · exact hk.2.2.2.2.1
  · obtain ⟨⟨cur, hcur⟩, n1, n2, n3, n4, n5⟩ := h.named hu hl hk
    refine hK k hcur.lt n1 ?_
    rcases hrow with rfl | rfl | rfl | rfl
    · simp
    · exact n3
    · exact n4
    · exact n5
theorem row_keep {base e n c : Nat} {A : Option Addr} {xs : List Value} (ho : W.ownsRow base e 1 (.slice A n c) n xs) (hk : ∀ k, some k = (Value.slice A n c).ownBlock → W'.heap[k]? = W.heap[k]?) : RdS (fun _ => True) W' A n 1 xs :=
  (RdS.own (own_blocks ho hk)).kept (fun _ _ _ => rfl) (fun _ _ _ => trivial) (by decide)
theorem Nr.strs_k (h : Nr w0 W g q M As Ag Ae cs cg cf ce Vs Ts) (row : Option Nat) (hrow : row = none ∨ row = (Value.slice Ag M.globs.length cg).ownBlock ∨ row = (Value.slice Ae M.ents.length ce).ownBlock)
    (hK : ∀ k, k < W.heap.size → k ≠ g → some k ≠ row → W'.heap[k]? = W.heap[k]?) : RdS (fun _ => True) W' As M.strs.length 1 (strV M.strs) := row_keep h.strs fun k hk => by
  obtain ⟨n1, _, n3, n4⟩ := h.sNe hk
  obtain ⟨_, cur, hb⟩ := own_blk h.strs _ hk
  refine hK k hb.lt n1 ?_
  rcases hrow with rfl | rfl | rfl
  · simp
  · exact n3
  · exact n4
theorem Nr.globs_k (h : Nr w0 W g q M As Ag Ae cs cg cf ce Vs Ts) (row : Option Nat) (hrow : row = none ∨ row = (Value.slice As M.strs.length cs).ownBlock ∨ row = (Value.slice Ae M.ents.length ce).ownBlock)
    (hK : ∀ k, k < W.heap.size → k ≠ g → some k ≠ row → W'.heap[k]? = W.heap[k]?) : RdS (fun _ => True) W' Ag M.globs.length 1 (intV M.globs) := row_keep h.globs fun k hk => by
  obtain ⟨_, cur, hb⟩ := own_blk h.globs _ hk
  refine hK k hb.lt (fun e => by subst e; exact own_ne h.globs h.box (by decide) hk) ?_
  rcases hrow with rfl | rfl | rfl
  · simp
  · exact own_ne h.strs hb (by decide)
  · exact h.ge k hk
theorem Nr.ents_k (h : Nr w0 W g q M As Ag Ae cs cg cf ce Vs Ts) (row : Option Nat) (hrow : row = none ∨ row = (Value.slice As M.strs.length cs).ownBlock ∨ row = (Value.slice Ag M.globs.length cg).ownBlock)
    (hK : ∀ k, k < W.heap.size → k ≠ g → some k ≠ row → W'.heap[k]? = W.heap[k]?) : RdS (fun _ => True) W' Ae M.ents.length 1 (intV M.ents) := row_keep h.ents fun k hk => by
  obtain ⟨_, cur, hb⟩ := own_blk h.ents _ hk
  refine hK k hb.lt (fun e => by subst e; exact own_ne h.ents h.box (by decide) hk) ?_
  rcases hrow with rfl | rfl | rfl
  · simp
  · exact own_ne h.strs hb (by decide)
  · exact fun e => h.ge k e hk
/-- A cell of a function is another one. -/
theorem Nr.nz_q (h : Nr w0 W g q M As Ag Ae cs cg cf ce Vs Ts) (hl : Vs.length ≤ M.funcs.length) (hO : OkM M) {w Wa : World} (hb : Below W.heap.size W Wa) (hw : Below w.heap.size w W) (hw0 : w.heap.size ≤ w0) (j : Nat) (hj : j < M.funcs.length) (t : Nat) (ht : t < 5) (u : Value) (f' : Fn) (hOf : OkF f')
    (hf : ∃ cs', FnS (fun k => k ≠ q) Wa cs' f' ∧ ∀ s v, cs'[s]? = some v → if s = t then v = u else W.cell? ⟨q, j * 5 + s, none⟩ = some v) : Nz w (Wa.setCell ⟨q, j * 5 + t, none⟩ u) g := by
  obtain ⟨rc, hr1, hr2⟩ := h.row
  have hK : ∀ k, k < W.heap.size → k ≠ q → (Wa.setCell ⟨q, j * 5 + t, none⟩ u).heap[k]? = W.heap[k]? := fun k hk hq => (Below.heap_setCell _ _ _ _ hq).trans (hb.block k hk)
  have hK2 : ∀ k, k ≠ q → (Wa.setCell ⟨q, j * 5 + t, none⟩ u).heap[k]? = Wa.heap[k]? := fun k hq => Below.heap_setCell _ _ _ _ hq
  have hBq := hr1.old hb
  have hcq : ∀ o, o ≠ j * 5 + t → (Wa.setCell ⟨q, j * 5 + t, none⟩ u).cell? ⟨q, o, none⟩ = W.cell? ⟨q, o, none⟩ := fun o ho => by
    rw [(hBq.set_ (j * 5 + t) u).cell, hr1.cell, Array.getElem?_setIfInBounds_ne (by omega)]
  have hcu : (Wa.setCell ⟨q, j * 5 + t, none⟩ u).cell? ⟨q, j * 5 + t, none⟩ = some u := by
    rw [(hBq.set_ (j * 5 + t) u).cell, Array.getElem?_setIfInBounds_self_of_lt (by omega)]
  obtain ⟨cs', hfs, hcs⟩ := hf
  have hlen : cs'.length = 5 := by obtain ⟨_, _, _, _, _, _, rfl, _⟩ := hfs; rfl
  have hfn : FnsS (fun _ => True) (Wa.setCell ⟨q, j * 5 + t, none⟩ u) (some ⟨q, 0, none⟩) (M.funcs.set j f') := h.fns_set j f' (fun i s hi hij hs => hcq _ (by omega)) (fun k hk hlt => hK k hlt hk.2.1) (fun i v k hij hv hk => by
    obtain ⟨⟨cur, hcur⟩, n1, n2, _⟩ := h.named (List.mem_of_getElem? hv) hl hk
    exact hK k hcur.lt n2) ⟨cs', by
      obtain ⟨Al, cl, At, ct, Ab, cb, e, r1, r2, r3⟩ := hfs
      exact ⟨Al, cl, At, ct, Ab, cb, e, r1.kept (fun k hk _ => hK2 k hk) (fun _ _ _ => trivial) (by decide), r2.kept (fun k hk _ => hK2 k hk) (fun _ _ _ => trivial) (by decide), r3.kept (fun k hk _ => hK2 k hk) (fun _ _ _ => trivial)⟩, fun s v hv => by
      have := hcs s v hv
      by_cases hs : s = t
      · subst hs
        rw [if_pos rfl] at this
        rw [this]; exact hcu
      · rw [if_neg hs] at this
        rw [hcq _ (by omega)]; exact this⟩
  have hrow : ∀ {e n c : Nat} {A : Option Addr} {xs : List Value}, W.ownsRow w0 e 1 (.slice A n c) n xs → e ≠ 40 → RdS (fun _ => True) (Wa.setCell ⟨q, j * 5 + t, none⟩ u) A n 1 xs := fun ho he => row_keep ho fun k hk => by
    obtain ⟨_, cur, hcur⟩ := own_blk ho k hk
    exact hK k hcur.lt (fun e => by subst e; exact own_ne ho hr1 he hk)
  refine ⟨⟨M.strs, M.globs, M.funcs.set j f', M.ents⟩, As, Ag, some ⟨q, 0, none⟩, Ae, cs, cg, cf, ce, ?_, ⟨hrow h.strs (by decide), hrow h.globs (by decide), hfn, hrow h.ents (by decide)⟩, hO.set j f' hOf, ?_⟩
  · rw [List.length_set]
    exact (h.box.old hb).far (fun e => h.qg e.symm) _
  · exact (hw.trans (hb.mono hw.size)).setCell (p := ⟨q, j * 5 + t, none⟩) (by have := h.bel.2; show _ ≤ q; omega) _
/-- Statements, each in its cells. -/
theorem bd_cells {S : Nat → Prop} {V : World} {b : Nat} (hb : S b) : ∀ (T : List St7) (o : Nat), (∀ i (h : i < T.length), ∃ cs, StS S V cs T[i] ∧ ∀ t v, cs[t]? = some v → V.cell? ⟨b, o + i * 7 + t, none⟩ = some v) → BdS S V b o (bdOf T)
  | [], _, _ => trivial
  | s :: T, o, h => by
    obtain ⟨cs, ⟨va, A, c, rfl, h1, h2⟩, hc⟩ := h 0 (by simp)
    simp only [List.getElem_cons_zero, Nat.zero_mul, Nat.add_zero] at hc h1 h2
    refine ⟨hb, ⟨hc 0 _ rfl, hc 1 _ rfl, hc 2 _ rfl, hc 3 _ rfl, hc 4 _ rfl⟩, ⟨va, hc 5 _ rfl, h1⟩, ⟨A, c, hc 6 _ rfl, h2⟩, bd_cells hb T (o + 7) fun i hi => ?_⟩
    obtain ⟨cs, hs, hc⟩ := h (i + 1) (by simpa using hi)
    refine ⟨cs, by simpa using hs, fun t v hv => ?_⟩
    have := hc t v hv
    rwa [show o + (i + 1) * 7 + t = o + 7 + i * 7 + t by omega] at this
/-- A statement is another one. -/
theorem Nr.nz_b (h : Nr w0 W g q M As Ag Ae cs cg cf ce Vs Ts) (hl : Vs.length ≤ M.funcs.length) (hO : OkM M) {w : World} (hbel : Below w.heap.size w W') (j : Nat) (hj : j < M.funcs.length) (bb cb : Nat) (T : List St7) (hTs : Ts[j]? = some T) (hV : Vs[j]? = some (.slice (some ⟨bb, 0, none⟩) T.length cb))
    (hK : ∀ k, k < W.heap.size → k ≠ bb → W'.heap[k]? = W.heap[k]?) (i : Nat) (hi : i < T.length) (hc : ∀ o, (∀ t, t < 7 → o ≠ i * 7 + t) → W'.cell? ⟨bb, o, none⟩ = W.cell? ⟨bb, o, none⟩) (s : St7) (hs : ∃ cs', StS (fun _ => True) W' cs' s ∧ ∀ t v, cs'[t]? = some v → W'.cell? ⟨bb, i * 7 + t, none⟩ = some v)
    (hOf : OkF ⟨M.funcs[j].name, M.funcs[j].params, M.funcs[j].locals, M.funcs[j].sites, bdOf (T.set i s)⟩) : Nz w W' g := by
  obtain ⟨rc, hr1, hr2⟩ := h.row
  obtain ⟨⟨cur, hcur⟩, n1, n2, n3, n4, n5⟩ := h.named (List.mem_of_getElem? hV) hl (k := bb) rfl
  obtain ⟨Al, cl, At, ct, Ab, cb', T', hcl, r1, r2, hV', hT', hBd, hR⟩ := h.fns j hj
  have eV : (Value.slice Ab M.funcs[j].body.len cb') = .slice (some ⟨bb, 0, none⟩) T.length cb := by
    rw [hV] at hV'; injection hV' with e; exact e.symm
  have hz : ∀ k, Zk g q (.slice As M.strs.length cs) (.slice Ag M.globs.length cg) (.slice Ae M.ents.length ce) Vs k → k < W.heap.size → W'.heap[k]? = W.heap[k]? := fun k hk hlt => hK k hlt (fun e => hk.2.2.2.2.2 _ (List.mem_of_getElem? hV) (by subst e; rfl))
  have eT : T' = T := by rw [hTs] at hT'; injection hT' with e; exact e.symm
  rw [eT] at hBd hR
  obtain ⟨css, ho, hcl2, hst⟩ := hR.own
  have hfn : FnsS (fun _ => True) W' (some ⟨q, 0, none⟩) (M.funcs.set j ⟨M.funcs[j].name, M.funcs[j].params, M.funcs[j].locals, M.funcs[j].sites, bdOf (T.set i s)⟩) := h.fns_set j _ (fun a t ha haj ht => World.cell?_of_block (hK q hr1.lt (fun e => n2 e.symm))) hz (fun a v k haj hv hk => by
      obtain ⟨⟨cur2, hcur2⟩, _⟩ := h.named (List.mem_of_getElem? hv) hl hk
      exact hK k hcur2.lt (fun e => h.apart a j _ _ haj hv hV k hk (by subst e; rfl)))
    ⟨[.int .i64 M.funcs[j].name, .int .i64 M.funcs[j].params, .slice Al M.funcs[j].locals.length cl, .slice At M.funcs[j].sites.length ct, .slice (some ⟨bb, 0, none⟩) T.length cb], ⟨Al, cl, At, ct, some ⟨bb, 0, none⟩, cb, by dsimp only; rw [bdOf_len, List.length_set], r1.kept hz (fun _ _ _ => trivial) (by decide), r2.kept hz (fun _ _ _ => trivial) (by decide), fun hp => ⟨bb, 0, rfl, bd_cells (S := fun _ => True) (V := W') trivial (T.set i s) 0 (fun m hm => by
        have hmT : m < T.length := by simpa using hm
        by_cases hmi : m = i
        · subst hmi
          rw [List.getElem_set_self]
          obtain ⟨cs', h1, h2⟩ := hs
          exact ⟨cs', h1, fun t v hv => by rw [Nat.zero_add]; exact h2 t v hv⟩
        · rw [List.getElem_set_ne (fun e => hmi e.symm)]
          obtain ⟨c, ec, hsm⟩ := hst m hmT
          have h7 : ∀ c ∈ css, c.length = 7 := fun c hc => by
            obtain ⟨a, ha, rfl⟩ := List.mem_iff_getElem.1 hc
            obtain ⟨c', e', _, _, _, e2, _⟩ := hst a (by omega)
            rw [List.getElem?_eq_getElem ha] at e'
            injection e' with e'
            rw [e', e2]; rfl
          refine ⟨c, hsm.kept hz (fun _ _ _ => trivial), fun t v hv => ?_⟩
          have ht7 : t < 7 := by
            have := (List.getElem?_eq_some_iff.1 hv).1
            rw [h7 c (List.mem_of_getElem? ec)] at this
            exact this
          rw [Nat.zero_add, hc _ (fun t' ht' => by omega)]
          have e1 := flat_get 7 css m c t h7 ec ht7
          rw [eV] at ho
          have := own_cellsM ho (m * 7 + t) v (by rw [e1]; exact hv)
          rwa [Nat.zero_add] at this)⟩⟩, fun t v hv => by
        have ht5 : t < 5 := by have := (List.getElem?_eq_some_iff.1 hv).1; simpa using this
        rw [World.cell?_of_block (hK q hr1.lt (fun e => n2 e.symm))]
        refine hcl t v ?_
        rw [eV]; exact hv⟩
  have hrow : ∀ {e n c : Nat} {A : Option Addr} {xs : List Value}, W.ownsRow w0 e 1 (.slice A n c) n xs → e ≠ 50 → RdS (fun _ => True) W' A n 1 xs := fun ho he => row_keep ho fun k hk => by
    obtain ⟨_, cur2, hcur2⟩ := own_blk ho k hk
    exact hK k hcur2.lt (fun e => by subst e; exact own_ne ho hcur he hk)
  refine ⟨⟨M.strs, M.globs, M.funcs.set j _, M.ents⟩, As, Ag, some ⟨q, 0, none⟩, Ae, cs, cg, cf, ce, ?_, ⟨hrow h.strs (by decide), hrow h.globs (by decide), hfn, hrow h.ents (by decide)⟩, hO.set j _ hOf, hbel⟩
  rw [List.length_set]
  exact (hK g h.box.lt (fun e => n1 e.symm)).trans h.box
end
end Go.Proofs.Ytpdebnecfknohaa
namespace Go.Proofs.Ytpdebnecfknohaa
open Go.RowKit
set_option linter.unusedVariables false
set_option linter.unusedSimpArgs false
set_option maxRecDepth 20000
/-- A row of the call's own that holds something stands at its block's head. -/
theorem own_head9 {w : World} {base e n c : Nat} {A : Option Addr} {xs : List Value} (h : w.ownsRow base e 1 (.slice A n c) n xs) (hn : 0 < n) : ∃ r, A = some ⟨r, 0, none⟩ ∧ base ≤ r ∧ r < w.heap.size ∧ n ≤ c ∧ ∀ j u, xs[j]? = some u → w.cell? ⟨r, j, none⟩ = some u ∧ w.frozen? ⟨r, j, none⟩ = false := by
  rcases h.2 with ⟨_, h0⟩ | ⟨k, cap, cur, hv, _⟩
  · omega
  · injection hv with hv1 _ hv3
    subst hv1
    obtain ⟨h1, h2, h3, h4, _⟩ := own_at h hn
    exact ⟨k, rfl, h2, h3, h1, h4⟩
section
variable {w0 : Nat} {W W' : World} {g q : Nat} {M : Md} {As Ag Ae : Option Addr} {cs cg cf ce : Nat} {Vs : List Value} {Ts : List (List St7)}
/-- Strings, and entries, that are new. -/
theorem Nr.nz_s (h : Nr w0 W g q M As Ag Ae cs cg cf ce Vs Ts) (hl : Vs.length ≤ M.funcs.length) (hO : OkM M) {w V : World} (hw : Below w.heap.size w W) (hw0 : w.heap.size ≤ w0) (hb : Below W.heap.size W V) {A2 : Option Addr} {n c2 : Nat} (L : List (List UInt8)) (hn : n = L.length) (hL : L.length ≤ 1000000) (ho : V.ownsRow W.heap.size 9 1 (.slice A2 n c2) n (strV L)) : Nz w (V.setCell ⟨g, 0, none⟩ (.slice A2 n c2)) g := by
  subst hn
  have hK : ∀ k, k < W.heap.size → k ≠ g → some k ≠ (none : Option Nat) → (V.setCell ⟨g, 0, none⟩ (.slice A2 L.length c2)).heap[k]? = W.heap[k]? := fun k hk hg _ => (Below.heap_setCell _ _ _ _ hg).trans (hb.block k hk)
  have hB := (h.box.old hb).set_ 0 (.slice A2 L.length c2)
  refine ⟨⟨L, M.globs, M.funcs, M.ents⟩, A2, Ag, some ⟨q, 0, none⟩, Ae, c2, cg, cf, ce, by simpa using hB, ⟨?_, h.globs_k none (.inl rfl) hK, h.fns_box hl none (.inl rfl) hK, h.ents_k none (.inl rfl) hK⟩, ⟨hL, hO.globs, hO.ents, hO.funcs, hO.fns⟩, ?_⟩
  · exact row_keep ho fun k hk => Below.heap_setCell _ _ _ _ (by have := own_ge ho k hk; have := h.box.lt; show k ≠ g; omega)
  · exact (hw.trans (hb.mono hw.size)).setCell (p := ⟨g, 0, none⟩) (by have := h.bel.1; show _ ≤ g; omega) _
theorem Nr.nz_e (h : Nr w0 W g q M As Ag Ae cs cg cf ce Vs Ts) (hl : Vs.length ≤ M.funcs.length) (hO : OkM M) {w V : World} (hw : Below w.heap.size w W) (hw0 : w.heap.size ≤ w0) (hb : Below W.heap.size W V) {A2 : Option Addr} {n c2 : Nat} (L : List Int) (hn : n = L.length) (hL : L.length ≤ 1000000) (hWf : WfI L) (ho : V.ownsRow W.heap.size 3 1 (.slice A2 n c2) n (intV L)) : Nz w (V.setCell ⟨g, 3, none⟩ (.slice A2 n c2)) g := by
  subst hn
  have hK : ∀ k, k < W.heap.size → k ≠ g → some k ≠ (none : Option Nat) → (V.setCell ⟨g, 3, none⟩ (.slice A2 L.length c2)).heap[k]? = W.heap[k]? := fun k hk hg _ => (Below.heap_setCell _ _ _ _ hg).trans (hb.block k hk)
  have hB := (h.box.old hb).set_ 3 (.slice A2 L.length c2)
  refine ⟨⟨M.strs, M.globs, M.funcs, L⟩, As, Ag, some ⟨q, 0, none⟩, A2, cs, cg, cf, c2, by simpa using hB, ⟨h.strs_k none (.inl rfl) hK, h.globs_k none (.inl rfl) hK, h.fns_box hl none (.inl rfl) hK, ?_⟩, ⟨hO.strs, hO.globs, ⟨hL, hWf⟩, hO.funcs, hO.fns⟩, ?_⟩
  · exact row_keep ho fun k hk => Below.heap_setCell _ _ _ _ (by have := own_ge ho k hk; have := h.box.lt; show k ≠ g; omega)
  · exact (hw.trans (hb.mono hw.size)).setCell (p := ⟨g, 3, none⟩) (by have := h.bel.1; show _ ≤ g; omega) _
theorem wf_snoc {l : List Int} (h : WfI l) {n : Int} (hn : -9223372036854775808 ≤ n ∧ n ≤ 9223372036854775807) : WfI (l ++ [n]) := fun x hx => by
  rcases List.mem_append.1 hx with h1 | h1
  · exact h x h1
  · have : x = n := by simpa using h1
    subst this
    omega
theorem set_cells {V : World} {b o : Nat} {L : List Value} (hc : ∀ t u, L[t]? = some u → V.cell? ⟨b, o + t, none⟩ = some u) (t : Nat) (u : Value) : ∀ s v, (L.set t u)[s]? = some v → if s = t then v = u else V.cell? ⟨b, o + s, none⟩ = some v := fun s v hv => by
  by_cases hs : s = t
  · subst hs
    rw [if_pos rfl]
    have hl : s < L.length := by have := (List.getElem?_eq_some_iff.1 hv).1; simpa using this
    rw [List.getElem?_set_self hl] at hv
    injection hv with hv
    exact hv.symm
  · rw [if_neg hs]
    rw [List.getElem?_set_ne (fun e => hs e.symm)] at hv
    exact hc s v hv
/-- A global more. -/
theorem Nr.arm0 (h : Nr w0 W g q M As Ag Ae cs cg cf ce Vs Ts) (hl : Vs.length ≤ M.funcs.length) (hO : OkM M) (hM : M.globs.length ≤ 1000) {w : World} (hw : Below w.heap.size w W) (hw0 : w.heap.size ≤ w0) (n : Int) (hn : -9223372036854775808 ≤ n ∧ n ≤ 9223372036854775807) :
    ∃ A' c' V, (Builtin.append_ #[27, 27] 27 #[.slice Ag M.globs.length cg, .slice (some ⟨W.heap.size, 0, none⟩) 1 1]).run Try.prog (W.alloc (.cells #[.int .i64 n] 3)) = .ok (.slice A' (M.globs.length + 1) c') V ∧ V.cell? ⟨g, 1, none⟩ = some (.slice Ag M.globs.length cg) ∧ V.frozen? ⟨g, 1, none⟩ = false ∧ g < V.heap.size ∧ Nz w (V.setCell ⟨g, 1, none⟩ (.slice A' (M.globs.length + 1) c')) g := by
  obtain ⟨q5, c5, w5, hr, ho, hg, _⟩ := push1 w0 (.slice Ag M.globs.length cg) M.globs n W h.globs (by omega) (by have := h.bel.1; have := h.box.lt; omega)
  have hK0 : ∀ k, k < W.heap.size → some k ≠ (Value.slice Ag M.globs.length cg).ownBlock → w5.heap[k]? = W.heap[k]? := fun k hk hr => (hg.block k (by simp; omega) hr).trans (heap_alloc_old W _ hk)
  have hBx : Blk w5 g 30 _ := (hK0 g h.box.lt (own_ne h.globs h.box (by decide))).trans h.box
  have hK : ∀ k, k < W.heap.size → k ≠ g → some k ≠ (Value.slice Ag M.globs.length cg).ownBlock → (w5.setCell ⟨g, 1, none⟩ (.slice (some ⟨q5, 0, none⟩) (M.globs.length + 1) c5)).heap[k]? = W.heap[k]? := fun k hk hg' hr => (Below.heap_setCell _ _ _ _ hg').trans (hK0 k hk hr)
  have hbl : Below w.heap.size w w5 := (hw.alloc hw.size _).grown hg (by have := hw.size; simp; omega) (fun k hk => by have := own_ge h.globs k hk.symm; omega)
  have hBx1 := hBx.set_ 1 (.slice (some ⟨q5, 0, none⟩) (M.globs.length + 1) c5)
  refine ⟨some ⟨q5, 0, none⟩, c5, w5, hr, hBx.cell 1, hBx.frozen 1, hBx.lt, ⟨M.strs, M.globs ++ [n], M.funcs, M.ents⟩, As, some ⟨q5, 0, none⟩, some ⟨q, 0, none⟩, Ae, cs, c5, cf, ce, by simpa using hBx1, ⟨h.strs_k _ (.inr (.inl rfl)) hK, ?_, h.fns_box hl _ (.inr (.inr (.inl rfl))) hK, h.ents_k _ (.inr (.inr rfl)) hK⟩, ⟨hO.strs, ⟨by simp; omega, wf_snoc hO.globs.2 hn⟩, hO.ents, hO.funcs, hO.fns⟩, ?_⟩
  · have := row_keep (W' := w5.setCell ⟨g, 1, none⟩ (.slice (some ⟨q5, 0, none⟩) (M.globs.length + 1) c5)) (base := w0) (e := 3) (n := (M.globs ++ [n]).length) (c := c5) (A := some ⟨q5, 0, none⟩) (xs := intV (M.globs ++ [n])) (W := w5) (by simpa using ho) fun k hk => Below.heap_setCell _ _ _ _ (fun e => by
      subst e
      have ho' : w5.ownsRow w0 3 1 (.slice (some ⟨q5, 0, none⟩) (M.globs.length + 1) c5) (M.globs.length + 1) (intV (M.globs ++ [n])) := by simpa using ho
      exact own_ne ho' hBx (by decide) hk)
    simpa using this
  · exact hbl.setCell (p := ⟨g, 1, none⟩) (by have := h.bel.1; show _ ≤ g; omega) _
/-- An entry more. -/
theorem Nr.arm1 (h : Nr w0 W g q M As Ag Ae cs cg cf ce Vs Ts) (hl : Vs.length ≤ M.funcs.length) (hO : OkM M) (hM : M.ents.length ≤ 1000) {w : World} (hw : Below w.heap.size w W) (hw0 : w.heap.size ≤ w0) (n : Int) (hn : -9223372036854775808 ≤ n ∧ n ≤ 9223372036854775807) :
    ∃ A' c' V, (Builtin.append_ #[27, 27] 27 #[.slice Ae M.ents.length ce, .slice (some ⟨W.heap.size, 0, none⟩) 1 1]).run Try.prog (W.alloc (.cells #[.int .i64 n] 3)) = .ok (.slice A' (M.ents.length + 1) c') V ∧ V.cell? ⟨g, 3, none⟩ = some (.slice Ae M.ents.length ce) ∧ V.frozen? ⟨g, 3, none⟩ = false ∧ g < V.heap.size ∧ Nz w (V.setCell ⟨g, 3, none⟩ (.slice A' (M.ents.length + 1) c')) g := by
  obtain ⟨q5, c5, w5, hr, ho, hg, _⟩ := push1 w0 (.slice Ae M.ents.length ce) M.ents n W h.ents (by omega) (by have := h.bel.1; have := h.box.lt; omega)
  have hK0 : ∀ k, k < W.heap.size → some k ≠ (Value.slice Ae M.ents.length ce).ownBlock → w5.heap[k]? = W.heap[k]? := fun k hk hr => (hg.block k (by simp; omega) hr).trans (heap_alloc_old W _ hk)
  have hBx : Blk w5 g 30 _ := (hK0 g h.box.lt (own_ne h.ents h.box (by decide))).trans h.box
  have hK : ∀ k, k < W.heap.size → k ≠ g → some k ≠ (Value.slice Ae M.ents.length ce).ownBlock → (w5.setCell ⟨g, 3, none⟩ (.slice (some ⟨q5, 0, none⟩) (M.ents.length + 1) c5)).heap[k]? = W.heap[k]? := fun k hk hg' hr => (Below.heap_setCell _ _ _ _ hg').trans (hK0 k hk hr)
  have hbl : Below w.heap.size w w5 := (hw.alloc hw.size _).grown hg (by have := hw.size; simp; omega) (fun k hk => by have := own_ge h.ents k hk.symm; omega)
  have hBx1 := hBx.set_ 3 (.slice (some ⟨q5, 0, none⟩) (M.ents.length + 1) c5)
  refine ⟨some ⟨q5, 0, none⟩, c5, w5, hr, hBx.cell 3, hBx.frozen 3, hBx.lt, ⟨M.strs, M.globs, M.funcs, M.ents ++ [n]⟩, As, Ag, some ⟨q, 0, none⟩, some ⟨q5, 0, none⟩, cs, cg, cf, c5, by simpa using hBx1, ⟨h.strs_k _ (.inr (.inr rfl)) hK, h.globs_k _ (.inr (.inr rfl)) hK, h.fns_box hl _ (.inr (.inr (.inr rfl))) hK, ?_⟩, ⟨hO.strs, hO.globs, ⟨by simp; omega, wf_snoc hO.ents.2 hn⟩, hO.funcs, hO.fns⟩, ?_⟩
  · have := row_keep (W' := w5.setCell ⟨g, 3, none⟩ (.slice (some ⟨q5, 0, none⟩) (M.ents.length + 1) c5)) (base := w0) (e := 3) (n := (M.ents ++ [n]).length) (c := c5) (A := some ⟨q5, 0, none⟩) (xs := intV (M.ents ++ [n])) (W := w5) (by simpa using ho) fun k hk => Below.heap_setCell _ _ _ _ (fun e => by
      subst e
      have ho' : w5.ownsRow w0 3 1 (.slice (some ⟨q5, 0, none⟩) (M.ents.length + 1) c5) (M.ents.length + 1) (intV (M.ents ++ [n])) := by simpa using ho
      exact own_ne ho' hBx (by decide) hk)
    simpa using this
  · exact hbl.setCell (p := ⟨g, 3, none⟩) (by have := h.bel.1; show _ ≤ g; omega) _
/-- A string is another one. -/
theorem Nr.arm7 (h : Nr w0 W g q M As Ag Ae cs cg cf ce Vs Ts) (hl : Vs.length ≤ M.funcs.length) (hO : OkM M) {w : World} (hw : Below w.heap.size w W) (hw0 : w.heap.size ≤ w0) (i : Nat) (hi : i < M.strs.length) (x : List UInt8) :
    ∃ b u, As = some ⟨b, 0, none⟩ ∧ W.cell? ⟨b, i, none⟩ = some u ∧ W.frozen? ⟨b, i, none⟩ = false ∧ b < W.heap.size ∧ Nz w (W.setCell ⟨b, i, none⟩ (.string (bs x))) g := by
  obtain ⟨b, rfl, hb, hbl, hcap, hc⟩ := own_head9 h.strs (by omega)
  obtain ⟨_, _, _, _, hset⟩ := own_at h.strs (by omega)
  obtain ⟨c1, c2⟩ := hc i _ (strV_get M.strs i hi)
  have hs := hset i (.string (bs x)) hi
  have hK : ∀ k, k < W.heap.size → k ≠ g → some k ≠ (Value.slice (some ⟨b, 0, none⟩) M.strs.length cs).ownBlock → (W.setCell ⟨b, i, none⟩ (.string (bs x))).heap[k]? = W.heap[k]? := fun k _ _ hk => Below.heap_setCell _ _ _ _ (fun e => hk (by subst e; rfl))
  have hgb : g ≠ b := fun e => own_ne h.strs h.box (by decide) (by subst e; rfl)
  refine ⟨b, _, rfl, c1, c2, hbl, ⟨M.strs.set i x, M.globs, M.funcs, M.ents⟩, some ⟨b, 0, none⟩, Ag, some ⟨q, 0, none⟩, Ae, cs, cg, cf, ce, ?_, ⟨?_, h.globs_k _ (.inr (.inl rfl)) hK, h.fns_box hl _ (.inr (.inl rfl)) hK, h.ents_k _ (.inr (.inl rfl)) hK⟩, ⟨by simpa using hO.strs, hO.globs, hO.ents, hO.funcs, hO.fns⟩, ?_⟩
  · rw [List.length_set]
    exact h.box.far hgb _
  · have h9 := RdS.own hs
    rw [show (strV M.strs).set i (.string (bs x)) = strV (M.strs.set i x) by simp [strV, List.map_set]] at h9
    rw [List.length_set]
    exact h9.kept (fun _ _ _ => rfl) (fun _ _ _ => trivial) (by decide)
  · exact hw.setCell (p := ⟨b, i, none⟩) (by show _ ≤ b; omega) _
/-- A function as it is read. -/
theorem Nr.fn_of (h : Nr w0 W g q M As Ag Ae cs cg cf ce Vs Ts) (hl : Vs.length ≤ M.funcs.length) (j : Nat) (hj : j < M.funcs.length) : ∃ Al cl At ct Ab cb T, (∀ t u, ([.int .i64 M.funcs[j].name, .int .i64 M.funcs[j].params, .slice Al M.funcs[j].locals.length cl, .slice At M.funcs[j].sites.length ct, .slice Ab M.funcs[j].body.len cb] : List Value)[t]? = some u → W.cell? ⟨q, j * 5 + t, none⟩ = some u) ∧
    RdS (fun k => k ≠ q) W Al M.funcs[j].locals.length 1 (intV M.funcs[j].locals) ∧ RdS (fun k => k ≠ q) W At M.funcs[j].sites.length 1 (intV M.funcs[j].sites) ∧ BodyS (fun k => k ≠ q) W Ab M.funcs[j].body ∧
    Vs[j]? = some (.slice Ab M.funcs[j].body.len cb) ∧ Ts[j]? = some T ∧ M.funcs[j].body = bdOf T ∧ BdRow W w0 (fun k => k ≠ q ∧ ∀ u ∈ Vs, some k ≠ u.ownBlock) (.slice Ab M.funcs[j].body.len cb) T := by
  obtain ⟨Al, cl, At, ct, Ab, cb, T, hc, r1, r2, hV, hT, hB, hR⟩ := h.fns j hj
  refine ⟨Al, cl, At, ct, Ab, cb, T, hc, r1.kept (fun _ _ _ => rfl) (fun k hk _ => hk.2.1) (by decide), r2.kept (fun _ _ _ => rfl) (fun k hk _ => hk.2.1) (by decide), ?_, hV, hT, hB, hR.kept (fun _ _ => rfl) (fun _ _ _ => rfl) (fun k hk _ => ⟨hk.2.1, hk.2.2.2.2.2⟩)⟩
  have := (hR.body (S := fun k => k ≠ q) (fun k hk _ => hk.2.1) (fun k hk => (h.named (List.mem_of_getElem? hV) hl hk).2.2.1)).1
  rwa [← hB] at this
end
end Go.Proofs.Ytpdebnecfknohaa
