/-
  What merge leaves: two rising rows made one, from the last block on.
-/
import Derived.Test.YtkkkglmjipnfaaaDoorLs
namespace Go.Proofs.YtkkkglmjipnfaaaDoor
open Go.RowKit
set_option linter.unusedVariables false

theorem joinR_len2 : ∀ (L T : Bks), T.length ≤ (joinR L T).length
  | [], T => by simp [joinR]
  | p :: L, [] => by simp [joinR]
  | p :: L, q :: T => by
    unfold joinR
    split
    · have := joinR_len2 L (q :: T); simp at *; omega
    · split
      · have := joinR_len2 L T; simp at *; omega
      · have := joinR_len2 (p :: L) T; simp at *; omega
termination_by L T => L.length + T.length
/-- Where the merging is: the first a of mine and b of theirs are left, and the row is done from c on. -/
structure MInv (L T F X : Bks) (n a b c : Nat) : Prop where
  xl : X.length = n
  fl : F.length = n
  al : a ≤ L.length
  bl : b ≤ T.length
  cl : c ≤ n
  front : X.take a = L.take a
  back : X.drop c = F.drop c
  rest : F.take c = (joinR (L.take a).reverse (T.take b).reverse).reverse
theorem MInv.clen {L T F X : Bks} {n a b c : Nat} (h : MInv L T F X n a b c) : c = (joinR (L.take a).reverse (T.take b).reverse).length := by
  have := congrArg List.length h.rest
  rw [List.length_take, List.length_reverse, h.fl] at this
  have := h.cl
  omega
theorem MInv.ac {L T F X : Bks} {n a b c : Nat} (h : MInv L T F X n a b c) : a ≤ c := by
  have h1 := h.clen
  have h2 := (joinR_len (L.take a).reverse (T.take b).reverse).1
  have h3 := h.al
  rw [List.length_reverse, List.length_take] at h2
  omega
theorem take_rev (L : Bks) (a : Nat) (h : a < L.length) : (L.take (a + 1)).reverse = L.getD a (0, 0) :: (L.take a).reverse := by
  rw [take_snocB L a h]; simp
theorem MInv.mine {L T F X : Bks} {n a b c : Nat} (h : MInv L T F X n (a + 1) b c) : X.getD a (0, 0) = L.getD a (0, 0) := by
  have h1 := congrArg (fun l : Bks => l.getD a (0, 0)) h.front
  simpa [List.getD, List.getElem?_take_of_lt] using h1
/-- One block is laid at the place ahead of what is done. -/
theorem MInv.lay {L T F X : Bks} {n a b c a' b' : Nat} {p : Int × Nat} (h : MInv L T F X n a b c) (ha : a' ≤ a) (hb : b' ≤ b)
    (hj : joinR (L.take a).reverse (T.take b).reverse = p :: joinR (L.take a').reverse (T.take b').reverse) : ∃ c', c = c' + 1 ∧ c' < n ∧ MInv L T F (X.set c' p) n a' b' c' := by
  have hc := h.clen
  rw [hj] at hc
  simp only [List.length_cons] at hc
  obtain ⟨c', rfl⟩ : ∃ c', c = c' + 1 := ⟨_, hc⟩
  have hcl := h.cl
  have hr := h.rest
  rw [hj, List.reverse_cons] at hr
  have hlen : (joinR (L.take a').reverse (T.take b').reverse).reverse.length = c' := by rw [List.length_reverse]; omega
  have hFt : F.take c' = (joinR (L.take a').reverse (T.take b').reverse).reverse := by
    have := congrArg (List.take c') hr
    rw [List.take_take, show min c' (c' + 1) = c' from by omega] at this
    rw [this]
    exact List.take_left' hlen
  have hFc : F[c']? = some p := by
    have := congrArg (fun l : Bks => l[c']?) hr
    simp only [List.getElem?_take_of_lt (show c' < c' + 1 by omega)] at this
    rw [this, List.getElem?_append_right (by omega), hlen]
    simp
  have hac : a' ≤ c' := by
    have h2 := (joinR_len (L.take a').reverse (T.take b').reverse).1
    have h3 := h.al
    rw [List.length_reverse, List.length_take] at h2
    rw [List.length_reverse] at hlen
    omega
  have hxl := h.xl
  have hfl := h.fl
  refine ⟨c', rfl, by omega, ⟨by rw [List.length_set]; exact h.xl, h.fl, Nat.le_trans ha h.al, Nat.le_trans hb h.bl, by omega, ?_, ?_, hFt⟩⟩
  · rw [List.take_set_of_le hac]
    have := congrArg (List.take a') h.front
    rw [List.take_take, List.take_take, show min a' a = a' from by omega] at this
    exact this
  · rw [List.drop_set, if_neg (by omega), Nat.sub_self]
    have hX : X.drop c' = X.getD c' (0, 0) :: X.drop (c' + 1) := by rw [List.drop_eq_getElem_cons (by omega)]; simp [show c' < X.length by omega]
    have hF : F.drop c' = p :: F.drop (c' + 1) := by
      rw [List.drop_eq_getElem_cons (by omega)]
      congr 1
      have := List.getElem?_eq_getElem (l := F) (i := c') (by omega)
      rw [hFc] at this
      injection this with this
      exact this.symm
    rw [hX, hF, List.set_cons_zero, h.back]
theorem MInv.fin {L T F X : Bks} {n a c : Nat} (h : MInv L T F X n a 0 c) : X = F := by
  have h1 := h.rest
  rw [List.take_zero, List.reverse_nil, joinR_nil, List.reverse_reverse] at h1
  have h2 := congrArg List.length h1
  have h3 := h.al
  have h4 := h.cl
  have h5 := h.fl
  rw [List.length_take, List.length_take] at h2
  obtain rfl : c = a := by omega
  rw [← List.take_append_drop c X, ← List.take_append_drop c F, h.front, h.back, h1]
theorem MInv.start {L T : Bks} (k : Nat) (hk : (joinF L T).length = L.length + k) : MInv L T (joinF L T) (L ++ List.replicate k (0, 0)) (L.length + k) L.length T.length (L.length + k) := by
  refine ⟨by simp, hk, Nat.le_refl _, Nat.le_refl _, Nat.le_refl _, by simp, ?_, ?_⟩
  · rw [List.drop_of_length_le (by simp), List.drop_of_length_le (by omega)]
  · rw [List.take_of_length_le (by omega), List.take_length, List.take_length]; rfl
theorem zs_flat (k : Nat) : zs k = flat (List.replicate k (0, 0)) := by
  have h1 : ∀ k, flat (List.replicate k (0, 0)) = (List.replicate k [Value.int .i64 0, Value.int .u64 0]).flatten := by
    intro k
    induction k with
    | zero => rfl
    | succ k ih => rw [List.replicate_succ, List.replicate_succ, List.flatten_cons, ← ih]; rfl
  rw [h1]
  have h2 : ∀ k, List.map (fun i => ([Value.int .i64 0, Value.int .u64 0] : List Value)[i % 2]?.getD default) (List.range (k * 2)) = (List.replicate k [Value.int .i64 0, Value.int .u64 0]).flatten := by
    intro k
    induction k with
    | zero => rfl
    | succ k ih =>
      rw [show (k + 1) * 2 = k * 2 + 1 + 1 from by omega, List.range_succ, List.range_succ, List.map_append, List.map_append, ih, List.replicate_succ', List.flatten_append]
      simp only [List.map_cons, List.map_nil, show k * 2 % 2 = 0 from by omega, show (k * 2 + 1) % 2 = 1 from by omega]
      simp
  rw [← h2]
  simp [zs, Builtin.zeroCells, Value.cells]
theorem flat_set2 (X : Bks) (i : Nat) (p : Int × Nat) : flat (X.set i p) = ((flat X).set (i * 2) (.int .i64 p.1)).set (i * 2 + 1) (.int .u64 (p.2 : Int)) := by
  induction X generalizing i with
  | nil => simp [flat]
  | cons q X ih =>
    cases i with
    | zero => simp [flat]
    | succ i =>
      rw [show (i + 1) * 2 = i * 2 + 1 + 1 from by omega]
      simp only [List.set_cons_succ, flat, ih]
/-- A block laid into an owned row. -/
theorem own_lay {w : World} {base q n cap i : Nat} {X : Bks} {p : Int × Nat} (hX : X.length = n) (hi : i < n) (h : w.ownsRow base 57 2 (.slice (some ⟨q, 0, none⟩) n cap) n (flat X)) :
    ((w.setCell ⟨q, i * 2, none⟩ (.int .i64 p.1)).setCell ⟨q, i * 2 + 1, none⟩ (.int .u64 (p.2 : Int))).ownsRow base 57 2 (.slice (some ⟨q, 0, none⟩) n cap) n (flat (X.set i p)) := by
  rcases h.2 with ⟨hv, hn⟩ | ⟨k, cap', cur, hv, h2, hk, h3, h4, h5, h6⟩
  · cases hv
  · injection hv with hv1 hv2 hv3
    injection hv1 with hv1
    injection hv1 with hv1
    subst hv1 hv3
    refine ⟨by rw [flat_length, List.length_set, hX], .inr ⟨q, cap, (cur.setIfInBounds (i * 2) (.int .i64 p.1)).setIfInBounds (i * 2 + 1) (.int .u64 (p.2 : Int)), rfl, h2, ?_, h3, h4, by simp [h5], ?_⟩⟩
    · simp [World.setCell, Array.getElem?_modify, hk]
    · rw [flat_set2, ← h6, Array.toList_setIfInBounds, Array.toList_setIfInBounds, List.take_set, List.take_set]
theorem own_cells {w : World} {base q n cap : Nat} {X : Bks} (hX : X.length = n) (h : w.ownsRow base 57 2 (.slice (some ⟨q, 0, none⟩) n cap) n (flat X)) (i : Nat) (hi : i < n) :
    w.cell? ⟨q, i * 2, none⟩ = some (.int .i64 (X.getD i (0, 0)).1) ∧ w.cell? ⟨q, i * 2 + 1, none⟩ = some (.int .u64 ((X.getD i (0, 0)).2 : Int)) ∧ (∀ o, w.frozen? ⟨q, o, none⟩ = false) := by
  rcases h.2 with ⟨hv, hn⟩ | ⟨k, cap', cur, hv, h2, hk, h3, h4, h5, h6⟩
  · cases hv
  · injection hv with hv1 hv2 hv3
    injection hv1 with hv1
    injection hv1 with hv1
    subst hv1 hv3
    have hf := flat_get X i (by omega)
    rw [← h6, List.getElem?_take_of_lt (by omega), List.getElem?_take_of_lt (by omega)] at hf
    refine ⟨?_, ?_, fun o => by simp [World.frozen?, hk]⟩
    · rw [cell_of_row w q _ cur 57 (0, 0) hk, ← Array.getElem?_toList]; exact hf.1
    · rw [cell_of_row w q _ cur 57 (0, 0) hk, ← Array.getElem?_toList]; exact hf.2
/-- What merge leaves. -/
def MergePost (base : Nat) (v : Value) (L T : Bks) (w : World) (e : Ending) (w' : World) : Prop :=
  ∃ v', e = .returned v' ∧ w'.ownsRow base 57 2 v' (joinF L T).length (flat (joinF L T)) ∧ w.grownBy w' v.ownBlock ∧ (v'.ownBlock = v.ownBlock ∨ ∃ k, v'.ownBlock = some k ∧ w.heap.size ≤ k)

set_option maxRecDepth 20000 in
set_option maxHeartbeats 2000000 in
theorem merge_any (base : Nat) (v : Value) (L T : Bks) (b0 o0 d : Nat) (w : World) (hL : Good L) (hT : Good T) (hO : w.ownsRow base 57 2 v L.length (flat L)) (hBR : BR w (some ⟨b0, o0, none⟩) T) (hne : v.ownBlock ≠ some b0) (hT0 : 0 < T.length) (hl : L.length ≤ 10000) (ht : T.length ≤ 10000) (hB : base ≤ w.heap.size) :
    Calls Tryd.prog 28 #[v, .slice (some ⟨b0, o0, none⟩) T.length d, .int .i64 ((newF L T : Nat) : Int)] w (MergePost base v L T w) := by
  have hnew := newF_le L T
  have hcnt := joinF_count hL hT
  have hn2 := joinR_len2 L.reverse T.reverse
  have hn1 : 0 < (joinF L T).length := by unfold joinF; rw [List.length_reverse]; rw [List.length_reverse] at hn2; omega
  obtain ⟨A0, c0, hv0⟩ := owns_slice hO
  obtain ⟨v1, w1, hr1, hO1, hg1, hat1⟩ := zeros_own base 25 v L.length (flat L) w hO (newF L T) (by omega) (by omega) hB
  rw [zs_flat, ← flat_append] at hO1
  have hM := MInv.start (L := L) (T := T) (newF L T) hcnt
  have hbl0 : b0 < w.heap.size := by
    obtain ⟨b, o, e, hc⟩ := hBR hT0
    injection e with e
    injection e with e1 e2
    subst e1 e2
    exact World.block_lt_of_cell? w ⟨b0, o0 + 0 * 2, none⟩ (hc 0 hT0).1
  generalize newF L T = mr at *
  rw [hcnt] at hn1
  obtain ⟨n, hn⟩ : ∃ n, n = L.length + mr := ⟨_, rfl⟩
  rw [← hn] at hO1 hM hn1
  rcases hO1.2 with ⟨hv, hnz⟩ | ⟨q, cap, cur, hv, hbq, hq, hcap, hcm, hcs, htk⟩
  · omega
  subst hv
  have hqb : q ≠ b0 := by
    rcases hat1 with h | h
    · intro e; exact hne (by rw [← h, e]; rfl)
    · injection h with h; simp at h; omega
  have HG := Lib.hid (And.intro hL hT)
  have HBR := Lib.hid hBR
  have HO1 := Lib.hid hO1
  have HG1 := Lib.hid hg1
  have HM := Lib.hid hM
  have HAT := Lib.hid hat1
  have HCN := Lib.hid hcnt
  have HQB := Lib.hid hqb
  have HNE := Lib.hid hne
  subst hv0
  clear hL hT hO hBR hO1 hg1 hM hat1 hcnt hq hcs htk hn2
  have hnl : (n : Int) = (L.length : Int) + (mr : Int) := by omega
  have HN := Lib.hid hn
  have hnb : n ≤ 20000 := by omega
  clear hn hnl
  go_enter Tryd.func28, Tryd.ntmps28
  go_wp2_with (at_builtin; refine Lib.wpList_append_run _ rfl _ _ 25 3 rfl _ _ rfl rfl _ _ hr1 ?_)
  go_loopw [7, 8, 9] (fun s7 s8 s9 wr => ∃ (a b c : Nat) (X : Bks), s7 = .int .i64 ((a : Int) - 1) ∧ s8 = .int .i64 ((b : Int) - 1) ∧ s9 = .int .i64 ((c : Int) - 1) ∧ Hid (MInv L T (joinF L T) X n a b c) ∧ Hid (wr.ownsRow base 57 2 (.slice (some ⟨q, 0, none⟩) n cap) n (flat X)) ∧ Hid (w1.grownBy wr (some q))) (fun _ _ s9 _ => (intOf s9 + 1).toNat)
  case atStart => exact ⟨L.length, T.length, n, _, rfl, rfl, rfl, HM, HO1, ⟨rfl, rfl, rfl, Nat.le_refl _, fun _ _ _ => rfl⟩⟩
  case round =>
    obtain ⟨a, b, c, X, rfl, rfl, rfl, hM, hO, hG⟩ := hrel
    cases b with
    | zero =>
      have hX := hM.out.fin
      subst hX
      have HO := hO
      rw [show (((0 : Nat) : Int) - 1) = -1 from rfl]
      go_wp2
      go_ret
      refine ⟨_, rfl, ?_, ?_, ?_⟩
      · have := HO.out
        rw [HCN.out, ← HN.out]; exact this
      · refine grown_step HG1.out hG.out ?_
        rcases HAT.out with h | h
        · exact .inl h
        · refine .inr fun k hk => ?_
          have h' : q = w.heap.size := by injection h
          have hk' : q = k := by injection hk
          omega
      · rcases HAT.out with h | h
        · exact .inl h
        · exact .inr ⟨_, h, Nat.le_refl _⟩
    | succ b =>
      have hac := hM.out.ac
      have hcl := hM.out.cl
      have hal := hM.out.al
      have hbl := hM.out.bl
      obtain ⟨t1, t2⟩ : wr.cell? ⟨b0, o0 + b * 2, none⟩ = some (.int .i64 (T.getD b (0, 0)).1) ∧ wr.cell? ⟨b0, o0 + b * 2 + 1, none⟩ = some (.int .u64 ((T.getD b (0, 0)).2 : Int)) := by
        obtain ⟨b', o', e, hc⟩ := HBR.out hT0
        injection e with e
        injection e with e1 e2
        subst e1 e2
        have hblk : wr.heap[b0]? = w.heap[b0]? := by
          rw [hG.out.block b0 (Nat.lt_of_lt_of_le hbl0 HG1.out.size) (fun e => by injection e with e; exact HQB.out e.symm)]
          exact HG1.out.block b0 hbl0 (fun e => HNE.out e.symm)
        have := hc b (by omega)
        exact ⟨(World.cell?_of_block hblk).trans this.1, (World.cell?_of_block hblk).trans this.2⟩
      have hgt := (HG.out.2.2 _ (getD_mem (show b < T.length by omega))).2.2.2
      have hTr := take_rev T b (by omega)
      generalize hqv : T.getD b (0, 0) = qv at *
      obtain ⟨qa, qx⟩ := qv
      simp only at t1 t2
      rw [show (((b + 1 : Nat) : Int) - 1) = (b : Int) from by omega]
      cases a with
      | zero =>
        have hj : joinR (L.take 0).reverse (T.take (b + 1)).reverse = (qa, qx) :: joinR (L.take 0).reverse (T.take b).reverse := by
          rw [hTr, List.take_zero, List.reverse_nil, joinR, joinR]
        obtain ⟨c', rfl, hcn, hM2⟩ := hM.out.lay (Nat.le_refl _) (by omega) hj
        have HM2 := Lib.hid hM2
        obtain ⟨x1, x2, hfz⟩ := own_cells hM.out.xl hO.out c' hcn
        have hf1 := hfz (c' * 2)
        have hf2 := hfz (c' * 2 + 1)
        have HN2 : ∀ N, Hid ((((wr.drewN N).setCell ⟨q, c' * 2, none⟩ (.int .i64 qa)).setCell ⟨q, c' * 2 + 1, none⟩ (.int .u64 (qx : Int))).ownsRow base 57 2 (.slice (some ⟨q, 0, none⟩) n cap) n (flat (X.set c' (qa, qx)))) := fun N => own_lay (w := wr.drewN N) (p := (qa, qx)) hM.out.xl hcn hO.out
        have HG2 : ∀ N, Hid (w1.grownBy (((wr.drewN N).setCell ⟨q, c' * 2, none⟩ (.int .i64 qa)).setCell ⟨q, c' * 2 + 1, none⟩ (.int .u64 (qx : Int))) (some q)) := fun N => by
          refine grown_step hG.out (r2 := some q) ⟨rfl, rfl, rfl, by simp [World.setCell], fun k hk hkq => ?_⟩ (.inl rfl)
          rw [setCell_other _ _ _ _ _ (fun e => hkq (by rw [e])), setCell_other _ _ _ _ _ (fun e => hkq (by rw [e]))]; rfl
        rw [show (((c' + 1 : Nat) : Int) - 1) = (c' : Int) from by omega, show (((0 : Nat) : Int) - 1) = -1 from rfl]
        generalize (X.getD c' (0, 0)).1 = y1 at *
        generalize (X.getD c' (0, 0)).2 = y2 at *
        clear hj hTr hM2 hM hO hG hfz hgt hqv
        have hbT : (b : Int) < (T.length : Int) := by omega
        have hcN : (c' : Int) < (n : Int) := by omega
        go_upto_region 8 with (fail)
        go_quiet (fail)
        go_upto_region 11 with (fail)
        go_quiet (fail)
        go_wp2
        exact ⟨⟨0, b, c', _, rfl, rfl, rfl, HM2, HN2 _, HG2 _⟩, by simp [intOf]⟩
      | succ a =>
        have hm := hM.out.mine
        obtain ⟨m1, m2, hfz⟩ := own_cells hM.out.xl hO.out a (by omega)
        have hgm := (HG.out.1.2 _ (getD_mem (show a < L.length by omega))).2.2.2
        have hLr := take_rev L a (by omega)
        rw [hm] at m1 m2
        generalize hpv : L.getD a (0, 0) = pv at *
        obtain ⟨pa, px⟩ := pv
        simp only at m1 m2
        rw [show (((a + 1 : Nat) : Int) - 1) = (a : Int) from by omega]
        rcases Int.lt_trichotomy qa pa with hlt | heq | hgt2
        · have hj : joinR (L.take (a + 1)).reverse (T.take (b + 1)).reverse = (pa, px) :: joinR (L.take a).reverse (T.take (b + 1)).reverse := by
            rw [hLr, hTr, joinR, if_pos hlt]
          obtain ⟨c', rfl, hcn, hM2⟩ := hM.out.lay (by omega) (Nat.le_refl _) hj
          obtain ⟨x1, x2, hfz⟩ := own_cells hM.out.xl hO.out c' hcn
          have hf1 := hfz (c' * 2)
          have hf2 := hfz (c' * 2 + 1)
          have HN2 : ∀ N, Hid ((((wr.drewN N).setCell ⟨q, c' * 2, none⟩ (.int .i64 pa)).setCell ⟨q, c' * 2 + 1, none⟩ (.int .u64 (px : Int))).ownsRow base 57 2 (.slice (some ⟨q, 0, none⟩) n cap) n (flat (X.set c' (pa, px)))) := fun N => own_lay (w := wr.drewN N) (p := (pa, px)) hM.out.xl hcn hO.out
          have HG2 : ∀ N, Hid (w1.grownBy (((wr.drewN N).setCell ⟨q, c' * 2, none⟩ (.int .i64 pa)).setCell ⟨q, c' * 2 + 1, none⟩ (.int .u64 (px : Int))) (some q)) := fun N => by
            refine grown_step hG.out (r2 := some q) ⟨rfl, rfl, rfl, by simp [World.setCell], fun k hk hkq => ?_⟩ (.inl rfl)
            rw [setCell_other _ _ _ _ _ (fun e => hkq (by rw [e])), setCell_other _ _ _ _ _ (fun e => hkq (by rw [e]))]; rfl
          have HM2 := Lib.hid hM2
          rw [show (((c' + 1 : Nat) : Int) - 1) = (c' : Int) from by omega]
          generalize (X.getD c' (0, 0)).1 = y1 at *
          generalize (X.getD c' (0, 0)).2 = y2 at *
          clear hj hTr hLr hM2 hM hO hG hfz hm
          have hbT : (b : Int) < (T.length : Int) := by omega
          have hcN : (c' : Int) < (n : Int) := by omega
          have haN : (a : Int) < (n : Int) := by omega
          go_upto_region 8 with (fail)
          go_quiet (fail)
          go_wp2
          exact ⟨⟨a, b + 1, c', _, rfl, by congr 1; omega, rfl, HM2, HN2 _, HG2 _⟩, by simp [intOf]⟩
        · subst heq
          have hj : joinR (L.take (a + 1)).reverse (T.take (b + 1)).reverse = (qa, px ||| qx) :: joinR (L.take a).reverse (T.take b).reverse := by
            rw [hLr, hTr, joinR, if_neg (by simp), if_pos rfl]
          obtain ⟨c', rfl, hcn, hM2⟩ := hM.out.lay (by omega) (by omega) hj
          have hor : bits .or .u64 (px : Int) (qx : Int) = ((px ||| qx : Nat) : Int) := u64_or_nat px qx hgm hgt
          obtain ⟨x1, x2, hfz⟩ := own_cells hM.out.xl hO.out c' hcn
          have hf1 := hfz (c' * 2)
          have hf2 := hfz (c' * 2 + 1)
          have HN2 : ∀ N, Hid ((((wr.drewN N).setCell ⟨q, c' * 2, none⟩ (.int .i64 qa)).setCell ⟨q, c' * 2 + 1, none⟩ (.int .u64 ((px ||| qx : Nat) : Int))).ownsRow base 57 2 (.slice (some ⟨q, 0, none⟩) n cap) n (flat (X.set c' (qa, px ||| qx)))) := fun N => own_lay (w := wr.drewN N) (p := (qa, px ||| qx)) hM.out.xl hcn hO.out
          have HG2 : ∀ N, Hid (w1.grownBy (((wr.drewN N).setCell ⟨q, c' * 2, none⟩ (.int .i64 qa)).setCell ⟨q, c' * 2 + 1, none⟩ (.int .u64 ((px ||| qx : Nat) : Int))) (some q)) := fun N => by
            refine grown_step hG.out (r2 := some q) ⟨rfl, rfl, rfl, by simp [World.setCell], fun k hk hkq => ?_⟩ (.inl rfl)
            rw [setCell_other _ _ _ _ _ (fun e => hkq (by rw [e])), setCell_other _ _ _ _ _ (fun e => hkq (by rw [e]))]; rfl
          have HM2 := Lib.hid hM2
          rw [show (((c' + 1 : Nat) : Int) - 1) = (c' : Int) from by omega]
          generalize (X.getD c' (0, 0)).1 = y1 at *
          generalize (X.getD c' (0, 0)).2 = y2 at *
          clear hj hTr hLr hM2 hM hO hG hfz hm
          have hbT : (b : Int) < (T.length : Int) := by omega
          have hcN : (c' : Int) < (n : Int) := by omega
          have haN : (a : Int) < (n : Int) := by omega
          generalize (px ||| qx : Nat) = oo at *
          have hirr : ¬ (qa < qa) := by omega
          go_upto_region 8 with (fail)
          go_quiet (fail)
          generalize nq = nq1
          go_upto_region 11 with (fail)
          go_quiet (fail)
          go_upto_region 12 with (fail)
          have t1' : (wr.drewN (nq1 + nq)).cell? ⟨b0, o0 + b * 2, none⟩ = some (.int .i64 qa) := by rw [World.cell?_drewN]; exact t1
          have t2' : (wr.drewN (nq1 + nq)).cell? ⟨b0, o0 + b * 2 + 1, none⟩ = some (.int .u64 (qx : Int)) := by rw [World.cell?_drewN]; exact t2
          have m1' : (wr.drewN (nq1 + nq)).cell? ⟨q, a * 2, none⟩ = some (.int .i64 qa) := by rw [World.cell?_drewN]; exact m1
          have m2' : (wr.drewN (nq1 + nq)).cell? ⟨q, a * 2 + 1, none⟩ = some (.int .u64 (px : Int)) := by rw [World.cell?_drewN]; exact m2
          have x1' : (wr.drewN (nq1 + nq)).cell? ⟨q, c' * 2, none⟩ = some (.int .i64 y1) := by rw [World.cell?_drewN]; exact x1
          have x2' : (wr.drewN (nq1 + nq)).cell? ⟨q, c' * 2 + 1, none⟩ = some (.int .u64 (y2 : Int)) := by rw [World.cell?_drewN]; exact x2
          have hf1' : (wr.drewN (nq1 + nq)).frozen? ⟨q, c' * 2, none⟩ = false := hf1
          have hf2' : (wr.drewN (nq1 + nq)).frozen? ⟨q, c' * 2 + 1, none⟩ = false := hf2
          have HN3 : Hid ((((wr.drewN (nq1 + nq)).drew.setCell ⟨q, c' * 2, none⟩ (.int .i64 qa)).setCell ⟨q, c' * 2 + 1, none⟩ (.int .u64 (oo : Int))).ownsRow base 57 2 (.slice (some ⟨q, 0, none⟩) n cap) n (flat (X.set c' (qa, oo)))) := HN2 (nq1 + nq + 1)
          have HG3 : Hid (w1.grownBy (((wr.drewN (nq1 + nq)).drew.setCell ⟨q, c' * 2, none⟩ (.int .i64 qa)).setCell ⟨q, c' * 2 + 1, none⟩ (.int .u64 (oo : Int))) (some q)) := HG2 (nq1 + nq + 1)
          clear t1 t2 m1 m2 x1 x2 hf1 hf2 HN2 HG2
          rw [show (wr.drewN nq1).drewN nq = wr.drewN (nq1 + nq) from by simp]
          generalize wr.drewN (nq1 + nq) = w9 at *
          go_still_tail 20, (by kernel_rfl)
          go_wp2
          exact ⟨⟨a, b, c', _, rfl, rfl, rfl, HM2, HN3, HG3⟩, by simp [intOf]⟩
        · have hj : joinR (L.take (a + 1)).reverse (T.take (b + 1)).reverse = (qa, qx) :: joinR (L.take (a + 1)).reverse (T.take b).reverse := by
            rw [hLr, hTr, joinR, if_neg (by simp only; omega), if_neg (by simp only; omega)]
          obtain ⟨c', rfl, hcn, hM2⟩ := hM.out.lay (Nat.le_refl _) (by omega) hj
          obtain ⟨x1, x2, hfz⟩ := own_cells hM.out.xl hO.out c' hcn
          have hf1 := hfz (c' * 2)
          have hf2 := hfz (c' * 2 + 1)
          have HN2 : ∀ N, Hid ((((wr.drewN N).setCell ⟨q, c' * 2, none⟩ (.int .i64 qa)).setCell ⟨q, c' * 2 + 1, none⟩ (.int .u64 (qx : Int))).ownsRow base 57 2 (.slice (some ⟨q, 0, none⟩) n cap) n (flat (X.set c' (qa, qx)))) := fun N => own_lay (w := wr.drewN N) (p := (qa, qx)) hM.out.xl hcn hO.out
          have HG2 : ∀ N, Hid (w1.grownBy (((wr.drewN N).setCell ⟨q, c' * 2, none⟩ (.int .i64 qa)).setCell ⟨q, c' * 2 + 1, none⟩ (.int .u64 (qx : Int))) (some q)) := fun N => by
            refine grown_step hG.out (r2 := some q) ⟨rfl, rfl, rfl, by simp [World.setCell], fun k hk hkq => ?_⟩ (.inl rfl)
            rw [setCell_other _ _ _ _ _ (fun e => hkq (by rw [e])), setCell_other _ _ _ _ _ (fun e => hkq (by rw [e]))]; rfl
          have HM2 := Lib.hid hM2
          rw [show (((c' + 1 : Nat) : Int) - 1) = (c' : Int) from by omega]
          generalize (X.getD c' (0, 0)).1 = y1 at *
          generalize (X.getD c' (0, 0)).2 = y2 at *
          clear hj hTr hLr hM2 hM hO hG hfz hm
          have hbT : (b : Int) < (T.length : Int) := by omega
          have hcN : (c' : Int) < (n : Int) := by omega
          have haN : (a : Int) < (n : Int) := by omega
          have hnlt : ¬ (qa < pa) := by omega
          have hneq : (pa == qa) = false := by simp; omega
          go_upto_region 8 with (fail)
          go_quiet (fail)
          go_upto_region 11 with (fail)
          go_quiet (fail)
          go_wp2
          exact ⟨⟨a + 1, b, c', _, by congr 1; omega, rfl, rfl, HM2, HN2 _, HG2 _⟩, by simp [intOf]⟩
end Go.Proofs.YtkkkglmjipnfaaaDoor
