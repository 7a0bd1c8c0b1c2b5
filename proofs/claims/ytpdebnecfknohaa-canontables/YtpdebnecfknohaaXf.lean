/-
  Canon: renumber.
-/
import Derived.Test.YtpdebnecfknohaaXd
import Derived.Deep.RegionHeld
import Derived.Deep.LoopGhost
namespace Go.Proofs.Ytpdebnecfknohaa
open Go.RowKit Go.Maps
set_option linter.unusedVariables false
set_option linter.unusedSimpArgs false
set_option maxRecDepth 20000
theorem bs_num (Z : List (List UInt8)) (x : List UInt8) (hr : Rising Z) (hx : x ∈ Z) : ((Lib.bsGo (fun t => Op.bytesLess (bs (Z.getD t x)).toList (bs x).toList) Z.length 0 Z.length : Nat) : Int) = numF Z x 0 := by
  obtain ⟨k, hk, rfl⟩ := List.getElem_of_mem hx
  have h1 : Lib.bsGo (fun t => Op.bytesLess (bs (Z.getD t Z[k])).toList (bs Z[k]).toList) Z.length 0 Z.length = k := by
    refine Lib.bsGo_spec _ k (fun t ht => ?_) (fun t ht => ?_) Z.length 0 Z.length (by omega) (by omega) (by omega)
    · have htl : t < Z.length := by omega
      rw [show Z.getD t Z[k] = Z[t] from by rw [List.getD_eq_getElem?_getD, List.getElem?_eq_getElem htl]; rfl]
      rw [bytesLess_eq, bs_toList, bs_toList]
      simpa using (List.pairwise_iff_getElem.1 hr) t k htl hk ht
    · rw [bytesLess_eq, bs_toList, bs_toList]
      by_cases htl : t < Z.length
      · rw [show Z.getD t Z[k] = Z[t] from by rw [List.getD_eq_getElem?_getD, List.getElem?_eq_getElem htl]; rfl]
        by_cases htk : t = k
        · subst htk; simp
        · have := (List.pairwise_iff_getElem.1 hr) k t hk htl (by omega)
          simpa using List.le_of_lt this
      · rw [show Z.getD t Z[k] = Z[k] from by rw [List.getD_eq_getElem?_getD, List.getElem?_eq_none (by omega)]; rfl]
        simp
  rw [h1, numF_at Z k 0 hk (rising_nodup hr)]
  simp
/-- What the call of number reads: the strings that are used, and the module. -/
structure NumE (w : World) (gu gm : Nat) (Au : Option Addr) (m cu : Nat) (Z : List (List UInt8)) (As Ag Af Ae : Option Addr) (ls cs lg cg lf cf le ce : Nat) (strs : List (List UInt8)) : Prop where
  bu : Blk w gu 26 #[.slice Au m cu]
  bm : Blk w gm 30 #[.slice As ls cs, .slice Ag lg cg, .slice Af lf cf, .slice Ae le ce]
  ru : RdS (fun _ => True) w Au m 1 (strV Z)
  rs : RdS (fun _ => True) w As ls 1 (strV strs)
theorem NumE.old {w w' : World} {gu gm : Nat} {Au : Option Addr} {m cu : Nat} {Z : List (List UInt8)} {As Ag Af Ae : Option Addr} {ls cs lg cg lf cf le ce : Nat} {strs : List (List UInt8)} (h : NumE w gu gm Au m cu Z As Ag Af Ae ls cs lg cg lf cf le ce strs) (hb : Below w.heap.size w w') : NumE w' gu gm Au m cu Z As Ag Af Ae ls cs lg cg lf cf le ce strs :=
  ⟨h.bu.old hb, h.bm.old hb, h.ru.old hb (by omega), h.rs.old hb (by omega)⟩
set_option maxHeartbeats 4000000 in
theorem num_any (w : World) (gu gm : Nat) (Au : Option Addr) (m cu : Nat) (Z : List (List UInt8)) (As Ag Af Ae : Option Addr) (ls cs lg cg lf cf le ce : Nat) (strs : List (List UInt8)) (n : Int) (h : NumE w gu gm Au m cu Z As Ag Af Ae ls cs lg cg lf cf le ce strs) (hls : ls = strs.length) (hl : ls ≤ 1000000) (hm : m = Z.length) (hml : m ≤ 1000000) (hn : 0 ≤ n ∧ n < (ls : Int)) (hr : Rising Z) (hx : strF strs n ∈ Z) :
    Calls Try.prog 46 #[.int .i64 n, .pointer (some ⟨gu, 0, none⟩), .pointer (some ⟨gm, 0, none⟩)] w fun e w' => e = .returned (.int .i64 (numF Z (strF strs n) 0)) ∧ Below w.heap.size w w' := by
  have hS := fun wx (hb : Below w.heap.size w wx) => str_any strs As Ag Af Ae cs lg cg lf cf le ce n wx (by omega) (by omega) (by have := (h.old hb).rs; rwa [hls] at this) (by omega)
  simp only [← hls] at hS
  obtain ⟨x, hxe⟩ : ∃ x, x = strF strs n := ⟨_, rfl⟩
  rw [← hxe] at hS hx ⊢
  have hmp : 0 < m := by
    obtain ⟨k, hk, _⟩ := List.getElem_of_mem hx
    omega
  obtain ⟨b, o, rfl, _, hc⟩ := h.ru.2 hmp
  have hB := fun wx (hb : Below w.heap.size w wx) => Try.slices_BinarySearch_string b o m cu (fun t => bs (Z.getD t x)) (bs x) wx (by omega) (fun j hj => by
    have hjl : j < Z.length := by omega
    rw [show Z.getD j x = Z[j] from by rw [List.getD_eq_getElem?_getD, List.getElem?_eq_getElem hjl]; rfl]
    have h1 := hc j (.string (bs Z[j])) (by simp [strV, hjl])
    exact cell_old hb (World.block_lt_of_cell? w _ h1) h1)
  have hnum := bs_num Z x hr hx
  rw [← hm] at hnum
  simp only [hnum] at hB
  have hB2 : ∀ wx, Below w.heap.size w wx → Calls Try.prog 47 #[.slice (some ⟨b, o, none⟩) m cu, .string (bs x)] wx fun e w' => ∃ bv : Bool, e = .returned (.tuple #[.int .i64 (numF Z x 0), .bool bv]) ∧ ∃ q, w' = wx.drewN q := fun wx hb => (hB wx hb).mono (fun e w' h => ⟨_, h.1, h.2⟩)
  have HB := Lib.hid hB2
  have HS := Lib.hid hS
  have e8 : w.cell? ⟨gu, 0, none⟩ = some (.slice (some ⟨b, o, none⟩) m cu) := h.bu.cell 0
  obtain ⟨m0, m1, m2, m3⟩ := h.bm.c4
  have zu : gu < w.heap.size := h.bu.lt
  have zm : gm < w.heap.size := h.bm.lt
  clear hc hB hB2 hS hnum hr hx hxe h hls hm hn hl hml
  generalize numF Z x 0 = r at *
  generalize bs x = S at *
  go_enter Try.func46, Try.ntmps46
  go_upto_region 1 with (fail)
  refine wp_region_held_drew (S := (fun W => Below w.heap.size w W)) (by kernel_rfl) (Below.refl _ _).drew (fun hHeld => ?_)
  try simp only [Act.put, List.setIfInBounds_toArray, List.set_cons_zero, List.set_cons_succ]
  refine wpAnyH_take (i := 0) (oi := { dst := some 8, op := Op.load 26 (Operand.tmp 1), type := 26, pos := "canon.go:22", after := #[], guard := none }) (v := ?_) rfl (by kernel_rfl) (by kernel_rfl) (by kernel_rfl) (fun _ _ _ h => h) (Or.inl ⟨by rfl, ?_⟩) (by assumption) ?_
  rotate_left
  · (intro W hSW; (try dsimp only at hSW); (have e8 := cell_old hSW zu e8); (have m0 := cell_old hSW zm m0); (have m1 := cell_old hSW zm m1); (have m2 := cell_old hSW zm m2); (have m3 := cell_old hSW zm m3); go_simp; first | done | with_reducible rfl)
  try simp only [Act.put, List.setIfInBounds_toArray, List.set_cons_zero, List.set_cons_succ]
  refine wpAnyH_take (i := 1) (oi := { dst := some 9, op := Op.load 30 (Operand.tmp 2), type := 30, pos := "canon.go:22", after := #[], guard := none }) (v := ?_) rfl (by kernel_rfl) (by kernel_rfl) (by kernel_rfl) (fun _ _ _ h => h) (Or.inl ⟨by rfl, ?_⟩) (by assumption) ?_
  rotate_left
  · (intro W hSW; (try dsimp only at hSW); (have e8 := cell_old hSW zu e8); (have m0 := cell_old hSW zm m0); (have m1 := cell_old hSW zm m1); (have m2 := cell_old hSW zm m2); (have m3 := cell_old hSW zm m3); go_simp; first | done | with_reducible rfl)
  try simp only [Act.put, List.setIfInBounds_toArray, List.set_cons_zero, List.set_cons_succ]
  refine wpAnyH_take (i := 2) (oi := { dst := some 10, op := Op.move (Operand.tmp 0), type := 3, pos := "canon.go:22", after := #[], guard := none }) (v := ?_) rfl (by kernel_rfl) (by kernel_rfl) (by kernel_rfl) (fun _ _ _ h => h) (Or.inl ⟨by rfl, ?_⟩) (by assumption) ?_
  rotate_left
  · (intro W hSW; (try dsimp only at hSW); (have e8 := cell_old hSW zu e8); (have m0 := cell_old hSW zm m0); (have m1 := cell_old hSW zm m1); (have m2 := cell_old hSW zm m2); (have m3 := cell_old hSW zm m3); go_simp; first | done | with_reducible rfl)
  try simp only [Act.put, List.setIfInBounds_toArray, List.set_cons_zero, List.set_cons_succ]
  clear e8 m0 m1 m2 m3
  refine wpAnyH_ready (rs := [3]) (by kernel_rfl) (by simp) ?_
  refine AllReadyH.cons (o := { dst := some 11, op := Op.call { callee := Callee.value (Operand.func 48), args := #[Operand.tmp 9, Operand.tmp 10], argTypes := #[30, 3] }, type := 9, pos := "canon.go:22", after := #[{ on := 1, ground := Ground.data }, { on := 2, ground := Ground.data }], guard := none }) rfl (fun KQ hKQ => ?_) AllReadyH.nil
  go_simp
  go_at_call 48
  refine (HS.out _ hHeld).mono ?_
  rintro e w2 ⟨rfl, hb2⟩
  have hB2 : Below w.heap.size w w2 := hHeld.trans (hb2.mono hHeld.size)
  refine hKQ.out _ _ hB2 (fun _ => ?_)
  clear hKQ KQ hb2
  try simp only [Act.put, List.setIfInBounds_toArray, List.set_cons_zero, List.set_cons_succ]
  refine wpAnyH_ready (rs := [4]) (by kernel_rfl) (by simp) ?_
  refine AllReadyH.cons (o := { dst := some 12, op := Op.call { callee := Callee.value (Operand.func 47), args := #[Operand.tmp 8, Operand.tmp 11], argTypes := #[26, 9] }, type := 93, pos := "canon.go:22", after := #[{ on := 0, ground := Ground.data }, { on := 3, ground := Ground.data }, { on := 3, ground := Ground.chain }], guard := none }) rfl (fun KQ hKQ => ?_) AllReadyH.nil
  go_simp
  go_at_call 47
  refine (HB.out _ hB2).mono ?_
  rintro e w3 ⟨bv, rfl, nq, rfl⟩
  have hB3 : Below w.heap.size w (w2.drewN nq) := hB2.trans (below_dN w2 nq w.heap.size)
  refine hKQ.out _ _ hB3 (fun _ => ?_)
  clear hKQ KQ
  try simp only [Act.put, List.setIfInBounds_toArray, List.set_cons_zero, List.set_cons_succ]
  refine wpAnyH_take (i := 5) (oi := { dst := some 7, op := Op.move (Operand.tmp 12), type := 93, pos := "canon.go:22", after := #[{ on := 4, ground := Ground.data }], guard := none }) (v := ?_) rfl (by kernel_rfl) (by kernel_rfl) (by kernel_rfl) (fun _ _ _ h => h) (Or.inl ⟨by rfl, ?_⟩) (by assumption) ?_
  rotate_left
  · (intro W hSW; (try dsimp only at hSW); go_simp; first | done | with_reducible rfl)
  try simp only [Act.put, List.setIfInBounds_toArray, List.set_cons_zero, List.set_cons_succ]
  refine wpAnyH_take (i := 6) (oi := { dst := some 13, op := Op.extract (Operand.tmp 7) 0, type := 3, pos := "canon.go:22", after := #[{ on := 5, ground := Ground.data }], guard := none }) (v := ?_) rfl (by kernel_rfl) (by kernel_rfl) (by kernel_rfl) (fun _ _ _ h => h) (Or.inl ⟨by rfl, ?_⟩) (by assumption) ?_
  rotate_left
  · (intro W hSW; (try dsimp only at hSW); go_simp; first | done | with_reducible rfl)
  try simp only [Act.put, List.setIfInBounds_toArray, List.set_cons_zero, List.set_cons_succ]
  refine wpAnyH_take (i := 7) (oi := { dst := some 14, op := Op.extract (Operand.tmp 7) 1, type := 4, pos := "canon.go:22", after := #[{ on := 5, ground := Ground.data }, { on := 8, ground := Ground.gcOnly Departure.lateStores }], guard := none }) (v := ?_) rfl (by kernel_rfl) (by kernel_rfl) (by kernel_rfl) (fun _ _ _ h => h) (Or.inl ⟨by rfl, ?_⟩) (by assumption) ?_
  rotate_left
  · (intro W hSW; (try dsimp only at hSW); go_simp; first | done | with_reducible rfl)
  try simp only [Act.put, List.setIfInBounds_toArray, List.set_cons_zero, List.set_cons_succ]
  refine wpAnyH_take (i := 8) (oi := { dst := some 5, op := Op.assign (Operand.tmp 13), type := 3, pos := "canon.go:22", after := #[{ on := 6, ground := Ground.data }, { on := 4, ground := Ground.chain }, { on := 0, ground := Ground.phase }, { on := 1, ground := Ground.phase }, { on := 2, ground := Ground.phase }, { on := 3, ground := Ground.phase }, { on := 4, ground := Ground.phase }, { on := 5, ground := Ground.phase }, { on := 6, ground := Ground.phase }, { on := 7, ground := Ground.textOnly Departure.lateStores }], guard := none }) (v := ?_) rfl (by kernel_rfl) (by kernel_rfl) (by kernel_rfl) (fun _ _ _ h => h) (Or.inl ⟨by rfl, ?_⟩) (by assumption) ?_
  rotate_left
  · (intro W hSW; (try dsimp only at hSW); go_simp; first | done | with_reducible rfl)
  try simp only [Act.put, List.setIfInBounds_toArray, List.set_cons_zero, List.set_cons_succ]
  refine wpAnyH_take (i := 9) (oi := { dst := some 6, op := Op.assign (Operand.tmp 14), type := 4, pos := "canon.go:22", after := #[{ on := 7, ground := Ground.data }, { on := 8, ground := Ground.chain }, { on := 0, ground := Ground.phase }, { on := 1, ground := Ground.phase }, { on := 2, ground := Ground.phase }, { on := 3, ground := Ground.phase }, { on := 4, ground := Ground.phase }, { on := 5, ground := Ground.phase }, { on := 6, ground := Ground.phase }, { on := 7, ground := Ground.phase }, { on := 8, ground := Ground.phase }], guard := none }) (v := ?_) rfl (by kernel_rfl) (by kernel_rfl) (by kernel_rfl) (fun _ _ _ h => h) (Or.inl ⟨by rfl, ?_⟩) (by assumption) ?_
  rotate_left
  · (intro W hSW; (try dsimp only at hSW); go_simp; first | done | with_reducible rfl)
  try simp only [Act.put, List.setIfInBounds_toArray, List.set_cons_zero, List.set_cons_succ]
  refine wpAnyH_done (by kernel_rfl) ?_ _
  have HB3 := Lib.hid hB3
  clear hB3 hB2 hHeld
  go_wp2
  go_ret
  exact ⟨rfl, HB3.out⟩
end Go.Proofs.Ytpdebnecfknohaa
namespace Go.Proofs.Ytpdebnecfknohaa
open Go.RowKit Go.Maps
set_option linter.unusedVariables false
set_option linter.unusedSimpArgs false
set_option maxRecDepth 20000
/-- The first k are new. -/
def renK (F : Int → Int) (xs : List Int) (k : Nat) : List Int := (xs.take k).map F ++ xs.drop k
theorem renK_get (F : Int → Int) (xs : List Int) (k : Nat) (h : k < xs.length) : (renK F xs k)[k]? = some xs[k] := by
  unfold renK
  rw [List.getElem?_append_right (by simp; omega)]
  simp [Nat.min_eq_left (Nat.le_of_lt h), h]
theorem renK_set (F : Int → Int) (xs : List Int) (k : Nat) (h : k < xs.length) : (renK F xs k).set k (F xs[k]) = renK F xs (k + 1) := by
  unfold renK
  have hl : ((xs.take k).map F).length = k := by simp; omega
  rw [List.set_append_right _ _ (by omega), hl, Nat.sub_self, List.drop_eq_getElem_cons h, List.set_cons_zero, List.take_succ_eq_append_getElem h, List.map_append]
  simp only [List.map_cons, List.map_nil, List.append_assoc, List.cons_append, List.nil_append]
theorem intV_set (l : List Int) (k : Nat) (x : Int) : (intV l).set k (.int .i64 x) = intV (l.set k x) := by simp [intV, List.map_set]
/-- What renumber leaves. -/
def RenB (B : Nat) (wB w : World) (F : Int → Int) (A : Option Addr) (n c : Nat) (xs : List Int) (e : Ending) (w' : World) : Prop :=
  e = .returned (.tuple #[]) ∧ w'.ownsRow B 3 1 (.slice A n c) n (intV (xs.map F)) ∧ Below B wB w' ∧ w.heap.size ≤ w'.heap.size ∧ ∀ k, k < w.heap.size → some k ≠ (Value.slice A n c).ownBlock → w'.heap[k]? = w.heap[k]?
set_option maxHeartbeats 4000000 in
theorem ren_any (B : Nat) (wB w : World) (F : Int → Int) (gu gm : Nat) (A : Option Addr) (n c : Nat) (xs : List Int) (hb : Below B wB w) (hBs : B ≤ wB.heap.size) (hO : w.ownsRow B 3 1 (.slice A n c) n (intV xs)) (hn : n = xs.length) (hl : n ≤ 1000000)
    (hC : ∀ wx, Below B wB wx → ∀ i ∈ xs, Calls Try.prog 46 #[.int .i64 i, .pointer (some ⟨gu, 0, none⟩), .pointer (some ⟨gm, 0, none⟩)] wx fun e w' => e = .returned (.int .i64 (F i)) ∧ Below wx.heap.size wx w') :
    Calls Try.prog 50 #[.slice A n c, .func (.func 46) #[] #[.pointer (some ⟨gu, 0, none⟩), .pointer (some ⟨gm, 0, none⟩)]] w (RenB B wB w F A n c xs) := by
  have HC := Lib.hid hC
  have HN := Lib.hid hn
  have HO0 : Hid (w.ownsRow B 3 1 (.slice A n c) n (intV (renK F xs 0))) := hO
  have HB0 := Lib.hid hb
  have HBs := Lib.hid hBs
  have HE : Hid (renK F xs n = xs.map F) := by show _ = _; rw [hn]; simp [renK]
  clear hC hn hO hb hBs
  go_enter Try.func50, Try.ntmps50
  go_wp2_with fail
  go_loopg [8] (n + 1) (fun f s8 wr => ∃ (k : Nat), s8 = .int .i64 (k : Int) ∧ k ≤ n ∧ n - k < f ∧ Hid (wr.ownsRow B 3 1 (.slice A n c) n (intV (renK F xs k))) ∧ Hid (Below B wB wr) ∧ Hid (w.heap.size ≤ wr.heap.size) ∧ Hid (∀ j, j < w.heap.size → some j ≠ (Value.slice A n c).ownBlock → wr.heap[j]? = w.heap[j]?))
  case atStart => exact ⟨0, rfl, Nat.zero_le _, by omega, HO0, HB0, Nat.le_refl _, fun _ _ _ => rfl⟩
  case round =>
    clear HO0 HB0
    obtain ⟨k, rfl, hk, hkf, hO, hB, hSz, hK⟩ := hrel
    obtain ⟨f, rfl⟩ : ∃ g, gk = g + 1 := ⟨gk - 1, by omega⟩
    by_cases hlt : k < n
    · have hki : (k : Int) < (n : Int) := by omega
      have hkx : k < xs.length := by rw [← HN.out]; exact hlt
      obtain ⟨g, rfl⟩ : ∃ g, A = some ⟨g, 0, none⟩ := by
        rcases hO.out.2 with ⟨_, h0⟩ | ⟨g, cap, cur, hv, _⟩
        · omega
        · injection hv with e1; exact ⟨g, e1⟩
      obtain ⟨hnc, hgb, hgl, hcf, _⟩ := own_at hO.out (by omega)
      obtain ⟨i, hi⟩ : ∃ i, i = xs[k] := ⟨_, rfl⟩
      have hgk : (intV (renK F xs k))[k]? = some (.int .i64 i) := by simp [intV, renK_get F xs k hkx, hi]
      obtain ⟨e0, _⟩ := hcf k _ hgk
      have hCl := HC.out wr hB.out i (by rw [hi]; exact List.getElem_mem hkx)
      have HCl := Lib.hid hCl
      have hset : (renK F xs k).set k (F i) = renK F xs (k + 1) := by rw [hi]; exact renK_set F xs k hkx
      have HSet := Lib.hid hset
      have HGk := Lib.hid hgk
      have hkc : k < c := by omega
      clear hcf hCl hset hgk hi hkx
      go_wp2_with fail
      refine HCl.out.mono ?_
      rintro e w5 ⟨rfl, hb5⟩
      have hO5 := own_old hO.out hb5
      obtain ⟨_, _, hgl5, hcf5, hst5⟩ := own_at hO5 (by omega)
      obtain ⟨e5, f5⟩ := hcf5 k _ HGk.out
      have hO6 := hst5 k (.int .i64 (F i)) hlt
      rw [intV_set, HSet.out] at hO6
      have HO6 := Lib.hid hO6
      have hbs : B ≤ wr.heap.size := Nat.le_trans HBs.out hB.out.size
      have HB6 := Lib.hid ((hB.out.trans (hb5.mono hbs)).setCell (p := ⟨g, k, none⟩) hgb (.int .i64 (F i)))
      have HSz6 : Hid (w.heap.size ≤ (w5.setCell ⟨g, k, none⟩ (.int .i64 (F i))).heap.size) := by
        show _ ≤ _
        have h1 := hSz.out
        have h2 := hb5.size
        simp
        omega
      have HK6 : Hid (∀ j, j < w.heap.size → some j ≠ (Value.slice (some ⟨g, 0, none⟩) n c).ownBlock → (w5.setCell ⟨g, k, none⟩ (.int .i64 (F i))).heap[j]? = w.heap[j]?) := fun j hj hne => by
        have hjg : j ≠ g := fun e => hne (by rw [e]; rfl)
        rw [Below.heap_setCell _ _ _ _ hjg, hb5.block j (by have := hSz.out; omega)]
        exact hK.out j hj hne
      clear hb5 hO5 hcf5 hst5 hO6 hO hB HCl e0 hgl hSz hK hbs
      go_wp2
      go_roundg f
      case measure => omega
      case rel => exact ⟨k + 1, by go_num, by omega, by omega, HO6, HB6, HSz6, HK6⟩
    · obtain rfl : k = n := by omega
      have hO2 := hO.out
      rw [HE.out] at hO2
      have HO2 := Lib.hid hO2
      clear hO2 hO
      go_wp2
      refine bodyPost_end (results_none rfl _ _ _) rfl ?_
      exact ⟨rfl, HO2.out, hB.out, hSz.out, hK.out⟩
end Go.Proofs.Ytpdebnecfknohaa
