/-
  What lacks leaves: is a number of theirs missing, and how many of their blocks are.
-/
import Derived.Test.YtkkkglmjipnfaaaDoorCpy
import Derived.Test.YtkkkglmjipnfaaaDoorJ
namespace Go.Proofs.YtkkkglmjipnfaaaDoor
open Go.RowKit
set_option linter.unusedVariables false

theorem less_bits (x y : Nat) (hx : x < 18446744073709551616) (hy : y < 18446744073709551616) : bits .andNot .u64 (x : Int) (y : Int) = ((lessN x y : Nat) : Int) := by
  rw [u64_andNot_nat x y hx hy]
  congr 1
  apply Nat.eq_of_testBit_eq
  intro i
  rw [lessN_bit, Nat.testBit_and, show 18446744073709551615 - y = 2 ^ 64 - (y + 1) from by omega, Nat.testBit_two_pow_sub_succ hy]
  rcases Nat.lt_or_ge i 64 with h | h
  · rw [decide_eq_true h]; simp
  · rw [Nat.testBit_lt_two_pow (Nat.lt_of_lt_of_le hx (Nat.le_trans (show 18446744073709551616 ≤ 2 ^ 64 by decide) (Nat.pow_le_pow_right (by decide) h)))]; simp
theorem BR.drop {w : World} {b o : Nat} {L : Bks} (h : BR w (some ⟨b, o, none⟩) L) (r : Nat) : BR w (some ⟨b, o + r * 2, none⟩) (L.drop r) := fun hp => by
  rw [List.length_drop] at hp
  obtain ⟨b', o', e, hc⟩ := h (by omega)
  injection e with e
  injection e with e1 e2
  subst e1 e2
  refine ⟨b, o + r * 2, rfl, fun k hk => ?_⟩
  rw [List.length_drop] at hk
  have := hc (r + k) (by omega)
  rw [show (L.drop r).getD k (0, 0) = L.getD (r + k) (0, 0) from by simp [List.getD, List.getElem?_drop]]
  rw [show o + r * 2 + k * 2 = o + (r + k) * 2 from by omega]
  exact this
theorem BR.nil (w : World) (A : Option Addr) : BR w A [] := fun h => by simp at h
theorem Good.drop {L : Bks} (h : Good L) (r : Nat) : Good (L.drop r) := ⟨h.1.sublist (List.drop_sublist r L), fun p hp => h.2 p (List.mem_of_mem_drop hp)⟩
/-- What stands behind, and is asked from the left. -/
theorem look_drop {L : Bks} {r : Nat} {a : Int} (h : ∀ p ∈ L.take r, p.1 < a) : look (L.drop r) a = look L a := by
  conv => rhs; rw [← List.take_append_drop r L]
  rw [look_append _ _ _ (fun p hp => by have := h p hp; omega)]
theorem lackF_snoc (L T : Bks) (q : Int × Nat) : lackF L (T ++ [q]) = (lackF L T || decide (lessN q.2 (look L q.1) ≠ 0)) := by simp [lackF]
theorem newF_snoc (L T : Bks) (q : Int × Nat) : newF L (T ++ [q]) = newF L T + (if look L q.1 = 0 then 1 else 0) := by simp [newF, List.countP_cons]
theorem newF_le (L T : Bks) : newF L T ≤ T.length := List.countP_le_length
/-- All that was passed stands ahead of all that comes. -/
def Past (L T : Bks) (j k : Nat) : Prop := ∀ p ∈ L.take j, ∀ q ∈ T.drop k, p.1 < q.1
theorem Past.step {L T : Bks} (hT : Good T) {j k r : Nat} (h : Past L T j k) (hk : k < T.length) (ha : At (L.drop j) (T.getD k (0, 0)).1 r) : Past L T (j + r) (k + 1) := by
  intro p hp q hq
  have hd : T.drop k = T.getD k (0, 0) :: T.drop (k + 1) := by rw [List.drop_eq_getElem_cons hk]; simp [hk]
  have hs := hT.1.sublist (List.drop_sublist k T)
  rw [hd] at hs
  have h1 := (List.pairwise_cons.1 hs).1 q hq
  rw [List.take_add] at hp
  rcases List.mem_append.1 hp with h2 | h2
  · exact h p h2 q (by rw [hd]; exact List.mem_cons_of_mem _ hq)
  · have := ha.2.1 p h2; omega
theorem Past.look {L T : Bks} {j k : Nat} (h : Past L T j k) (hk : k < T.length) : look (L.drop j) (T.getD k (0, 0)).1 = look L (T.getD k (0, 0)).1 :=
  look_drop fun p hp => h p hp _ (by rw [List.drop_eq_getElem_cons hk, show T.getD k (0, 0) = T[k] from by simp [hk]]; exact List.mem_cons_self)

set_option maxRecDepth 20000 in
set_option maxHeartbeats 1000000 in
theorem lacks_any (A B : Option Addr) (c d : Nat) (L T : Bks) (w : World) (hL : Good L) (hT : Good T) (h1 : BR w A L) (h2 : BR w B T) (hl : L.length ≤ 10000) (ht : T.length ≤ 10000)
    (hc : L.length ≤ c) (hcm : c ≤ maxLen) (hA : (A = none ∧ c = 0) ∨ ∃ b o, A = some ⟨b, o, none⟩) :
    Calls Tryd.prog 26 #[.slice A L.length c, .slice B T.length d] w fun e w' => e = .returned (.tuple #[.bool (lackF L T), .int .i64 ((newF L T : Nat) : Int)]) ∧ Below w.heap.size w w' := by
  unfold maxLen at hcm
  have hcm2 : c ≤ 9223372036854775807 := by omega
  clear hcm
  have HG := Lib.hid (And.intro hL hT)
  have HB1 := Lib.hid h1
  have HB2 := Lib.hid h2
  clear hL hT h1 h2
  go_enter Tryd.func26, Tryd.ntmps26
  go_wp2_with fail
  go_loopw [0, 6, 7, 14] (fun s0 s6 s7 i wr => ∃ (k j : Nat) (A1 : Option Addr) (c1 : Nat), k ≤ T.length ∧ j ≤ L.length ∧ i = .int .i64 k ∧ s0 = .slice A1 (L.length - j) c1 ∧ L.length - j ≤ c1 ∧ c1 ≤ 9223372036854775807 ∧ Hid ((A1 = none ∧ c1 = 0) ∨ ∃ b o, A1 = some ⟨b, o, none⟩) ∧ s6 = .bool (lackF L (T.take k)) ∧ s7 = .int .i64 ((newF L (T.take k) : Nat) : Int) ∧ Hid (Past L T j k) ∧ Hid (BR wr A1 (L.drop j)) ∧ Hid (Below w.heap.size w wr)) (fun _ _ _ i _ => T.length - (intOf i).toNat)
  case atStart => exact ⟨0, 0, A, c, Nat.zero_le _, Nat.zero_le _, rfl, rfl, hc, hcm2, hA, rfl, rfl, (fun p hp => by simp at hp), HB1.out, Below.refl _ _⟩
  case round =>
    obtain ⟨k, j, A1, c1, hk, hj, rfl, rfl, hc1, hc1m, hA1, rfl, rfl, hP, hBR, hB⟩ := hrel
    by_cases hlt : k < T.length
    · obtain ⟨b, o, rfl, hcT⟩ := (HB2.out.old hB.out) (by omega)
      obtain ⟨e1, e2⟩ := hcT k hlt
      have Hts := Lib.hid (take_snocB T k hlt)
      have hgd := (HG.out.2.2 _ (getD_mem hlt)).2.2.2
      have Hlook := Lib.hid (hP.out.look hlt)
      have Hstep : Hid (∀ r, At (L.drop j) (T.getD k (0, 0)).1 r → Past L T (j + r) (k + 1)) := fun r hr => hP.out.step HG.out.2 hlt hr
      have hly := look_lt HG.out.1 (T.getD k (0, 0)).1
      have hnw := newF_le L (T.take k)
      have htk : (T.take k).length ≤ k := by rw [List.length_take]; omega
      generalize T.getD k (0, 0) = q at *
      obtain ⟨a, x⟩ := q
      unfold two64 at hgd hly
      simp only at e1 e2 hgd hly Hlook Hstep
      have HL : Hid (lackF L (T.take (k + 1)) = (lackF L (T.take k) || decide (lessN x (look L a) ≠ 0))) := by show _ = _; rw [Hts.out, lackF_snoc]
      have HN : Hid (newF L (T.take (k + 1)) = newF L (T.take k) + (if look L a = 0 then 1 else 0)) := by show _ = _; rw [Hts.out, newF_snoc]
      have HBA : Hid (Below wr.heap.size wr (wr.alloc (.cells #[.int .i64 a, .int .u64 (x : Int)] 57))) := (Below.refl _ _).alloc (Nat.le_refl _) _
      have HFD : Hid (Calls Tryd.prog 24 #[.slice A1 (L.length - j) c1, .int .i64 a] (wr.alloc (.cells #[.int .i64 a, .int .u64 (x : Int)] 57)) fun e w' => ∃ r : Nat, e = .returned (.tuple #[.int .i64 r, .int .u64 (look L a : Int)]) ∧ r ≤ L.length - j ∧ Hid (Past L T (j + r) (k + 1)) ∧ Hid (Below (wr.alloc (.cells #[.int .i64 a, .int .u64 (x : Int)] 57)).heap.size (wr.alloc (.cells #[.int .i64 a, .int .u64 (x : Int)] 57)) w')) := by
        have := find_any A1 c1 (L.drop j) a (wr.alloc (.cells #[.int .i64 a, .int .u64 (x : Int)] 57)) (HG.out.1.drop j) (hBR.out.old HBA.out) (by rw [List.length_drop]; omega)
        rw [List.length_drop] at this
        refine Calls.mono this ?_
        rintro e w' ⟨r, rfl, hat, hb⟩
        refine ⟨r, by rw [Hlook.out], by have := hat.1; rw [List.length_drop] at this; exact this, Hstep.out r hat, hb⟩
      have hbt := less_bits x (look L a) hgd hly
      generalize lackF L (T.take k) = lk at *
      generalize newF L (T.take k) = nw at *
      generalize look L a = y at *
      clear hcT Hts Hlook Hstep hP
      obtain ⟨ll, hll⟩ : ∃ ll, ll = L.length - j := ⟨_, rfl⟩
      rw [← hll] at HFD hc1 ⊢
      have HLL := Lib.hid hll
      clear hll
      go_wp2_with fail
      refine HFD.out.mono ?_
      rintro e w2 ⟨r, rfl, hr, hP2, hb2⟩
      have hsz : wr.heap.size < (wr.alloc (.cells #[.int .i64 a, .int .u64 (x : Int)] 57)).heap.size := by simp
      have hx2 : w2.cell? ⟨wr.heap.size, 1, none⟩ = some (.int .u64 (x : Int)) := by
        rw [World.cell?_of_block (hb2.out.block wr.heap.size hsz)]; simp
      have HB3 := Lib.hid (hB.out.trans ((HBA.out.trans (hb2.out.mono HBA.out.size)).mono hB.out.size))
      have HBR3 := Lib.hid (hBR.out.old (HBA.out.trans (hb2.out.mono HBA.out.size)))
      clear HFD hb2 HBA hsz hB hBR
      have hfin : ∀ (A2 : Option Addr) (c2 : Nat) (lk' : Bool) (nw' : Nat), ll - r ≤ c2 → c2 ≤ 9223372036854775807 → ((A2 = none ∧ c2 = 0) ∨ ∃ b o, A2 = some ⟨b, o, none⟩) → BR w2 A2 (L.drop (j + r)) → lk' = lackF L (T.take (k + 1)) → nw' = newF L (T.take (k + 1)) →
          ∃ (k' j' : Nat) (A1 : Option Addr) (c1 : Nat), k' ≤ T.length ∧ j' ≤ L.length ∧ Value.int .i64 ((k : Int) + 1) = .int .i64 k' ∧ Value.slice A2 (ll - r) c2 = .slice A1 (L.length - j') c1 ∧ L.length - j' ≤ c1 ∧ c1 ≤ 9223372036854775807 ∧ Hid ((A1 = none ∧ c1 = 0) ∨ ∃ b o, A1 = some ⟨b, o, none⟩) ∧ Value.bool lk' = .bool (lackF L (T.take k')) ∧ Value.int .i64 (nw' : Int) = .int .i64 ((newF L (T.take k') : Nat) : Int) ∧ Hid (Past L T j' k') ∧ Hid (BR w2 A1 (L.drop j')) ∧ Hid (Below w.heap.size w w2) := by
        intro A2 c2 lk' nw' h1 h2 h3 h4 h5 h6
        have := HLL.out
        refine ⟨k + 1, j + r, A2, c2, by omega, by omega, by congr 1, by rw [show ll - r = L.length - (j + r) from by omega], by omega, h2, h3, by rw [h5], by rw [h6], hP2.out, h4, HB3.out⟩
      have HFin := Lib.hid hfin
      clear hfin
      rcases hA1.out with ⟨rfl, rfl⟩ | ⟨b1, o1, rfl⟩
      · obtain rfl : ll = 0 := by omega
        obtain rfl : r = 0 := by omega
        have HBd : Hid (BR w2 none (L.drop (j + 0))) := HBR3.out
        by_cases hz : lessN x y = 0
        · by_cases hy : y = 0
          · have hne : (((lessN x y : Nat) : Int) != 0) = false := by simp [hz]
            have hyb : ((y : Int) == 0) = true := by simp [hy]
            have HLv : Hid (lk = lackF L (T.take (k + 1))) := by show _ = _; rw [HL.out]; simp [hz]
            have HNv : Hid (nw + 1 = newF L (T.take (k + 1))) := by show _ = _; rw [HN.out]; simp [hy]
            clear hz hy HL HN
            go_wp2
            go_roundw
            case rel => exact HFin.out _ _ _ _ (by omega) (by omega) (.inl ⟨rfl, rfl⟩) HBd.out HLv.out HNv.out
            case measure => simp [intOf]; omega
          · have hne : (((lessN x y : Nat) : Int) != 0) = false := by simp [hz]
            have hyb : ((y : Int) == 0) = false := by simp [hy]
            have HLv : Hid (lk = lackF L (T.take (k + 1))) := by show _ = _; rw [HL.out]; simp [hz]
            have HNv : Hid (nw = newF L (T.take (k + 1))) := by show _ = _; rw [HN.out]; simp [hy]
            clear hz hy HL HN
            go_wp2
            go_roundw
            case rel => exact HFin.out _ _ _ _ (by omega) (by omega) (.inl ⟨rfl, rfl⟩) HBd.out HLv.out HNv.out
            case measure => simp [intOf]; omega
        · by_cases hy : y = 0
          · have hne : (((lessN x y : Nat) : Int) != 0) = true := by simp [hz]
            have hyb : ((y : Int) == 0) = true := by simp [hy]
            have HLv : Hid (true = lackF L (T.take (k + 1))) := by show _ = _; rw [HL.out]; simp [hz]
            have HNv : Hid (nw + 1 = newF L (T.take (k + 1))) := by show _ = _; rw [HN.out]; simp [hy]
            clear hz hy HL HN
            go_wp2
            go_roundw
            case rel => exact HFin.out _ _ _ _ (by omega) (by omega) (.inl ⟨rfl, rfl⟩) HBd.out HLv.out HNv.out
            case measure => simp [intOf]; omega
          · have hne : (((lessN x y : Nat) : Int) != 0) = true := by simp [hz]
            have hyb : ((y : Int) == 0) = false := by simp [hy]
            have HLv : Hid (true = lackF L (T.take (k + 1))) := by show _ = _; rw [HL.out]; simp [hz]
            have HNv : Hid (nw = newF L (T.take (k + 1))) := by show _ = _; rw [HN.out]; simp [hy]
            clear hz hy HL HN
            go_wp2
            go_roundw
            case rel => exact HFin.out _ _ _ _ (by omega) (by omega) (.inl ⟨rfl, rfl⟩) HBd.out HLv.out HNv.out
            case measure => simp [intOf]; omega
      · have HBd : Hid (BR w2 (some ⟨b1, o1 + r * 2, none⟩) (L.drop (j + r))) := by
          have := HBR3.out.drop r
          rwa [List.drop_drop] at this
        by_cases hrc : c1 = r
        · subst hrc
          have hf := HFin.out
          simp only [show ll - c1 = 0 from by omega] at hf
          have HFin0 := Lib.hid hf
          clear hf
          have HBd0 : Hid (BR w2 (some ⟨b1, o1, none⟩) (L.drop (j + c1))) := by
            rw [List.drop_of_length_le (by have := HLL.out; omega)]
            exact BR.nil _ _
          by_cases hz : lessN x y = 0
          · by_cases hy : y = 0
            · have hne : (((lessN x y : Nat) : Int) != 0) = false := by simp [hz]
              have hyb : ((y : Int) == 0) = true := by simp [hy]
              have HLv : Hid (lk = lackF L (T.take (k + 1))) := by show _ = _; rw [HL.out]; simp [hz]
              have HNv : Hid (nw + 1 = newF L (T.take (k + 1))) := by show _ = _; rw [HN.out]; simp [hy]
              clear hz hy HL HN
              go_wp2
              go_roundw
              case rel => exact HFin0.out _ 0 _ _ (by omega) (by omega) (.inr ⟨_, _, rfl⟩) HBd0.out HLv.out HNv.out
              case measure => simp [intOf]; omega
            · have hne : (((lessN x y : Nat) : Int) != 0) = false := by simp [hz]
              have hyb : ((y : Int) == 0) = false := by simp [hy]
              have HLv : Hid (lk = lackF L (T.take (k + 1))) := by show _ = _; rw [HL.out]; simp [hz]
              have HNv : Hid (nw = newF L (T.take (k + 1))) := by show _ = _; rw [HN.out]; simp [hy]
              clear hz hy HL HN
              go_wp2
              go_roundw
              case rel => exact HFin0.out _ 0 _ _ (by omega) (by omega) (.inr ⟨_, _, rfl⟩) HBd0.out HLv.out HNv.out
              case measure => simp [intOf]; omega
          · by_cases hy : y = 0
            · have hne : (((lessN x y : Nat) : Int) != 0) = true := by simp [hz]
              have hyb : ((y : Int) == 0) = true := by simp [hy]
              have HLv : Hid (true = lackF L (T.take (k + 1))) := by show _ = _; rw [HL.out]; simp [hz]
              have HNv : Hid (nw + 1 = newF L (T.take (k + 1))) := by show _ = _; rw [HN.out]; simp [hy]
              clear hz hy HL HN
              go_wp2
              go_roundw
              case rel => exact HFin0.out _ 0 _ _ (by omega) (by omega) (.inr ⟨_, _, rfl⟩) HBd0.out HLv.out HNv.out
              case measure => simp [intOf]; omega
            · have hne : (((lessN x y : Nat) : Int) != 0) = true := by simp [hz]
              have hyb : ((y : Int) == 0) = false := by simp [hy]
              have HLv : Hid (true = lackF L (T.take (k + 1))) := by show _ = _; rw [HL.out]; simp [hz]
              have HNv : Hid (nw = newF L (T.take (k + 1))) := by show _ = _; rw [HN.out]; simp [hy]
              clear hz hy HL HN
              go_wp2
              go_roundw
              case rel => exact HFin0.out _ 0 _ _ (by omega) (by omega) (.inr ⟨_, _, rfl⟩) HBd0.out HLv.out HNv.out
              case measure => simp [intOf]; omega
        · have hrc2 : r < c1 := by omega
          by_cases hz : lessN x y = 0
          · by_cases hy : y = 0
            · have hne : (((lessN x y : Nat) : Int) != 0) = false := by simp [hz]
              have hyb : ((y : Int) == 0) = true := by simp [hy]
              have HLv : Hid (lk = lackF L (T.take (k + 1))) := by show _ = _; rw [HL.out]; simp [hz]
              have HNv : Hid (nw + 1 = newF L (T.take (k + 1))) := by show _ = _; rw [HN.out]; simp [hy]
              clear hz hy HL HN
              go_wp2
              go_roundw
              case rel => exact HFin.out _ _ _ _ (by omega) (by omega) (.inr ⟨_, _, rfl⟩) HBd.out HLv.out HNv.out
              case measure => simp [intOf]; omega
            · have hne : (((lessN x y : Nat) : Int) != 0) = false := by simp [hz]
              have hyb : ((y : Int) == 0) = false := by simp [hy]
              have HLv : Hid (lk = lackF L (T.take (k + 1))) := by show _ = _; rw [HL.out]; simp [hz]
              have HNv : Hid (nw = newF L (T.take (k + 1))) := by show _ = _; rw [HN.out]; simp [hy]
              clear hz hy HL HN
              go_wp2
              go_roundw
              case rel => exact HFin.out _ _ _ _ (by omega) (by omega) (.inr ⟨_, _, rfl⟩) HBd.out HLv.out HNv.out
              case measure => simp [intOf]; omega
          · by_cases hy : y = 0
            · have hne : (((lessN x y : Nat) : Int) != 0) = true := by simp [hz]
              have hyb : ((y : Int) == 0) = true := by simp [hy]
              have HLv : Hid (true = lackF L (T.take (k + 1))) := by show _ = _; rw [HL.out]; simp [hz]
              have HNv : Hid (nw + 1 = newF L (T.take (k + 1))) := by show _ = _; rw [HN.out]; simp [hy]
              clear hz hy HL HN
              go_wp2
              go_roundw
              case rel => exact HFin.out _ _ _ _ (by omega) (by omega) (.inr ⟨_, _, rfl⟩) HBd.out HLv.out HNv.out
              case measure => simp [intOf]; omega
            · have hne : (((lessN x y : Nat) : Int) != 0) = true := by simp [hz]
              have hyb : ((y : Int) == 0) = false := by simp [hy]
              have HLv : Hid (true = lackF L (T.take (k + 1))) := by show _ = _; rw [HL.out]; simp [hz]
              have HNv : Hid (nw = newF L (T.take (k + 1))) := by show _ = _; rw [HN.out]; simp [hy]
              clear hz hy HL HN
              go_wp2
              go_roundw
              case rel => exact HFin.out _ _ _ _ (by omega) (by omega) (.inr ⟨_, _, rfl⟩) HBd.out HLv.out HNv.out
              case measure => simp [intOf]; omega
    · obtain rfl : k = T.length := by omega
      rw [List.take_length]
      go_wp2
      go_ret2
      exact ⟨rfl, hB.out⟩
end Go.Proofs.YtkkkglmjipnfaaaDoor
