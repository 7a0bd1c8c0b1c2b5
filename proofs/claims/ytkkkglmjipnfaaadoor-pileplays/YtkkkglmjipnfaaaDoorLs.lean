/-
  What Less leaves: what one has and another hasn't.
-/
import Derived.Test.YtkkkglmjipnfaaaDoorLk
namespace Go.Proofs.YtkkkglmjipnfaaaDoor
open Go.RowKit
set_option linter.unusedVariables false

/-- A slice's room. -/
structure Room (A : Option Addr) (c : Nat) (L : Bks) : Prop where
  le : L.length ≤ c
  max : c ≤ 9223372036854775807
  shape : (A = none ∧ c = 0) ∨ ∃ b o, A = some ⟨b, o, none⟩
theorem Room.nil : Room none 0 [] := ⟨by simp, by omega, .inl ⟨rfl, rfl⟩⟩
theorem SetAt.room {w : World} {base g : Nat} {L : Bks} {A : Option Addr} {c : Nat} (h : SetAt w base g (.slice A L.length c) L) : Room A c L := by
  rcases h.own.2 with ⟨hv, hn⟩ | ⟨k, cap, cur, hv, _, hk, h3, h4, _, ht⟩
  · injection hv with h1 h2 h3
    subst h1 h3
    exact ⟨by omega, by omega, .inl ⟨rfl, rfl⟩⟩
  · injection hv with h1 h2 h5
    subst h1 h5
    exact ⟨h3, by unfold maxLen at h4; omega, .inr ⟨_, _, rfl⟩⟩
/-- One block more, behind a set's row: as Less does it. -/
theorem less_app (w w3 : World) (g bb : Nat) (v : Value) (M : Bks) (a : Int) (z : Nat) (hS : SetAt w3 w.heap.size g v M) (hB : Below w.heap.size w w3) (hl : M.length ≤ 100000) (hg : Good (M ++ [(a, z)])) :
    ∃ v5 w5, (Builtin.append_ #[25, 25] 25 #[v, .slice (some ⟨w3.heap.size, 0, none⟩) 1 1]).run Tryd.prog ((w3.alloc (.cells #[.int .i64 a, .int .u64 (z : Int)] 57)).drew) = .ok v5 w5 ∧ w5.cell? ⟨g, 0, none⟩ = some v ∧ w5.frozen? ⟨g, 0, none⟩ = false ∧
      Hid (SetAt (w5.setCell ⟨g, 0, none⟩ v5) w.heap.size g v5 (M ++ [(a, z)])) ∧ Hid (Below w.heap.size w (w5.setCell ⟨g, 0, none⟩ v5)) := by
  obtain ⟨i0, hi0, hz0, hz1, hz2⟩ := info_parts info57
  have hc : ∀ j u, ([.int .i64 a, .int .u64 (z : Int)] : List Value)[j]? = some u → ((w3.alloc (.cells #[.int .i64 a, .int .u64 (z : Int)] 57)).drew).cell? ((⟨w3.heap.size, 0, none⟩ : Addr).add j) = some u := by
    intro j u hj
    rw [Go.WideShapes.add_plain, World.cell?_drew, cell_of_row _ w3.heap.size _ _ 57 (0, 0) (heap_alloc_new w3 _), Nat.zero_add]
    simpa using hj
  obtain ⟨v5, w5, hr5, hO5, hg5, _, hat5⟩ := run_append_own_at (P := Tryd.prog) ((w3.alloc (.cells #[.int .i64 a, .int .u64 (z : Int)] 57)).drew) w.heap.size 25 25 57 i0 (.agg #[.int .i64 0, .int .u64 0]) 2 16 Tryd.underlying25 hi0 hz0 hz1 hz2 rfl (by decide) v M.length (flat M) (hS.own.alloc _) ⟨w3.heap.size, 0, none⟩ 1 1 [.int .i64 a, .int .u64 (z : Int)] rfl hc (by intro u hu; simp at hu; rcases hu with rfl | rfl <;> rfl) (by unfold maxLen; omega) (by omega) (by have := hB.size; simp; omega)
  have hlt := hS.lt
  have hbk : ((w3.alloc (.cells #[.int .i64 a, .int .u64 (z : Int)] 57)).drew).heap[g]? = some (.cells #[v] 27 (0, 0)) := (heap_alloc_old w3 _ hlt).trans hS.blk
  have hb5 := grown_blk hg5 hbk hS.ne
  have hne5 : v5.ownBlock ≠ some g := by
    rcases hat5 with h | h
    · rw [h]; exact hS.ne
    · rw [h]; intro e; injection e with e; simp at e; omega
  have hsf := set_field hb5 hO5 hne5
  refine ⟨v5, w5, hr5, by rw [cell_of_row w5 g 0 _ 27 (0, 0) hb5]; rfl, by simp [World.frozen?, hb5], ⟨hS.hb, hsf.1, ?_, (fun h => by simp at h), hne5, hg⟩, ?_⟩
  · have := hsf.2
    rw [List.length_append, flat_append]
    exact this
  · refine Below.setCell ?_ hS.hb _
    exact ((hB.alloc hB.size _).drew).grown hg5 (by have := hB.size; simp; omega) (fun q hq => (hS.row_ge q hq).1)

/-- What Less leaves: a set of the call's own. -/
def LessPost (L T : Bks) (w : World) (e : Ending) (w' : World) : Prop :=
  ∃ g v, e = .returned (.pointer (some ⟨g, 0, none⟩)) ∧ SetAt w' w.heap.size g v (lessF T L) ∧ Below w.heap.size w w'

set_option maxRecDepth 20000 in
set_option maxHeartbeats 2000000 in
theorem less_any (p q : Value) (A B : Option Addr) (c d : Nat) (L T : Bks) (w : World) (h1 : Rd w p A c L) (h2 : Rd w q B d T) (hl : L.length ≤ 10000) (ht : T.length ≤ 10000) (hR : Room B d T) :
    Calls Tryd.prog 18 #[p, q] w (LessPost L T w) := by
  obtain ⟨i0, hi0, hz0, hz1, hz2⟩ := info_parts info57
  have HR1 := Lib.hid h1
  have HR2 := Lib.hid h2
  have HRm := Lib.hid hR
  have HI := Lib.hid (And.intro hi0 (And.intro hz0 (And.intro hz1 hz2)))
  clear h1 h2 hR hi0 hz0 hz1 hz2
  have HBA0 : Hid (Below w.heap.size w (w.alloc (.cells #[.slice none 0 0] 27))) := (Below.refl _ _).alloc (Nat.le_refl _) _
  have HS0 : Hid (SetAt (w.alloc (.cells #[.slice none 0 0] 27)) w.heap.size w.heap.size (.slice none 0 0) []) := SetAt.fresh (Nat.le_refl _)
  go_enter Tryd.func18, Tryd.ntmps18
  go_wp2_with fail
  refine (list_any _ _ _ _ _ (HR2.out.old HBA0.out)).mono ?_
  rintro e w1 ⟨rfl, rfl⟩
  go_wp2_with fail
  refine (list_any _ _ _ _ _ (HR1.out.old HBA0.out)).mono ?_
  rintro e w1 ⟨rfl, rfl⟩
  go_wp2_with fail
  go_loopw [6, 18] (fun s6 i wr => ∃ (k j : Nat) (A1 : Option Addr) (c1 : Nat) (v : Value), k ≤ L.length ∧ j ≤ T.length ∧ i = .int .i64 k ∧ s6 = .slice A1 (T.length - j) c1 ∧ T.length - j ≤ c1 ∧ c1 ≤ 9223372036854775807 ∧ Hid ((A1 = none ∧ c1 = 0) ∨ ∃ b o, A1 = some ⟨b, o, none⟩) ∧ Hid (Past T L j k) ∧ Hid (BR w A1 (T.drop j)) ∧ Hid (SetAt wr w.heap.size w.heap.size v (lessF T (L.take k))) ∧ Hid (Below w.heap.size w wr)) (fun _ i _ => L.length - (intOf i).toNat)
  case atStart => exact ⟨0, 0, B, d, _, Nat.zero_le _, Nat.zero_le _, rfl, rfl, HRm.out.le, HRm.out.max, HRm.out.shape, (fun p hp => by simp at hp), HR2.out.row, HS0, HBA0⟩
  case round =>
    obtain ⟨k, j, A1, c1, v, hk, hj, rfl, rfl, hc1, hc1m, hA1, hP, hBR, hS, hB⟩ := hrel
    by_cases hlt : k < L.length
    · obtain ⟨b, o, rfl, hcT⟩ := (HR1.out.row.old hB.out) (by omega)
      obtain ⟨e1, e2⟩ := hcT k hlt
      have Hts := Lib.hid (take_snocB L k hlt)
      have hgd := (HR1.out.good.2 _ (getD_mem hlt)).2.2.2
      have Hlook := Lib.hid (hP.out.look hlt)
      have Hstep : Hid (∀ r, At (T.drop j) (L.getD k (0, 0)).1 r → Past T L (j + r) (k + 1)) := fun r hr => hP.out.step HR1.out.good hlt hr
      have hly := look_lt HR2.out.good (L.getD k (0, 0)).1
      generalize L.getD k (0, 0) = q at *
      obtain ⟨a, x⟩ := q
      unfold two64 at hgd hly
      simp only at e1 e2 hgd hly Hlook Hstep
      have HL : Hid (lessF T (L.take (k + 1)) = lessF T (L.take k) ++ lessF T [(a, x)]) := by show _ = _; rw [Hts.out, lessF_append]
      have HGk : Hid (Good (lessF T (L.take (k + 1)))) := lessF_good ⟨HR1.out.good.1.sublist (List.take_sublist _ _), fun p hp => HR1.out.good.2 p (List.mem_of_mem_take hp)⟩
      have hlk := lessF_len T (L.take k)
      have hlk2 : (L.take k).length ≤ 10000 := by rw [List.length_take]; omega
      have HBA : Hid (Below wr.heap.size wr (wr.alloc (.cells #[.int .i64 a, .int .u64 (x : Int)] 57))) := (Below.refl _ _).alloc (Nat.le_refl _) _
      have HFD : Hid (Calls Tryd.prog 24 #[.slice A1 (T.length - j) c1, .int .i64 a] (wr.alloc (.cells #[.int .i64 a, .int .u64 (x : Int)] 57)) fun e w' => ∃ r : Nat, e = .returned (.tuple #[.int .i64 r, .int .u64 (look T a : Int)]) ∧ r ≤ T.length - j ∧ Hid (Past T L (j + r) (k + 1)) ∧ Hid (Below (wr.alloc (.cells #[.int .i64 a, .int .u64 (x : Int)] 57)).heap.size (wr.alloc (.cells #[.int .i64 a, .int .u64 (x : Int)] 57)) w')) := by
        have := find_any A1 c1 (T.drop j) a (wr.alloc (.cells #[.int .i64 a, .int .u64 (x : Int)] 57)) (HR2.out.good.drop j) (hBR.out.old (hB.out.trans (HBA.out.mono hB.out.size))) (by rw [List.length_drop]; omega)
        rw [List.length_drop] at this
        refine Calls.mono this ?_
        rintro e w' ⟨r, rfl, hat, hb⟩
        refine ⟨r, by rw [Hlook.out], by have := hat.1; rw [List.length_drop] at this; exact this, Hstep.out r hat, hb⟩
      have hbt := less_bits x (look T a) hgd hly
      have HL1 : Hid (lessF T [(a, x)] = if lessN x (look T a) = 0 then [] else [(a, lessN x (look T a))]) := by show _ = _; simp only [lessF]
      generalize lessF T [(a, x)] = l1 at *
      generalize lessF T (L.take k) = M at *
      generalize look T a = y at *
      clear hcT Hts Hlook Hstep hP
      obtain ⟨ll, hll⟩ : ∃ ll, ll = T.length - j := ⟨_, rfl⟩
      rw [← hll] at HFD hc1 ⊢
      have HLL := Lib.hid hll
      clear hll
      have hgw := hS.out.lt
      go_wp2_with fail
      refine HFD.out.mono ?_
      rintro e w2 ⟨r, rfl, hr, hP2, hb2⟩
      have hsz : wr.heap.size < (wr.alloc (.cells #[.int .i64 a, .int .u64 (x : Int)] 57)).heap.size := by simp
      have hbk2 : w2.heap[wr.heap.size]? = some (.cells #[.int .i64 a, .int .u64 (x : Int)] 57 (0, 0)) := (hb2.out.block wr.heap.size hsz).trans (heap_alloc_new wr _)
      have hx2 : w2.cell? ⟨wr.heap.size, 1, none⟩ = some (.int .u64 (x : Int)) := by rw [cell_of_row w2 _ _ _ 57 (0, 0) hbk2]; rfl
      have hfx2 : w2.frozen? ⟨wr.heap.size, 1, none⟩ = false := by simp [World.frozen?, hbk2]
      have HBw := Lib.hid (HBA.out.trans (hb2.out.mono HBA.out.size))
      have HB2 := Lib.hid (hB.out.trans (HBw.out.mono hB.out.size))
      have HS2 := Lib.hid (hS.out.old HBw.out)
      have hszw := HBw.out.size
      obtain ⟨z, hz⟩ : ∃ z, z = lessN x y := ⟨_, rfl⟩
      have hzl : z < 18446744073709551616 := by rw [hz]; exact lessN_lt hgd
      rw [← hz] at hbt HL1
      have HBs : Hid (Below wr.heap.size wr (w2.setCell ⟨wr.heap.size, 1, none⟩ (.int .u64 (z : Int)))) := HBw.out.setCell (by simp) _
      have hbk3 : (w2.setCell ⟨wr.heap.size, 1, none⟩ (.int .u64 (z : Int))).heap[wr.heap.size]? = some (.cells #[.int .i64 a, .int .u64 (z : Int)] 57 (0, 0)) := by simp [World.setCell, Array.getElem?_modify, hbk2]
      have HB3 := Lib.hid (hB.out.trans (HBs.out.mono hB.out.size))
      have HS3 := Lib.hid (hS.out.old HBs.out)
      have HBR3 := hBR
      have HBK := Lib.hid hbk3
      clear HFD hb2 HBA hsz hB hBR hS hbk2 HBw HB2 HS2 hbk3 hz HBs
      have hfin : ∀ (A2 : Option Addr) (c2 : Nat) (v' : Value) (w' : World), ll - r ≤ c2 → c2 ≤ 9223372036854775807 → ((A2 = none ∧ c2 = 0) ∨ ∃ b o, A2 = some ⟨b, o, none⟩) → BR w A2 (T.drop (j + r)) → SetAt w' w.heap.size w.heap.size v' (lessF T (L.take (k + 1))) → Below w.heap.size w w' →
          ∃ (k' j' : Nat) (A1 : Option Addr) (c1 : Nat) (v : Value), k' ≤ L.length ∧ j' ≤ T.length ∧ Value.int .i64 ((k : Int) + 1) = .int .i64 k' ∧ Value.slice A2 (ll - r) c2 = .slice A1 (T.length - j') c1 ∧ T.length - j' ≤ c1 ∧ c1 ≤ 9223372036854775807 ∧ Hid ((A1 = none ∧ c1 = 0) ∨ ∃ b o, A1 = some ⟨b, o, none⟩) ∧ Hid (Past T L j' k') ∧ Hid (BR w A1 (T.drop j')) ∧ Hid (SetAt w' w.heap.size w.heap.size v (lessF T (L.take k'))) ∧ Hid (Below w.heap.size w w') := by
        intro A2 c2 v' w' h1 h2 h3 h4 h5 h6
        have := HLL.out
        exact ⟨k + 1, j + r, A2, c2, v', by omega, by omega, by congr 1, by rw [show ll - r = T.length - (j + r) from by omega], by omega, h2, h3, hP2.out, h4, h5, h6⟩
      have HFin := Lib.hid hfin
      clear hfin
      rcases hA1.out with ⟨rfl, rfl⟩ | ⟨b1, o1, rfl⟩
      · obtain rfl : ll = 0 := by omega
        obtain rfl : r = 0 := by omega
        have HBd : Hid (BR w none (T.drop (j + 0))) := HBR3.out
        by_cases hz0 : z = 0
        · subst hz0
          have HLn : Hid (lessF T (L.take (k + 1)) = M) := by show _ = _; rw [HL.out, HL1.out, if_pos rfl, List.append_nil]
          go_wp2
          go_roundw
          case rel => exact HFin.out _ _ _ _ (by omega) (by omega) (.inl ⟨rfl, rfl⟩) HBd.out (by rw [HLn.out]; exact HS3.out) HB3.out
          case measure => simp [intOf]; omega
        · have hzb : ((z : Int) != 0) = true := by simp [hz0]
          have HLn : Hid (lessF T (L.take (k + 1)) = M ++ [(a, z)]) := by show _ = _; rw [HL.out, HL1.out, if_neg hz0]
          clear hz0
          go_upto_region 10 with (fail)
          generalize w2.setCell ⟨wr.heap.size, 1, none⟩ (.int .u64 (z : Int)) = w3 at *
          have hc0 : w3.cell? ⟨wr.heap.size, 0, none⟩ = some (.int .i64 a) := by rw [cell_of_row w3 _ _ _ 57 (0, 0) HBK.out]; rfl
          have hc1' : w3.cell? ⟨wr.heap.size, 1, none⟩ = some (.int .u64 (z : Int)) := by rw [cell_of_row w3 _ _ _ 57 (0, 0) HBK.out]; rfl
          have hcg : w3.cell? ⟨w.heap.size, 0, none⟩ = some v := by rw [cell_of_row w3 _ _ _ 27 (0, 0) HS3.out.blk]; rfl
          have hcg2 : (w3.alloc (.cells #[.int .i64 a, .int .u64 (z : Int)] 57)).cell? ⟨w.heap.size, 0, none⟩ = some v := by rw [cell_of_row _ _ _ _ 27 (0, 0) ((heap_alloc_old w3 _ HS3.out.lt).trans HS3.out.blk)]; rfl
          obtain ⟨v5, w5, hr5, hc5, hf5, hS5, hB5⟩ := less_app w w3 w.heap.size wr.heap.size v M a z HS3.out HB3.out (by omega) (by rw [← HLn.out]; exact HGk.out)
          obtain ⟨A5, c5, hv5⟩ := owns_slice hS5.out.own
          rw [show (M ++ [(a, z)]).length = M.length + 1 from by simp] at hv5
          obtain ⟨Av, cv, hv⟩ := owns_slice HS3.out.own
          subst hv5 hv
          go_region_law (first | (refine step_append_run _ (by rfl) _ _ _ (by rfl) _ _ (by rfl) (by rfl) _ _ hr5 ?_))
          all_goals
            go_wp2
            go_roundw
            case rel => exact HFin.out _ _ _ _ (by omega) (by omega) (.inl ⟨rfl, rfl⟩) HBd.out (by rw [HLn.out]; exact hS5.out) hB5.out
            case measure => simp [intOf]; omega
      · have HBd : Hid (BR w (some ⟨b1, o1 + r * 2, none⟩) (T.drop (j + r))) := by
          have := HBR3.out.drop r
          rwa [List.drop_drop] at this
        by_cases hrc : c1 = r
        · subst hrc
          have hf := HFin.out
          simp only [show ll - c1 = 0 from by omega] at hf
          have HFin0 := Lib.hid hf
          clear hf
          have HBd0 : Hid (BR w (some ⟨b1, o1, none⟩) (T.drop (j + c1))) := by
            rw [List.drop_of_length_le (by have := HLL.out; omega)]
            exact BR.nil _ _
          by_cases hz0 : z = 0
          · subst hz0
            have HLn : Hid (lessF T (L.take (k + 1)) = M) := by show _ = _; rw [HL.out, HL1.out, if_pos rfl, List.append_nil]
            go_wp2
            go_roundw
            case rel => exact HFin0.out _ 0 _ _ (by omega) (by omega) (.inr ⟨_, _, rfl⟩) HBd0.out (by rw [HLn.out]; exact HS3.out) HB3.out
            case measure => simp [intOf]; omega
          · have hzb : ((z : Int) != 0) = true := by simp [hz0]
            have HLn : Hid (lessF T (L.take (k + 1)) = M ++ [(a, z)]) := by show _ = _; rw [HL.out, HL1.out, if_neg hz0]
            clear hz0
            go_upto_region 10 with (fail)
            generalize w2.setCell ⟨wr.heap.size, 1, none⟩ (.int .u64 (z : Int)) = w3 at *
            have hc0 : w3.cell? ⟨wr.heap.size, 0, none⟩ = some (.int .i64 a) := by rw [cell_of_row w3 _ _ _ 57 (0, 0) HBK.out]; rfl
            have hc1' : w3.cell? ⟨wr.heap.size, 1, none⟩ = some (.int .u64 (z : Int)) := by rw [cell_of_row w3 _ _ _ 57 (0, 0) HBK.out]; rfl
            have hcg : w3.cell? ⟨w.heap.size, 0, none⟩ = some v := by rw [cell_of_row w3 _ _ _ 27 (0, 0) HS3.out.blk]; rfl
            have hcg2 : (w3.alloc (.cells #[.int .i64 a, .int .u64 (z : Int)] 57)).cell? ⟨w.heap.size, 0, none⟩ = some v := by rw [cell_of_row _ _ _ _ 27 (0, 0) ((heap_alloc_old w3 _ HS3.out.lt).trans HS3.out.blk)]; rfl
            obtain ⟨v5, w5, hr5, hc5, hf5, hS5, hB5⟩ := less_app w w3 w.heap.size wr.heap.size v M a z HS3.out HB3.out (by omega) (by rw [← HLn.out]; exact HGk.out)
            obtain ⟨A5, c5, hv5⟩ := owns_slice hS5.out.own
            rw [show (M ++ [(a, z)]).length = M.length + 1 from by simp] at hv5
            obtain ⟨Av, cv, hv⟩ := owns_slice HS3.out.own
            subst hv5 hv
            go_region_law (first | (refine step_append_run _ (by rfl) _ _ _ (by rfl) _ _ (by rfl) (by rfl) _ _ hr5 ?_))
            all_goals
              go_wp2
              go_roundw
              case rel => exact HFin0.out _ 0 _ _ (by omega) (by omega) (.inr ⟨_, _, rfl⟩) HBd0.out (by rw [HLn.out]; exact hS5.out) hB5.out
              case measure => simp [intOf]; omega
        · have hrc2 : r < c1 := by omega
          by_cases hz0 : z = 0
          · subst hz0
            have HLn : Hid (lessF T (L.take (k + 1)) = M) := by show _ = _; rw [HL.out, HL1.out, if_pos rfl, List.append_nil]
            go_wp2
            go_roundw
            case rel => exact HFin.out _ _ _ _ (by omega) (by omega) (.inr ⟨_, _, rfl⟩) HBd.out (by rw [HLn.out]; exact HS3.out) HB3.out
            case measure => simp [intOf]; omega
          · have hzb : ((z : Int) != 0) = true := by simp [hz0]
            have HLn : Hid (lessF T (L.take (k + 1)) = M ++ [(a, z)]) := by show _ = _; rw [HL.out, HL1.out, if_neg hz0]
            clear hz0
            go_upto_region 10 with (fail)
            generalize w2.setCell ⟨wr.heap.size, 1, none⟩ (.int .u64 (z : Int)) = w3 at *
            have hc0 : w3.cell? ⟨wr.heap.size, 0, none⟩ = some (.int .i64 a) := by rw [cell_of_row w3 _ _ _ 57 (0, 0) HBK.out]; rfl
            have hc1' : w3.cell? ⟨wr.heap.size, 1, none⟩ = some (.int .u64 (z : Int)) := by rw [cell_of_row w3 _ _ _ 57 (0, 0) HBK.out]; rfl
            have hcg : w3.cell? ⟨w.heap.size, 0, none⟩ = some v := by rw [cell_of_row w3 _ _ _ 27 (0, 0) HS3.out.blk]; rfl
            have hcg2 : (w3.alloc (.cells #[.int .i64 a, .int .u64 (z : Int)] 57)).cell? ⟨w.heap.size, 0, none⟩ = some v := by rw [cell_of_row _ _ _ _ 27 (0, 0) ((heap_alloc_old w3 _ HS3.out.lt).trans HS3.out.blk)]; rfl
            obtain ⟨v5, w5, hr5, hc5, hf5, hS5, hB5⟩ := less_app w w3 w.heap.size wr.heap.size v M a z HS3.out HB3.out (by omega) (by rw [← HLn.out]; exact HGk.out)
            obtain ⟨A5, c5, hv5⟩ := owns_slice hS5.out.own
            rw [show (M ++ [(a, z)]).length = M.length + 1 from by simp] at hv5
            obtain ⟨Av, cv, hv⟩ := owns_slice HS3.out.own
            subst hv5 hv
            go_region_law (first | (refine step_append_run _ (by rfl) _ _ _ (by rfl) _ _ (by rfl) (by rfl) _ _ hr5 ?_))
            all_goals
              go_wp2
              go_roundw
              case rel => exact HFin.out _ _ _ _ (by omega) (by omega) (.inr ⟨_, _, rfl⟩) HBd.out (by rw [HLn.out]; exact hS5.out) hB5.out
              case measure => simp [intOf]; omega
    · obtain rfl : k = L.length := by omega
      rw [List.take_length] at hS
      go_wp2
      go_ret
      exact ⟨_, _, rfl, hS.out, hB.out⟩
end Go.Proofs.YtkkkglmjipnfaaaDoor
