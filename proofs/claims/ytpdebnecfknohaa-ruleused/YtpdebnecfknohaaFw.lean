
/-
  What walk leaves over the closure of Flat; Flat; the reference's Flat.
-/
import Derived.Test.YtpdebnecfknohaaFc
namespace Go.Proofs.Ytpdebnecfknohaa
open Go.RowKit
set_option linter.unusedVariables false
set_option maxRecDepth 20000

set_option maxRecDepth 20000 in
set_option maxHeartbeats 4000000 in
theorem walkF_any (w0 : World) (g : Nat) (N : Nat) : ∀ (t : Bd) (deep : Nat) (A : Option Addr) (c : Nat) (v : Value) (L : List It) (w : World), t.size ≤ N → deep ≤ 1000 → BodyV w0 A t → FlI w0 w g v L → L.length + t.size ≤ 100000000 → t.wide ≤ 100000000 →
    Calls Try.prog 63 #[.slice A t.len c, .int .i64 deep, .func (.func 64) #[] #[.pointer (some ⟨g, 0, none⟩)]] w fun e w' => e = .returned (.tuple #[]) ∧ ∃ v', FlI w0 w' g v' (L ++ t.flat deep) ∧ FlK w w' g v v' := by
  induction N with
  | zero =>
    intro t deep A c v L w hN hd hV hI hm hwd
    have ht : t = .nil := by cases t <;> simp [Bd.size] at hN ⊢
    subst ht
    have HI := Lib.hid hI
    clear hI hV
    simp only [Bd.len]
    go_enter Try.func63, Try.ntmps63
    go_wp2_with fail
    go_loopw [10] (fun s10 wr => s10 = .int .i64 0 ∧ wr = w) (fun _ _ => 0)
    case atStart => exact ⟨rfl, rfl⟩
    case round =>
      obtain ⟨rfl, rfl⟩ := hrel
      go_wp2
      refine bodyPost_end (results_none rfl _ _ _) rfl ?_
      exact ⟨rfl, v, by simpa [Bd.flat] using HI.out, FlK.refl _ _ _⟩
  | succ N ih =>
    intro t deep A c v L w hN hd hV hI hm hwd
    have IH := Lib.hid ih
    have HV := Lib.hid hV
    have HI0 := Lib.hid hI
    have hlen : t.len ≤ 100000000 := by have := Bd.len_le t; omega
    clear hI hV ih
    go_enter Try.func63, Try.ntmps63
    go_wp2_with fail
    go_loopw [10] (fun s10 wr => ∃ (i : Nat) (v' : Value) (L' : List It), s10 = .int .i64 i ∧ i ≤ t.len ∧ Hid (L' ++ (t.drop i).flat deep = L ++ t.flat deep) ∧ Hid (L'.length + (t.drop i).size ≤ 100000000) ∧ Hid (FlI w0 wr g v' L') ∧ Hid (FlK w wr g v v')) (fun s10 _ => t.len - (intOf s10).toNat)
    case atStart => exact ⟨0, v, L, rfl, Nat.zero_le _, rfl, (by show _ ≤ _; simpa [Bd.drop] using hm), HI0, FlK.refl _ _ _⟩
    case round =>
      obtain ⟨i, v', L', rfl, hi, hE, hM, hI, hT⟩ := hrel
      by_cases hlt : i < t.len
      · obtain ⟨k, a1, a2, b1, b2, args, sub, rest, hdr⟩ := Bd.drop_cons t i hlt
        obtain ⟨b, o, rfl, hat⟩ := HV.out (by omega)
        have hat0 := hat.drop t b o i
        rw [hdr] at hat0
        obtain ⟨⟨d0, d1, d2, d3, d4⟩, ⟨va, d5, ⟨Aa, ca, rfl, hargs⟩⟩, ⟨As, cs, d6, hsub⟩, _⟩ := hat0
        have hbl := World.block_lt_of_cell? w0 ⟨b, o + i * 7, none⟩ d0
        have hB := hI.out.bel
        have e0 := cell_old hB hbl d0
        have e1 := cell_old hB hbl d1
        have e2 := cell_old hB hbl d2
        have e3 := cell_old hB hbl d3
        have e4 := cell_old hB hbl d4
        have e5 := cell_old hB hbl d5
        have e6 := cell_old hB hbl d6
        have HSub : Hid (BodyV w0 As sub) := hsub
        have HArg : Hid (ArgsAt w0 (.slice Aa args.length ca) args) := ⟨Aa, ca, rfl, hargs⟩
        have hsz1 := Bd.size_drop t i
        have hss := Bd.sub_size t i hdr
        have hE2 := hE.out
        have hM2 := hM.out
        rw [hdr] at hE2 hM2 hsz1
        simp only [Bd.flat, Bd.size] at hE2 hM2 hsz1
        have Hnx := Lib.hid (Bd.drop_succ t i hdr)
        have HE2 := Lib.hid hE2
        have hcs := Bd.cnt_le sub (deep + 1)
        have hcr := Bd.cnt_le rest deep
        have hfl := Bd.flat_len sub (deep + 1)
        have hsl := Bd.len_le sub
        clear d0 d1 d2 d3 d4 d5 d6 hsub hat hdr hE hM hE2 hargs hB
        obtain ⟨la, hla⟩ : ∃ la, la = args.length := ⟨_, rfl⟩
        have HLA := Lib.hid hla
        have hgl : g < wr.heap.size := hI.out.box.lt
        have hc1 : Hid (FlI w0 (wr.alloc (.cells #[.int .u8 k, .int .u8 a1, .int .i64 a2, .int .u8 b1, .int .i64 b2, .slice Aa la ca, .slice As sub.len cs] 50)) g v' L') := hI.out.more ((Below.refl _ _).alloc (Nat.le_refl _) _)
        have HN : Hid ((wr.alloc (.cells #[.int .u8 k, .int .u8 a1, .int .i64 a2, .int .u8 b1, .int .i64 b2, .slice Aa la ca, .slice As sub.len cs] 50)).heap[wr.heap.size]? = some (.cells #[.int .u8 k, .int .u8 a1, .int .i64 a2, .int .u8 b1, .int .i64 b2, .slice Aa la ca, .slice As sub.len cs] 50 (0, 0))) := heap_alloc_new wr _
        have hC := cloF_any w0 ⟨deep, k, a1, a2, b1, b2, args, sub⟩ Aa As ca cs g v' L' (wr.alloc (.cells #[.int .u8 k, .int .u8 a1, .int .i64 a2, .int .u8 b1, .int .i64 b2, .slice Aa la ca, .slice As sub.len cs] 50)) hc1.out (by omega) (by dsimp only; omega) (by dsimp only; omega) HArg.out HSub.out
        dsimp only at hC
        rw [← hla] at hC e5
        have HC := Lib.hid hC
        clear hC hla
        go_wp2_with fail
        refine HC.out.mono ?_
        rintro e w2 ⟨rfl, v2, hI2, hK2⟩
        have hblk : w2.heap[wr.heap.size]? = _ := (hK2.block wr.heap.size (by simp) (by omega) (fun e => by have := (hI.out.row.blk _ e).2.1; omega)).trans HN.out
        have f0 := cell_of_row w2 wr.heap.size 0 _ 50 (0, 0) hblk
        have f6 := cell_of_row w2 wr.heap.size 6 _ 50 (0, 0) hblk
        simp at f0 f6
        have HT3 : Hid (FlK w w2 g v v2) := hT.out.trans (FlK.more ((Below.refl _ _).alloc (Nat.le_refl _) _) hK2)
        have HI3 := Lib.hid hI2
        clear hblk hI2 hK2 HN hc1 hI hT e0 e1 e2 e3 e4 e5 e6 HC HArg
        by_cases hk : k = 7 ∧ deep < 1000
        · obtain ⟨rfl, hdeep⟩ := hk
          have hdi : (deep : Int) < 1000 := by omega
          have hI := IH.out sub (deep + 1) As cs v2 _ w2 (by omega) (by omega) HSub.out HI3.out (by simp; omega) (by omega)
          rw [show ((deep + 1 : Nat) : Int) = (deep : Int) + 1 from by omega] at hI
          have HI := Lib.hid hI
          clear hI
          go_wp2_with fail
          refine HI.out.mono ?_
          rintro e w3 ⟨rfl, v3, hI4, hK4⟩
          have HI4 := Lib.hid hI4
          have HT4 := Lib.hid (HT3.out.trans hK4)
          clear hI4 hK4
          go_wp2
          go_roundw
          case rel =>
            refine ⟨i + 1, v3, _, by go_num, by omega, ?_, ?_, HI4, HT4⟩
            · show _ = _
              have h := HE2.out
              rw [if_pos (by simp; exact hdeep)] at h
              rw [Hnx.out, ← h]; simp
            · show _ ≤ _
              rw [Hnx.out]; simp; omega
          case measure => simp [intOf]; omega
        · by_cases hk7 : k = 7
          · subst hk7
            have hdeep : ¬ (deep < 1000) := fun h => hk ⟨rfl, h⟩
            have hdi : ¬ ((deep : Int) < 1000) := by omega
            clear hk
            go_wp2
            go_roundw
            case rel =>
              refine ⟨i + 1, v2, _, by go_num, by omega, ?_, ?_, HI3, HT3⟩
              · show _ = _
                have h := HE2.out
                rw [if_neg (by simp; omega)] at h
                rw [Hnx.out, ← h]; simp
              · show _ ≤ _
                rw [Hnx.out]; simp; omega
            case measure => simp [intOf]; omega
          · have hkb : (k == 7) = false := by simpa using hk7
            have HK := Lib.hid hk
            clear hk hk7
            go_wp2
            go_roundw
            case rel =>
              refine ⟨i + 1, v2, _, by go_num, by omega, ?_, ?_, HI3, HT3⟩
              · show _ = _
                have h := HE2.out
                rw [if_neg HK.out] at h
                rw [Hnx.out, ← h]; simp
              · show _ ≤ _
                rw [Hnx.out]; simp; omega
            case measure => simp [intOf]; omega
      · obtain rfl : i = t.len := by omega
        have hE2 := hE.out
        rw [Bd.drop_end t t.len (Nat.le_refl _)] at hE2
        simp only [Bd.flat, List.append_nil] at hE2
        have HE2 := Lib.hid hE2
        clear hE2
        go_wp2
        refine bodyPost_end (results_none rfl _ _ _) rfl ?_
        exact ⟨rfl, v', by rw [← HE2.out]; exact hI.out, hT.out⟩

/-- What a list of items leaves. -/
def ItPost (e : Nat) (X : Nat → Prop) (w : World) (L : List It) (en : Ending) (w' : World) : Prop := ∃ A c, en = .returned (.slice A L.length c) ∧ ItRow e w' w.heap.size X (.slice A L.length c) L ∧ Below w.heap.size w w'

set_option maxHeartbeats 400000 in
theorem flatM_any (A : Option Addr) (c : Nat) (t : Bd) (w : World) (h : BodyV w A t) (ht : t.size ≤ 100000000) (hwd : t.wide ≤ 100000000) :
    Calls Try.prog 39 #[.slice A t.len c] w (ItPost 84 (fun k => k ≠ w.heap.size) w (t.flat 0)) := by
  have HB : Hid (Below w.heap.size w (w.alloc (.cells #[.slice none 0 0] 81))) := (Below.refl _ _).alloc (Nat.le_refl _) _
  have HC : Hid (FlI w (w.alloc (.cells #[.slice none 0 0] 81)) w.heap.size (.slice none 0 0) []) := ⟨Blk.new w 81 _, ItRow.nil _ _ _ _, HB.out, Nat.le_refl _⟩
  have hW := walkF_any w w.heap.size t.size t 0 A c _ [] (w.alloc (.cells #[.slice none 0 0] 81)) (Nat.le_refl _) (by omega) h HC.out (by simpa using ht) hwd
  have HW := Lib.hid hW
  clear hW h
  go_enter Try.func39, Try.ntmps39
  go_wp2_with fail
  refine HW.out.mono ?_
  rintro e w2 ⟨rfl, v2, hI2, _⟩
  rw [List.nil_append] at hI2
  obtain ⟨A2, c2, rfl⟩ := hI2.row.slice
  have hc := hI2.box.cell 0
  have hl : w.heap.size < w2.heap.size := hI2.box.lt
  simp at hc
  have HI2 := Lib.hid hI2
  clear hI2
  go_wp2
  go_ret
  exact ⟨A2, c2, rfl, HI2.out.row, HI2.out.bel⟩
end Go.Proofs.Ytpdebnecfknohaa
