/-
  The walk of ModuleBlocks.
-/
import Derived.Test.YtpjoggefklohjaaRp
import Derived.Test.YtpjoggefklohjaaRs
import Derived.Test.YtpjoggefklohjaaOp
namespace Go.Proofs.Ytpjoggefklohjaa
open Go.RowKit
set_option linter.unusedVariables false

set_option maxRecDepth 20000 in
set_option maxHeartbeats 1000000 in
theorem blocks_out (k a1 a2 b1 b2 n : Int) (Aa As : Option Addr) (la ca ls cs : Nat) (w : World) (h : 20 < la ∨ 0 < ls) (hla : la ≤ 9223372036854775807) (hls : ls ≤ 9223372036854775807) :
    Calls Try.prog 7 #[.agg #[.int .u8 k, .int .u8 a1, .int .i64 a2, .int .u8 b1, .int .i64 b2, .slice Aa la ca, .slice As ls cs], .int .u8 n] w fun e w' => e = .returned (.bool true) ∧ Below w.heap.size w w' := by
  have HB : Hid (Below w.heap.size w (w.alloc (.cells #[.int .u8 k, .int .u8 a1, .int .i64 a2, .int .u8 b1, .int .i64 b2, .slice Aa la ca, .slice As ls cs] 46))) := (Below.refl _ _).alloc (Nat.le_refl _) _
  have HN : Hid ((w.alloc (.cells #[.int .u8 k, .int .u8 a1, .int .i64 a2, .int .u8 b1, .int .i64 b2, .slice Aa la ca, .slice As ls cs] 46)).heap[w.heap.size]? = some (.cells #[.int .u8 k, .int .u8 a1, .int .i64 a2, .int .u8 b1, .int .i64 b2, .slice Aa la ca, .slice As ls cs] 46 (0, 0))) := heap_alloc_new w _
  go_enter Try.func7, Try.ntmps7
  go_wp2_with fail
  refine (awake_any _).mono ?_
  rintro e w1 ⟨rfl, hb⟩
  have HB1 := Lib.hid (HB.out.trans (hb.mono HB.out.size))
  have hN1 := (hb.block w.heap.size (by simp)).trans HN.out
  have c5 : w1.cell? ⟨w.heap.size, 5, none⟩ = some (.slice Aa la ca) := cell_of_row w1 _ 5 _ 46 (0, 0) hN1
  have c6 : w1.cell? ⟨w.heap.size, 6, none⟩ = some (.slice As ls cs) := cell_of_row w1 _ 6 _ 46 (0, 0) hN1
  clear hb hN1
  by_cases h1 : 20 < la
  · have h1i : (20 : Int) < (la : Int) := by omega
    clear h
    go_wp2_with fail
    refine (awake_any _).mono ?_
    rintro e w2 ⟨rfl, hb2⟩
    have HB2 := Lib.hid (HB1.out.trans (hb2.mono HB1.out.size))
    clear hb2
    go_wp2
    go_ret
    exact ⟨rfl, HB2.out⟩
  · have h1i : ¬ (20 : Int) < (la : Int) := by omega
    have h2 : 0 < ls := by omega
    have h2i : (0 : Int) < (ls : Int) := by omega
    clear h
    go_wp2_with fail
    refine (awake_any _).mono ?_
    rintro e w2 ⟨rfl, hb2⟩
    have HB2 := Lib.hid (HB1.out.trans (hb2.mono HB1.out.size))
    clear hb2
    go_wp2
    go_ret
    exact ⟨rfl, HB2.out⟩

theorem sevens_body {w : World} {base n : Nat} (k a1 a2 b1 b2 : Int) (xs : List (Int × Int)) (Aa As : Option Addr) (ca cs : Nat) (ha : ArgsAt w (.slice Aa xs.length ca) xs) {A : Option Addr} {c : Nat}
    (h : w.ownsRow base 46 7 (.slice A n c) n (sevens k a1 a2 b1 b2 (.slice Aa xs.length ca) (.slice As 0 cs) n)) : BodyV w A (Bd.rep k a1 a2 b1 b2 xs n) := by
  intro hp
  rw [rep_len] at hp
  rcases h.2 with ⟨h1, h2⟩ | ⟨q, cap, cur, hv, _⟩
  · omega
  · injection hv with hv
    subst hv
    refine ⟨q, 0, rfl, sevens_at k a1 a2 b1 b2 xs _ As cs ha q n 0 (own_cellsM h)⟩

theorem own_formM {w : World} {base n : Nat} {v : Value} {xs : List Value} {e size : Nat} (h : w.ownsRow base e size v n xs) (hn : 0 < n) : ∃ q cap, v = .slice (some ⟨q, 0, none⟩) n cap ∧ base ≤ q ∧ q < w.heap.size := by
  rcases h.2 with ⟨_, h1⟩ | ⟨k, cap, cur, hv, h2, hk, _⟩
  · omega
  · exact ⟨k, cap, hv, h2, heap_ltM hk⟩
theorem append_noneM (w : World) (q n c : Nat) (h : n ≤ c) : (Builtin.append_ #[22, 22] 22 #[.slice (some ⟨q, 0, none⟩) n c, .slice none 0 0]).run Try.prog w = .ok (.slice (some ⟨q, 0, none⟩) n c) w := by
  obtain ⟨i0, hi0, _⟩ := info_parts info46
  simp [Builtin.append_, run_underlying Try.underlying22, sizeOf, typeInfo, hi0, Builtin.lenOf, Builtin.firstCells, storeCells, h]

def outB (k a1 a2 b1 b2 : Int) (xs : List (Int × Int)) (n : Nat) : Bd := .cons 7 0 0 0 0 [] .nil (Bd.rep k a1 a2 b1 b2 xs n)
theorem out_body {w : World} {base n : Nat} (k a1 a2 b1 b2 : Int) (xs : List (Int × Int)) (Aa As : Option Addr) (ca cs : Nat) (ha : ArgsAt w (.slice Aa xs.length ca) xs) {A : Option Addr} {c : Nat}
    (h : w.ownsRow base 46 7 (.slice A (1 + n) c) (1 + n) (seven 7 0 0 0 0 (.slice none 0 0) (.slice none 0 0) ++ sevens k a1 a2 b1 b2 (.slice Aa xs.length ca) (.slice As 0 cs) n)) : BodyV w A (outB k a1 a2 b1 b2 xs n) := by
  intro hp
  rcases h.2 with ⟨h1, h2⟩ | ⟨q, cap, cur, hv, _⟩
  · omega
  · injection hv with hv
    subst hv
    have g := own_cellsM h
    refine ⟨q, 0, rfl, ⟨g 0 _ rfl, g 1 _ rfl, g 2 _ rfl, g 3 _ rfl, g 4 _ rfl⟩, ⟨_, g 5 _ rfl, ⟨none, 0, rfl, fun h => by simp at h⟩⟩, ⟨none, 0, g 6 _ rfl, fun h => by simp [Bd.len] at h⟩, ?_⟩
    refine sevens_at k a1 a2 b1 b2 xs _ As cs ha q n 7 fun j u hj => ?_
    have := g (7 + j) u (by rw [List.getElem?_append_right (by simp [seven])]; simpa [seven] using hj)
    rwa [Nat.zero_add] at this

theorem rep_same_nil (k a1 a2 b1 b2 : Int) (xs : List (Int × Int)) (n : Nat) : (Bd.rep k a1 a2 b1 b2 xs n).same .nil = decide (n = 0) := by
  cases n <;> simp [Bd.rep, Bd.same]
/-- What the calls at the end of the law answer. -/
theorem blk_facts (k a1 a2 b1 b2 : Int) (xs : List (Int × Int)) (wz : World) (qi qo co lo n : Nat) (hin : BodyV wz (some ⟨qi, 0, none⟩) (Bd.one 7 (Bd.rep k a1 a2 b1 b2 xs n))) (hout : BodyV wz (some ⟨qo, 0, none⟩) (outB k a1 a2 b1 b2 xs n)) (hn : n < 30) (hx : xs.length ≤ 20) (hlo : lo = 1 + n) (v : Bool) (hv : decide (n = 0) = v) :
    ∀ wx, Below wz.heap.size wz wx →
      Calls Try.prog 17 #[.slice (some ⟨qi, 0, none⟩) 1 1, .slice (some ⟨qi, 0, none⟩) 1 1] wx (fun e w' => e = .returned (.bool true) ∧ Below wx.heap.size wx w') ∧
      Calls Try.prog 17 #[.slice (some ⟨qi, 0, none⟩) 1 1, .slice (some ⟨qo, 0, none⟩) lo co] wx (fun e w' => e = .returned (.bool v) ∧ Below wx.heap.size wx w') ∧
      Calls Try.prog 13 #[.slice (some ⟨qi, 0, none⟩) 1 1] wx (fun e w' => e = .returned (.int .i64 ((n : Int) + 1)) ∧ Below wx.heap.size wx w') ∧
      Calls Try.prog 13 #[.slice (some ⟨qo, 0, none⟩) lo co] wx (fun e w' => e = .returned (.int .i64 ((n : Int) + 1)) ∧ Below wx.heap.size wx w') ∧
      Calls Try.prog 14 #[.slice (some ⟨qi, 0, none⟩) 1 1, .slice (some ⟨qo, 0, none⟩) lo co] wx (fun e w' => e = .returned (.bool v) ∧ Below wx.heap.size wx w') := by
  intro wx hb
  have h1 := hin.old hb
  have h2 := hout.old hb
  have hw : n * xs.length ≤ 30 * 20 := Nat.mul_le_mul (by omega) hx
  have li : (Bd.one 7 (Bd.rep k a1 a2 b1 b2 xs n)).len = 1 := rfl
  have lo' : (outB k a1 a2 b1 b2 xs n).len = lo := by simp only [outB, Bd.len, rep_len]; omega
  have si : (Bd.one 7 (Bd.rep k a1 a2 b1 b2 xs n)).size = n + 1 := by simp only [Bd.one, Bd.size, rep_size]
  have so : (outB k a1 a2 b1 b2 xs n).size = n + 1 := by simp only [outB, Bd.size, rep_size]; omega
  have wi : (Bd.one 7 (Bd.rep k a1 a2 b1 b2 xs n)).wide = n * xs.length := by simp [Bd.one, Bd.wide, rep_wide]
  have wo : (outB k a1 a2 b1 b2 xs n).wide = n * xs.length := by simp [outB, Bd.wide, rep_wide]
  have ci : ((Bd.one 7 (Bd.rep k a1 a2 b1 b2 xs n)).cnt 0 : Int) = (n : Int) + 1 := by simp [Bd.one, Bd.cnt, rep_cnt]; omega
  have co' : ((outB k a1 a2 b1 b2 xs n).cnt 0 : Int) = (n : Int) + 1 := by simp [outB, Bd.cnt, rep_cnt]; omega
  have sm : (Bd.one 7 (Bd.rep k a1 a2 b1 b2 xs n)).same (outB k a1 a2 b1 b2 xs n) = v := by
    rw [← hv]
    cases n <;> simp [Bd.one, outB, Bd.same, Bd.rep]
  have q1 := sameB_any _ _ 1 1 _ _ wx h1 h1 (by rw [si]; omega) (by rw [wi]; omega) (by rw [wi]; omega)
  have q2 := sameB_any _ _ 1 co _ _ wx h1 h2 (by rw [si, so]; omega) (by rw [wi]; omega) (by rw [wo]; omega)
  have q3 := count_any _ 1 _ wx h1 (by rw [si]; omega)
  have q4 := count_any _ co _ wx h2 (by rw [so]; omega)
  rw [Bd.same_refl, li] at q1
  rw [sm, li, lo'] at q2
  rw [ci, li] at q3
  rw [co', lo'] at q4
  refine ⟨q1, q2, q3, q4, ?_⟩
  by_cases hz : n = 0
  · subst hz
    obtain rfl : v = true := by rw [← hv]; rfl
    obtain rfl : lo = 1 := by omega
    obtain ⟨b, o, hA, ⟨d0, d1, d2, d3, d4⟩, ⟨va, d5, ⟨Aa, ca, rfl, _⟩⟩, ⟨As, cs, d6, _⟩, _⟩ := h1 (by rw [li]; omega)
    obtain ⟨b', o', hA', ⟨f0, f1, f2, f3, f4⟩, ⟨va', f5, ⟨Aa', ca', rfl, _⟩⟩, ⟨As', cs', f6, _⟩, _⟩ := h2 (by rw [lo']; omega)
    injection hA with hA
    injection hA with hA1 hA2
    injection hA' with hA'
    injection hA' with hA1' hA2'
    subst hA1 hA2 hA1' hA2'
    refine (rsame_block qi 0 qo 0 1 co ca cs ca' cs' Aa As Aa' As' wx d0 d1 d2 d3 d4 d5 d6 f0 f1 f2 f3 f4 f5 f6).mono ?_
    rintro e w' ⟨rfl, m, rfl⟩
    exact ⟨rfl, ⟨rfl, rfl, rfl, Nat.le_refl _, fun _ _ => rfl⟩⟩
  · obtain rfl : v = false := by rw [← hv]; simp [hz]
    refine (rsame_len _ _ 1 lo 1 co wx (by omega) (by omega) (by omega)).mono ?_
    rintro e w' ⟨rfl, rfl⟩
    exact ⟨rfl, Below.refl _ _⟩

set_option maxRecDepth 20000 in
set_option maxHeartbeats 2000000 in
theorem blocks_in (k a1 a2 b1 b2 n : Int) (xs : List (Int × Int)) (Aa As : Option Addr) (ca cs : Nat) (w : World) (hA : ArgsAt w (.slice Aa xs.length ca) xs) (h : xs.length ≤ 20) (hn : 0 ≤ n ∧ n ≤ 255) :
    Calls Try.prog 7 #[.agg #[.int .u8 k, .int .u8 a1, .int .i64 a2, .int .u8 b1, .int .i64 b2, .slice Aa xs.length ca, .slice As 0 cs], .int .u8 n] w fun e w' => e = .returned (.bool true) ∧ Below w.heap.size w w' := by
  have HA := Lib.hid hA
  have HX := Lib.hid h
  clear hA
  obtain ⟨la, hla⟩ : ∃ la, la = xs.length := ⟨_, rfl⟩
  have HLA := Lib.hid hla
  rw [← hla] at h ⊢
  clear hla
  have HB : Hid (Below w.heap.size w (w.alloc (.cells #[.int .u8 k, .int .u8 a1, .int .i64 a2, .int .u8 b1, .int .i64 b2, .slice Aa la ca, .slice As 0 cs] 46))) := (Below.refl _ _).alloc (Nat.le_refl _) _
  have HN : Hid ((w.alloc (.cells #[.int .u8 k, .int .u8 a1, .int .i64 a2, .int .u8 b1, .int .i64 b2, .slice Aa la ca, .slice As 0 cs] 46)).heap[w.heap.size]? = some (.cells #[.int .u8 k, .int .u8 a1, .int .i64 a2, .int .u8 b1, .int .i64 b2, .slice Aa la ca, .slice As 0 cs] 46 (0, 0))) := heap_alloc_new w _
  obtain ⟨N, rfl⟩ : ∃ N : Nat, n = N := ⟨n.toNat, by omega⟩
  have hk : ((N : Int).tmod 30) = ((N % 30 : Nat) : Int) := by rw [Int.tmod_eq_emod_of_nonneg (by omega)]; omega
  have hkl : N % 30 < 30 := Nat.mod_lt _ (by decide)
  generalize N % 30 = K at *
  have h1i : ¬ (20 : Int) < (la : Int) := by omega
  go_enter Try.func7, Try.ntmps7
  go_wp2_with fail
  refine (awake_any _).mono ?_
  rintro e w1 ⟨rfl, hb⟩
  have HB1 := Lib.hid (HB.out.trans (hb.mono HB.out.size))
  have hN1 := (hb.block w.heap.size (by simp)).trans HN.out
  have c5 : w1.cell? ⟨w.heap.size, 5, none⟩ = some (.slice Aa la ca) := cell_of_row w1 _ 5 _ 46 (0, 0) hN1
  have c6 : w1.cell? ⟨w.heap.size, 6, none⟩ = some (.slice As 0 cs) := cell_of_row w1 _ 6 _ 46 (0, 0) hN1
  have HN1 := Lib.hid hN1
  have hsz1 : w.heap.size < w1.heap.size := by have := hb.size; simp at this; omega
  clear hb hN1
  go_wp2_with fail
  go_loopw [6, 7] (fun s6 s7 wr => ∃ (i : Nat) (A : Option Addr) (c : Nat), i ≤ K ∧ s7 = .int .i64 (i : Int) ∧ s6 = .slice A i c ∧ Hid (wr.ownsRow w1.heap.size 46 7 (.slice A i c) i (sevens k a1 a2 b1 b2 (.slice Aa la ca) (.slice As 0 cs) i)) ∧ Hid (i = 0 → A = none ∧ c = 0) ∧ Hid (Below w1.heap.size w1 wr)) (fun _ s7 _ => K - (intOf s7).toNat)
  case atStart => exact ⟨0, none, 0, Nat.zero_le _, rfl, rfl, ⟨rfl, .inl ⟨rfl, rfl⟩⟩, (fun _ => ⟨rfl, rfl⟩), Below.refl _ _⟩
  case round =>
    obtain ⟨i, A, c, hi, rfl, rfl, hO, hZ, hB⟩ := hrel
    by_cases hlt : i < K
    · obtain ⟨v5, w5, hr5, hO5, hg5⟩ := push7 w1.heap.size (.slice A i c) i k a1 a2 b1 b2 Aa As la 0 ca cs wr hO.out (by omega) hB.out.size
      obtain ⟨g, cap, hv5, _, _⟩ := own_formM hO5 (by omega)
      subst hv5
      have HO5 := Lib.hid hO5
      have HB5 : Hid (Below w1.heap.size w1 w5) := (hB.out.alloc hB.out.size _).grown hg5 (by have := hB.out.size; simp; omega) (fun q hq => (hO.out.lt q hq).1)
      have hNr := (hB.out.block w.heap.size hsz1).trans HN1.out
      have e0 := cell_of_row wr _ 0 _ 46 (0, 0) hNr
      have e1 := cell_of_row wr _ 1 _ 46 (0, 0) hNr
      have e2 := cell_of_row wr _ 2 _ 46 (0, 0) hNr
      have e3 := cell_of_row wr _ 3 _ 46 (0, 0) hNr
      have e4 := cell_of_row wr _ 4 _ 46 (0, 0) hNr
      have e5 := cell_of_row wr _ 5 _ 46 (0, 0) hNr
      have e6 := cell_of_row wr _ 6 _ 46 (0, 0) hNr
      simp at e0 e1 e2 e3 e4 e5 e6
      clear hO5 hg5 hNr
      go_upto_region 8 with (fail)
      go_wp2_with (at_builtin; refine Lib.wpList_append_run _ rfl _ _ 22 22 rfl _ _ rfl rfl _ _ hr5 ?_)
      go_roundw
      case rel => exact ⟨i + 1, _, _, by omega, by go_num, rfl, HO5, (fun h => absurd h (by omega)), HB5⟩
      case measure => simp [intOf]; omega
    · obtain rfl : i = K := by omega
      have HAr : Hid (ArgsAt wr (.slice Aa xs.length ca) xs) := HA.out.old (HB1.out.trans (hB.out.mono HB1.out.size))
      have HBr := Lib.hid (HB1.out.trans (hB.out.mono HB1.out.size))
      have HV : Hid (BodyV wr A (Bd.rep k a1 a2 b1 b2 xs i)) := by
        have h1 := hO.out
        rw [HLA.out] at h1
        exact sevens_body k a1 a2 b1 b2 xs Aa As ca cs HAr.out h1
      have hIn := body_one wr 7 A c _ HV.out
      rw [rep_len] at hIn
      by_cases hz : i = 0
      · subst hz
        obtain ⟨rfl, rfl⟩ := hZ.out rfl
        have hB2 := HBr.out.alloc HBr.out.size (.cells #[.int .u8 7, .int .u8 0, .int .i64 0, .int .u8 0, .int .i64 0, .slice none 0 0, .slice none 0 0] 46)
        have hB3 := hB2.alloc hB2.size (.cells #[.int .u8 7, .int .u8 0, .int .i64 0, .int .u8 0, .int .i64 0, .slice none 0 0, .slice none 0 0] 46)
        have hIn' := hIn
        generalize hwa : wr.alloc (.cells #[.int .u8 7, .int .u8 0, .int .i64 0, .int .u8 0, .int .i64 0, .slice none 0 0, .slice none 0 0] 46) = wa at hIn hB2 hB3
        have hOut := body_one wa 7 none 0 .nil (BodyV.nil _ _)
        have hIn2 := hIn.old ((Below.refl _ _).alloc (Nat.le_refl _) (.cells #[.int .u8 7, .int .u8 0, .int .i64 0, .int .u8 0, .int .i64 0, .slice none 0 0, .slice none 0 0] 46))
        have hsa : wa.heap.size = wr.heap.size + 1 := by rw [← hwa]; simp
        subst hwa
        rw [hsa] at hOut
        have HF := Lib.hid (blk_facts k a1 a2 b1 b2 xs _ wr.heap.size (wr.heap.size + 1) 1 1 0 hIn2 hOut (by omega) HX.out rfl true rfl)
        have HB3 := Lib.hid hB3
        clear hIn hOut hIn2 hB2 hB3 hIn' hsa
        have hra := append_noneM ((wr.alloc (.cells #[.int .u8 7, .int .u8 0, .int .i64 0, .int .u8 0, .int .i64 0, .slice none 0 0, .slice none 0 0] 46)).alloc (.cells #[.int .u8 7, .int .u8 0, .int .i64 0, .int .u8 0, .int .i64 0, .slice none 0 0, .slice none 0 0] 46)) (wr.heap.size + 1) 1 1 (Nat.le_refl _)
        go_upto_region 10 with (fail)
        go_wp2_with (at_builtin; refine Lib.wpList_append_run _ rfl _ _ 22 22 rfl _ _ rfl rfl _ _ hra ?_)
        go_wp2_with fail
        refine (HF.out _ (Below.refl _ _)).1.mono ?_
        rintro e x1 ⟨rfl, g1⟩
        have G1 := Lib.hid g1
        clear g1
        go_wp2_with fail
        refine (HF.out _ G1.out).2.1.mono ?_
        rintro e x2 ⟨rfl, g2⟩
        have G2 := Lib.hid (G1.out.trans (g2.mono G1.out.size))
        clear g2
        go_wp2_with fail
        refine (HF.out _ G2.out).2.2.1.mono ?_
        rintro e x3 ⟨rfl, g3⟩
        have G3 := Lib.hid (G2.out.trans (g3.mono G2.out.size))
        clear g3
        go_wp2_with fail
        refine (HF.out _ G3.out).2.2.2.1.mono ?_
        rintro e x4 ⟨rfl, g4⟩
        have G4 := Lib.hid (G3.out.trans (g4.mono G3.out.size))
        clear g4
        go_wp2_with fail
        refine (HF.out _ G4.out).2.2.2.2.mono ?_
        rintro e x5 ⟨rfl, g5⟩
        have G5 := Lib.hid (G4.out.trans (g5.mono G4.out.size))
        clear g5
        go_wp2
        go_ret
        exact ⟨rfl, HB3.out.trans (G5.out.mono HB3.out.size)⟩
      · have hB2 := HBr.out.alloc HBr.out.size (.cells #[.int .u8 7, .int .u8 0, .int .i64 0, .int .u8 0, .int .i64 0, .slice none 0 0, .slice A i c] 46)
        obtain ⟨q, cap, hq, _, hql⟩ := own_formM hO.out (by omega)
        have hq1 : A = some ⟨q, 0, none⟩ := by injection hq
        clear hq
        subst hq1
        have hOa := hO.out.alloc (.cells #[.int .u8 7, .int .u8 0, .int .i64 0, .int .u8 0, .int .i64 0, .slice none 0 0, .slice (some ⟨q, 0, none⟩) i c] 46)
        obtain ⟨v6, w6, hr6, hO6, hg6⟩ := joined7 w1.heap.size q c i k a1 a2 b1 b2 Aa As la 0 ca cs _ hOa (by omega) w.heap.size hB2.size
        obtain ⟨q6, cap6, hv6, hq6, _⟩ := own_formM hO6 (by omega)
        subst hv6
        have hb6 : Below (wr.heap.size + 1) (wr.alloc (.cells #[.int .u8 7, .int .u8 0, .int .i64 0, .int .u8 0, .int .i64 0, .slice none 0 0, .slice (some ⟨q, 0, none⟩) i c] 46)) w6 :=
          ((Below.refl _ _).alloc (by simp) _).grown hg6 (by simp) (fun z hz => by injection hz with hz; simp at hz; omega)
        have hB3 := hB2.trans (hb6.mono (by have := HBr.out.size; omega))
        have hIn2 := hIn.old (by simpa using hb6)
        have hAr6 := (HAr.out.old ((Below.refl _ _).alloc (Nat.le_refl _) (.cells #[.int .u8 7, .int .u8 0, .int .i64 0, .int .u8 0, .int .i64 0, .slice none 0 0, .slice (some ⟨q, 0, none⟩) i c] 46))).old (by simpa using hb6)
        have hO6' := hO6
        rw [HLA.out] at hO6'
        have hOut := out_body k a1 a2 b1 b2 xs Aa As ca cs hAr6 hO6'
        have HF := Lib.hid (blk_facts k a1 a2 b1 b2 xs _ wr.heap.size q6 cap6 (1 + i) i hIn2 hOut (by omega) HX.out rfl false (by simp [hz]))
        have HB3 := Lib.hid hB3
        simp only [alloc_sizeM] at hr6
        have hzi : ((i : Int) == 0) = false := by simp; omega
        clear hIn hIn2 hOut hB2 hB3 hO6 hO6' hOa hAr6 hb6 hg6 hq6 hql
        go_upto_region 10 with (fail)
        go_wp2_with (at_builtin; refine Lib.wpList_append_run _ rfl _ _ 22 22 rfl _ _ rfl rfl _ _ hr6 ?_)
        go_wp2_with fail
        refine (HF.out _ (Below.refl _ _)).1.mono ?_
        rintro e x1 ⟨rfl, g1⟩
        have G1 := Lib.hid g1
        clear g1
        go_wp2_with fail
        refine (HF.out _ G1.out).2.1.mono ?_
        rintro e x2 ⟨rfl, g2⟩
        have G2 := Lib.hid (G1.out.trans (g2.mono G1.out.size))
        clear g2
        go_wp2_with fail
        refine (HF.out _ G2.out).2.2.1.mono ?_
        rintro e x3 ⟨rfl, g3⟩
        have G3 := Lib.hid (G2.out.trans (g3.mono G2.out.size))
        clear g3
        go_wp2_with fail
        refine (HF.out _ G3.out).2.2.2.1.mono ?_
        rintro e x4 ⟨rfl, g4⟩
        have G4 := Lib.hid (G3.out.trans (g4.mono G3.out.size))
        clear g4
        go_wp2_with fail
        refine (HF.out _ G4.out).2.2.2.2.mono ?_
        rintro e x5 ⟨rfl, g5⟩
        have G5 := Lib.hid (G4.out.trans (g5.mono G4.out.size))
        clear g5
        go_wp2
        go_ret
        exact ⟨rfl, HB3.out.trans (G5.out.mono HB3.out.size)⟩
end Go.Proofs.Ytpjoggefklohjaa
