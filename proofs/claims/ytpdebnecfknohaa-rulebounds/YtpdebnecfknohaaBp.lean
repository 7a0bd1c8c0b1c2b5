/-
  The walk of RuleBounds.
-/
import Derived.Test.YtpdebnecfknohaaBo
import Derived.Laws.OwnMore
namespace Go.Proofs.Ytpdebnecfknohaa
open Go.RowKit
set_option linter.unusedVariables false
set_option linter.unusedSimpArgs false
set_option maxRecDepth 20000

theorem info9' : (Try.prog.info? 9).map (fun i => (i.zero, i.size, i.bytes)) = some (some (.string ⟨#[]⟩), 1, 16) := by kernel_rfl
theorem u8n (i : Nat) (h : i < 60) : IntKind.u8.wrap (97 + ((i : Int) / 26)) = 97 + (i : Int) / 26 ∧ IntKind.u8.wrap (97 + ((i : Int) % 26)) = 97 + (i : Int) % 26 := by
  rw [wrapu8 _ (by omega), wrapu8 _ (by omega)]; omega
theorem naming0 {g gL gT gf : Nat} {w wp : World} {AS : Option Addr} {cS : Nat} (h : Pre7 g gL gT gf w wp AS cS) :
    ∃ q, AS = some ⟨q, 0, none⟩ ∧ 60 ≤ cS ∧ q < wp.heap.size ∧ (∃ v, wp.cell? ⟨q, 59, none⟩ = some (.string v)) ∧ wp.frozen? ⟨q, 59, none⟩ = false ∧ Naming g gL gT gf w wp (wp.setCell ⟨q, 59, none⟩ (.string (bs (List.replicate 0 122)))) AS cS 0 := by
  obtain ⟨q, hq⟩ : ∃ q, AS = some ⟨q, 0, none⟩ := by
    rcases h.os.2 with ⟨h1, _⟩ | ⟨q, cap, cur, hv, _⟩
    · injection h1 with _ h2; cases h2
    · injection hv with hv; exact ⟨q, hv⟩
  subst hq
  obtain ⟨h1, h2, h3, h4, h5⟩ := own_at h.os (by decide)
  have hne : ∀ k t (cs : Array Value), t ≠ 9 → Blk wp k t cs → k ≠ q := fun k t cs ht hb e => own_ne h.os hb (fun x => ht x.symm) (by rw [e]; rfl)
  have hg : (strV (sx 60))[59]? = some (.string (bs ((sx 60)[59]'(by rw [sx_len]; decide)))) := strV_get _ _ _
  refine ⟨q, rfl, h1, h3, ⟨_, (h4 59 _ hg).1⟩, (h4 59 _ hg).2, ?_, ?_, ?_, ?_⟩
  · have := h5 59 (.string (bs (List.replicate 0 122))) (by decide)
    rwa [show (strV (sx 60)).set 59 (.string (bs (List.replicate 0 122))) = strV ((sx 60).set 59 (List.replicate 0 122)) from by simp [strV, List.map_set]] at this
  · intro j hj hjw
    refine Below.heap_setCell _ _ _ _ ?_
    show j ≠ q
    rcases hj with rfl | rfl | rfl | rfl
    · exact hne _ _ _ (by decide) h.bm
    · exact hne _ _ _ (by decide) h.kL
    · exact hne _ _ _ (by decide) h.kT
    · exact hne _ _ _ (by decide) h.bf
  · exact h.bel.setCell (p := ⟨q, 59, none⟩) h2 _
  · simp [World.setCell]
theorem bt0 (n : Nat) (mo : Bool) (hn : n ≤ 2 ∧ n = if mo then 2 else 1) : if mo then toldF (treeF (bdM 0 n)) 2 (-1) (-1) = true else toldF (treeF (bdM 0 n)) 0 0 0 = true := by
  obtain ⟨_, rfl⟩ := hn
  cases mo
  · exact bd0.2
  · exact bd0.1
theorem bt1 (n : Nat) (mo : Bool) (hn : n ≤ 2 ∧ n = if mo then 2 else 1) : if mo then toldF (treeF (bdM 1 n)) 2 0 (-1) = true else toldF (treeF (bdM 1 n)) 0 0 0 = true := by
  obtain ⟨_, rfl⟩ := hn
  cases mo
  · exact bd1.2
  · exact bd1.1
theorem bt2 (n : Nat) (mo : Bool) (hn : n ≤ 2 ∧ n = if mo then 2 else 1) : if mo then toldF (treeF (bdM 2 n)) 2 0 (-1) = true else toldF (treeF (bdM 2 n)) 0 0 0 = true := by
  obtain ⟨_, rfl⟩ := hn
  cases mo
  · exact bd2.2
  · exact bd2.1
theorem bt3 (n : Nat) (mo : Bool) (hn : n ≤ 2 ∧ n = if mo then 2 else 1) : if mo then toldF (treeF (bdM 3 n)) 2 0 (-1) = true else toldF (treeF (bdM 3 n)) 0 0 0 = true := by
  obtain ⟨_, rfl⟩ := hn
  cases mo
  · exact bd3.2
  · exact bd3.1
theorem bt4 (n : Nat) (mo : Bool) (hn : n ≤ 2 ∧ n = if mo then 2 else 1) : if mo then toldF (treeF (bdM 4 n)) 4 0 (-1) = true else toldF (treeF (bdM 4 n)) 0 0 0 = true := by
  obtain ⟨_, rfl⟩ := hn
  cases mo
  · exact bd4.2
  · exact bd4.1
theorem bt5 (n : Nat) (mo : Bool) (hn : n ≤ 2 ∧ n = if mo then 2 else 1) : if mo then toldF (treeF (bdM 5 n)) 6 0 9 = true else toldF (treeF (bdM 5 n)) 0 0 0 = true := by
  obtain ⟨_, rfl⟩ := hn
  cases mo
  · exact bd5.2
  · exact bd5.1
theorem bt6 (n : Nat) (mo : Bool) (hn : n ≤ 2 ∧ n = if mo then 2 else 1) : if mo then toldF (treeF (bdM 6 n)) 1 (-1) (-1) = true else toldF (treeF (bdM 6 n)) 0 0 0 = true := by
  obtain ⟨_, rfl⟩ := hn
  cases mo
  · exact bd6.2
  · exact bd6.1
set_option maxHeartbeats 20000000 in
theorem bounds_walk (a0 : Int) (mo : Bool) (h0 : 0 ≤ a0) (w : World) :
    Calls Try.prog 6 #[.int .u8 a0, .bool mo] w fun e w' => e = .returned (.bool true) ∧ Below w.heap.size w w' := by
  obtain ⟨c, hc, hc0, hc7⟩ : ∃ c : Int, a0 % 7 = c ∧ 0 ≤ c ∧ c < 7 := ⟨a0 % 7, rfl, by omega, by omega⟩
  have HC := Lib.hid hc
  clear hc
  go_enter Try.func6, Try.ntmps6
  go_wp2_with fail
  refine (awake6_any _).mono ?_
  rintro e w1 ⟨rfl, hb1⟩
  have HB1 := Lib.hid hb1
  have z1 := hb1.size
  clear hb1
  obtain ⟨g, hg⟩ : ∃ g, g = w1.heap.size := ⟨_, rfl⟩
  obtain ⟨w2, hw2⟩ : ∃ w2, w2 = w1.alloc (.cells #[.slice none 0 0, .slice none 0 0, .slice none 0 0, .slice none 0 0] 30) := ⟨_, rfl⟩
  have HR : Hid (Rowing w.heap.size g 30 0 9 1 (fun v => #[v, .slice none 0 0, .slice none 0 0, .slice none 0 0]) w w w2 (.slice none 0 0) 0 (strV (sx 0))) := by
    have hk : Blk w2 g 30 #[.slice none 0 0, .slice none 0 0, .slice none 0 0, .slice none 0 0] := by rw [hw2, hg]; exact Blk.new w1 30 _
    have hB : Below w.heap.size w w2 := by rw [hw2]; exact HB1.out.alloc z1 _
    have := hk.lt
    exact ⟨hk, World.ownsRow_nil _ _ _ _, fun k hk hl => hB.block k hl, hB, by omega, Nat.le_refl _, hB.size, hB.size, hB.size⟩
  go_upto_region 4 with (fail)
  rw [← hw2]
  rw [← hg]
  clear hw2 hg z1 HB1
  go_upto_if 23 with (fail)
  go_cut [6] (fun s6 wx => ∃ n : Nat, s6 = .int .i64 (n : Int) ∧ w2 = wx ∧ Hid (n ≤ 2 ∧ n = if mo then 2 else 1))
  case first =>
    cases mo
    · go_wp2
      go_meet
      case rel => exact ⟨1, rfl, rfl, by decide, rfl⟩
    · go_wp2
      go_meet
      case rel => exact ⟨2, rfl, rfl, by decide, rfl⟩
  case rest =>
    obtain ⟨n, rfl, rfl, hn⟩ := hcut
    go_wp2_with fail
    go_loopw [7] (fun s7 wr => ∃ (i : Nat) (A : Option Addr) (c' : Nat), i ≤ 60 ∧ s7 = .int .i64 (i : Int) ∧ Hid (Rowing w.heap.size g 30 0 9 1 (fun v => #[v, .slice none 0 0, .slice none 0 0, .slice none 0 0]) w w wr (.slice A i c') i (strV (sx i)))) (fun s7 _ => 60 - (intOf s7).toNat)
    case atStart => exact ⟨0, none, 0, by decide, rfl, HR⟩
    case round =>
      clear HR
      obtain ⟨i, A, c', hi, rfl, hR⟩ := hrel
      by_cases hlt : i < 60
      · have hli : (i : Int) < 60 := by omega
        obtain ⟨q1, q2⟩ := u8n i hlt
        have hcv := conv_new wr [97 + (i : Int) / 26, 97 + (i : Int) % 26] (by simp; omega) _ rfl 2 rfl
        simp only [List.map] at hcv
        obtain ⟨S, hS⟩ : ∃ S : ByteArray, S = ⟨#[UInt8.ofNat (97 + (i : Int) / 26).toNat, UInt8.ofNat (97 + (i : Int) % 26).toNat]⟩ := ⟨_, rfl⟩
        rw [← hS] at hcv
        obtain ⟨q5, c5, w5, hr5, hc0, hz0, hc5, hf5, hz5, hR5⟩ := hR.out.step 26 16 (.string ⟨#[]⟩) Try.underlying26 info9 rfl (by decide) (by decide) (fun _ _ => rfl) (fun _ => rfl) (by decide) [.string S] rfl (by intro u hu; simp at hu; subst hu; rfl) (w3 := wr.alloc (.cells #[.int .u8 (97 + (i : Int) / 26), .int .u8 (97 + (i : Int) % 26)] 5)) ((Below.refl _ _).alloc (Nat.le_refl _) _) (by omega)
        have HR5 : Hid (Rowing w.heap.size g 30 0 9 1 (fun v => #[v, .slice none 0 0, .slice none 0 0, .slice none 0 0]) w w (w5.setCell ⟨g, 0, none⟩ (.slice (some ⟨q5, 0, none⟩) (i + 1) c5)) (.slice (some ⟨q5, 0, none⟩) (i + 1) c5) (i + 1) (strV (sx (i + 1)))) := by
          have e : strV (sx (i + 1)) = strV (sx i) ++ [.string S] := by
            rw [sx_succ, hS, show (97 + (i : Int) / 26).toNat = 97 + i / 26 from by omega, show (97 + (i : Int) % 26).toNat = 97 + i % 26 from by omega]
            simp [strV, bs]
          rw [e]; exact hR5
        clear hR5 hS hR
        simp only [World.size_alloc] at hr5
        go_wp2_with (at_builtin; refine Lib.wpList_append_run _ rfl _ _ 26 26 rfl _ _ rfl rfl _ _ hr5 ?_)
        go_roundw
        case rel => exact ⟨i + 1, _, c5, by omega, by go_num, HR5⟩
        case measure => simp [intOf]; omega
      · obtain rfl : i = 60 := by omega
        clear hlt hi
        rw [show ((60 : Nat) : Int) = 60 from rfl]
        obtain ⟨gL, hgL⟩ : ∃ x, x = wr.heap.size := ⟨_, rfl⟩
        obtain ⟨gT, hgT⟩ : ∃ x, x = wr.heap.size + 1 := ⟨_, rfl⟩
        obtain ⟨gf, hgf⟩ : ∃ x, x = wr.heap.size + 1 + 1 := ⟨_, rfl⟩
        obtain ⟨wp, hwp⟩ : ∃ wp, wp = ((wr.alloc (.cells #[.int .i64 58] 3)).alloc (.cells #[.int .i64 57] 3)).alloc (.cells #[.int .i64 59, .int .i64 0, .slice (some ⟨wr.heap.size, 0, none⟩) 1 1, .slice (some ⟨wr.heap.size + 1, 0, none⟩) 1 1, .slice none 0 0] 40) := ⟨_, rfl⟩
        have HP : Hid (Pre7 g gL gT gf w wp A c') := by
          have hl := hR.out.le
          have hg := hR.out.box.lt
          refine ⟨?_, ?_, ?_, ?_, ?_, ?_, hl.1, ?_, ?_, ?_⟩
          · rw [hwp]; exact ((hR.out.box.alloc _).alloc _).alloc _
          · rw [hwp, hgf, hgL, hgT]; exact Blk.new' _ 40 _ _ (by simp)
          · rw [hwp]; exact ((hR.out.own.alloc _).alloc _).alloc _
          · rw [hwp, hgL]; exact ((Blk.new _ 3 _).alloc _).alloc _
          · rw [hwp, hgT]; exact (Blk.new' _ 3 _ _ (by simp)).alloc _
          · rw [hwp]; exact ((hR.out.bel.alloc hl.2.2.2.1 _).alloc (by simp; omega) _).alloc (by simp; omega) _
          · omega
          · omega
          · omega
        go_upto_region 12 with (fail)
        rw [← hwp]
        rw [← hgf]
        clear hwp hgL hgT hgf hR
        have hc := HC.out
        go_upto_block 2 with (fail)
        simp only [hc]
        clear hc HC
        go_cut [9, 10, 11] (fun s9 s10 s11 wx => ∃ (M : Md) (f : Fn) (AS Ag Al At Ab : Option Addr) (cS cg cl ct cb : Nat) (x y z : Int), s9 = .int .i64 x ∧ s10 = .int .i64 y ∧ s11 = .int .i64 z ∧ Hid (Fin7 g w wx M f AS Ag Al At Ab cS cg cl ct cb gf) ∧ Hid (M.Wf) ∧ Hid (if mo then toldF (treeF M) x y z = true else toldF (treeF M) 0 0 0 = true))
        case first =>
          clear h0
          obtain ⟨w9, rfl⟩ : ∃ w9 : World, w9 = wr := ⟨_, rfl⟩
          have hn2 := hn.out.1
          have zg := HP.out.bm.lt
          have zf := HP.out.bf.lt
          have hpl := HP.out.le
          have hpb := HP.out.bel.size
          rcases (show c = 0 ∨ c = 1 ∨ c = 2 ∨ c = 3 ∨ c = 4 ∨ c = 5 ∨ c = 6 by omega) with rfl | rfl | rfl | rfl | rfl | rfl | rfl
          · skip
            have HS : Hid (Rowing wp.heap.size g 30 1 3 1 (fun v => #[.slice A 60 c', v, .slice none 0 0, .slice none 0 0]) w wp wp (.slice none 0 0) 0 (intV (up 0))) := by
              exact ⟨HP.out.bm, World.ownsRow_nil _ _ _ _, fun _ _ _ => rfl, HP.out.bel, by omega, by omega, Nat.le_refl _, hpb, Nat.le_refl _⟩
            go_wp2_with fail
            go_loopw [12] (fun sl wr => ∃ (i : Nat) (A2 : Option Addr) (c2 : Nat), i ≤ 39 + n ∧ sl = .int .i64 (i : Int) ∧ Hid (Rowing wp.heap.size g 30 1 3 1 (fun v => #[.slice A 60 c', v, .slice none 0 0, .slice none 0 0]) w wp wr (.slice A2 i c2) i (intV (up i)))) (fun sl _ => 39 + n - (intOf sl).toNat)
            case atStart => exact ⟨0, none, 0, Nat.zero_le _, rfl, HS⟩
            case round =>
              clear HS
              obtain ⟨i, A2, c2, hi, rfl, hR⟩ := hrel
              by_cases hlt : i < 39 + n
              · have hli : (i : Int) < 39 + (n : Int) := by omega
                obtain ⟨q5, c5, w5, hr5, hc0, hz0, hc5, hf5, hz5, hR5⟩ := hR.out.step 27 8 (.int .i64 0) Try.underlying27 info3 rfl (by decide) (by decide) (fun _ _ => rfl) (fun _ => rfl) (by decide) [.int .i64 (i : Int)] rfl (by intro u hu; simp at hu; subst hu; rfl) (w3 := wr) (Below.refl _ _) (by omega)
                have HR5 : Hid (Rowing wp.heap.size g 30 1 3 1 (fun v => #[.slice A 60 c', v, .slice none 0 0, .slice none 0 0]) w wp (w5.setCell ⟨g, 1, none⟩ (.slice (some ⟨q5, 0, none⟩) (i + 1) c5)) (.slice (some ⟨q5, 0, none⟩) (i + 1) c5) (i + 1) (intV (up (i + 1)))) := by rw [show (intV (up (i + 1))) = (intV (up i)) ++ [.int .i64 (i : Int)] from by simp [up_succ, intV]]; exact hR5
                clear hR5 hR HP
                go_wp2_with (at_builtin; refine Lib.wpList_append_run _ rfl _ _ 27 27 rfl _ _ rfl rfl _ _ hr5 ?_)
                go_roundw
                case rel => exact ⟨i + 1, _, c5, by omega, by go_num, HR5⟩
                case measure => simp [intOf]; omega
              · have hli : ¬ (i : Int) < 39 + (n : Int) := by omega
                have hN : i = 39 + n := by omega
                have HF := Lib.hid (arm0 HP.out hN hR.out)
                clear hR HP hN
                go_wp2_with fail
                go_meet
                case rel => exact ⟨_, _, _, _, _, _, _, _, _, _, _, _, _, _, _, rfl, rfl, rfl, HF, bd_wf 0 n hn2, bt0 n mo hn.out⟩
          · skip
            have hcf := HP.out.bf.cell 2
            have hff := HP.out.bf.frozen 2
            have HS : Hid (Rowing wp.heap.size gf 40 2 3 1 (fun v => #[.int .i64 59, .int .i64 0, v, .slice (some ⟨gT, 0, none⟩) 1 1, .slice none 0 0]) w wp (wp.setCell ⟨gf, 2, none⟩ (.slice none 0 0)) (.slice none 0 0) 0 (intV (up 0))) := by
              refine ⟨HP.out.bf.set_ 2 _, World.ownsRow_nil _ _ _ _, fun k hk _ => Below.heap_setCell _ _ _ _ hk.2, HP.out.bel.setCell (p := ⟨gf, 2, none⟩) (by show _ ≤ gf; omega) _, by omega, by omega, ?_, ?_, ?_⟩
              all_goals simp [World.setCell]
              all_goals omega
            go_wp2_with fail
            go_loopw [13] (fun sl wr => ∃ (i : Nat) (A2 : Option Addr) (c2 : Nat), i ≤ 39 + n ∧ sl = .int .i64 (i : Int) ∧ Hid (Rowing wp.heap.size gf 40 2 3 1 (fun v => #[.int .i64 59, .int .i64 0, v, .slice (some ⟨gT, 0, none⟩) 1 1, .slice none 0 0]) w wp wr (.slice A2 i c2) i (intV (up i)))) (fun sl _ => 39 + n - (intOf sl).toNat)
            case atStart => exact ⟨0, none, 0, Nat.zero_le _, rfl, HS⟩
            case round =>
              clear HS
              obtain ⟨i, A2, c2, hi, rfl, hR⟩ := hrel
              by_cases hlt : i < 39 + n
              · have hli : (i : Int) < 39 + (n : Int) := by omega
                obtain ⟨q5, c5, w5, hr5, hc0, hz0, hc5, hf5, hz5, hR5⟩ := hR.out.step 27 8 (.int .i64 0) Try.underlying27 info3 rfl (by decide) (by decide) (fun _ _ => rfl) (fun _ => rfl) (by decide) [.int .i64 (i : Int)] rfl (by intro u hu; simp at hu; subst hu; rfl) (w3 := wr) (Below.refl _ _) (by omega)
                have HR5 : Hid (Rowing wp.heap.size gf 40 2 3 1 (fun v => #[.int .i64 59, .int .i64 0, v, .slice (some ⟨gT, 0, none⟩) 1 1, .slice none 0 0]) w wp (w5.setCell ⟨gf, 2, none⟩ (.slice (some ⟨q5, 0, none⟩) (i + 1) c5)) (.slice (some ⟨q5, 0, none⟩) (i + 1) c5) (i + 1) (intV (up (i + 1)))) := by rw [show (intV (up (i + 1))) = (intV (up i)) ++ [.int .i64 (i : Int)] from by simp [up_succ, intV]]; exact hR5
                clear hR5 hR HP
                go_wp2_with (at_builtin; refine Lib.wpList_append_run _ rfl _ _ 27 27 rfl _ _ rfl rfl _ _ hr5 ?_)
                go_roundw
                case rel => exact ⟨i + 1, _, c5, by omega, by go_num, HR5⟩
                case measure => simp [intOf]; omega
              · have hli : ¬ (i : Int) < 39 + (n : Int) := by omega
                have hN : i = 39 + n := by omega
                have HF := Lib.hid (arm1 HP.out hN hR.out)
                clear hR HP hN
                go_wp2_with fail
                go_meet
                case rel => exact ⟨_, _, _, _, _, _, _, _, _, _, _, _, _, _, _, rfl, rfl, rfl, HF, bd_wf 1 n hn2, bt1 n mo hn.out⟩
          · skip
            have hcf := HP.out.bf.cell 3
            have hff := HP.out.bf.frozen 3
            have HS : Hid (Rowing wp.heap.size gf 40 3 3 1 (fun v => #[.int .i64 59, .int .i64 0, .slice (some ⟨gL, 0, none⟩) 1 1, v, .slice none 0 0]) w wp (wp.setCell ⟨gf, 3, none⟩ (.slice none 0 0)) (.slice none 0 0) 0 (intV (up 0))) := by
              refine ⟨HP.out.bf.set_ 3 _, World.ownsRow_nil _ _ _ _, fun k hk _ => Below.heap_setCell _ _ _ _ hk.2, HP.out.bel.setCell (p := ⟨gf, 3, none⟩) (by show _ ≤ gf; omega) _, by omega, by omega, ?_, ?_, ?_⟩
              all_goals simp [World.setCell]
              all_goals omega
            go_wp2_with fail
            go_loopw [14] (fun sl wr => ∃ (i : Nat) (A2 : Option Addr) (c2 : Nat), i ≤ 39 + n ∧ sl = .int .i64 (i : Int) ∧ Hid (Rowing wp.heap.size gf 40 3 3 1 (fun v => #[.int .i64 59, .int .i64 0, .slice (some ⟨gL, 0, none⟩) 1 1, v, .slice none 0 0]) w wp wr (.slice A2 i c2) i (intV (up i)))) (fun sl _ => 39 + n - (intOf sl).toNat)
            case atStart => exact ⟨0, none, 0, Nat.zero_le _, rfl, HS⟩
            case round =>
              clear HS
              obtain ⟨i, A2, c2, hi, rfl, hR⟩ := hrel
              by_cases hlt : i < 39 + n
              · have hli : (i : Int) < 39 + (n : Int) := by omega
                obtain ⟨q5, c5, w5, hr5, hc0, hz0, hc5, hf5, hz5, hR5⟩ := hR.out.step 27 8 (.int .i64 0) Try.underlying27 info3 rfl (by decide) (by decide) (fun _ _ => rfl) (fun _ => rfl) (by decide) [.int .i64 (i : Int)] rfl (by intro u hu; simp at hu; subst hu; rfl) (w3 := wr) (Below.refl _ _) (by omega)
                have HR5 : Hid (Rowing wp.heap.size gf 40 3 3 1 (fun v => #[.int .i64 59, .int .i64 0, .slice (some ⟨gL, 0, none⟩) 1 1, v, .slice none 0 0]) w wp (w5.setCell ⟨gf, 3, none⟩ (.slice (some ⟨q5, 0, none⟩) (i + 1) c5)) (.slice (some ⟨q5, 0, none⟩) (i + 1) c5) (i + 1) (intV (up (i + 1)))) := by rw [show (intV (up (i + 1))) = (intV (up i)) ++ [.int .i64 (i : Int)] from by simp [up_succ, intV]]; exact hR5
                clear hR5 hR HP
                go_wp2_with (at_builtin; refine Lib.wpList_append_run _ rfl _ _ 27 27 rfl _ _ rfl rfl _ _ hr5 ?_)
                go_roundw
                case rel => exact ⟨i + 1, _, c5, by omega, by go_num, HR5⟩
                case measure => simp [intOf]; omega
              · have hli : ¬ (i : Int) < 39 + (n : Int) := by omega
                have hN : i = 39 + n := by omega
                have HF := Lib.hid (arm2 HP.out hN hR.out)
                clear hR HP hN
                go_wp2_with fail
                go_meet
                case rel => exact ⟨_, _, _, _, _, _, _, _, _, _, _, _, _, _, _, rfl, rfl, rfl, HF, bd_wf 2 n hn2, bt2 n mo hn.out⟩
          · skip
            have HS : Hid (Rowing wp.heap.size gf 40 4 50 7 (fun v => #[.int .i64 59, .int .i64 0, .slice (some ⟨gL, 0, none⟩) 1 1, .slice (some ⟨gT, 0, none⟩) 1 1, v]) w wp wp (.slice none 0 0) 0 (retV 0)) := by
              exact ⟨HP.out.bf, World.ownsRow_nil _ _ _ _, fun _ _ _ => rfl, HP.out.bel, by omega, by omega, Nat.le_refl _, hpb, Nat.le_refl _⟩
            go_wp2_with fail
            go_loopw [15] (fun sl wr => ∃ (i : Nat) (A2 : Option Addr) (c2 : Nat), i ≤ 399 + n ∧ sl = .int .i64 (i : Int) ∧ Hid (Rowing wp.heap.size gf 40 4 50 7 (fun v => #[.int .i64 59, .int .i64 0, .slice (some ⟨gL, 0, none⟩) 1 1, .slice (some ⟨gT, 0, none⟩) 1 1, v]) w wp wr (.slice A2 i c2) i (retV i))) (fun sl _ => 399 + n - (intOf sl).toNat)
            case atStart => exact ⟨0, none, 0, Nat.zero_le _, rfl, HS⟩
            case round =>
              clear HS
              obtain ⟨i, A2, c2, hi, rfl, hR⟩ := hrel
              by_cases hlt : i < 399 + n
              · have hli : (i : Int) < 399 + (n : Int) := by omega
                obtain ⟨q5, c5, w5, hr5, hc0, hz0, hc5, hf5, hz5, hR5⟩ := hR.out.step 38 88 (.agg #[.int .u8 0, .int .u8 0, .int .i64 0, .int .u8 0, .int .i64 0, .slice none 0 0, .slice none 0 0]) Try.underlying38 info50 rfl (by decide) (by decide) (fun _ _ => rfl) (fun _ => rfl) (by decide) [.int .u8 6, .int .u8 0, .int .i64 0, .int .u8 1, .int .i64 0, .slice none 0 0, .slice none 0 0] rfl (by intro u hu; simp at hu; rcases hu with rfl | rfl | rfl | rfl | rfl | rfl | rfl <;> rfl) (w3 := wr) (Below.refl _ _) (by omega)
                have HR5 : Hid (Rowing wp.heap.size gf 40 4 50 7 (fun v => #[.int .i64 59, .int .i64 0, .slice (some ⟨gL, 0, none⟩) 1 1, .slice (some ⟨gT, 0, none⟩) 1 1, v]) w wp (w5.setCell ⟨gf, 4, none⟩ (.slice (some ⟨q5, 0, none⟩) (i + 1) c5)) (.slice (some ⟨q5, 0, none⟩) (i + 1) c5) (i + 1) (retV (i + 1))) := by rw [show (retV (i + 1)) = (retV i) ++ [.int .u8 6, .int .u8 0, .int .i64 0, .int .u8 1, .int .i64 0, .slice none 0 0, .slice none 0 0] from (retV_snoc i).symm]; exact hR5
                clear hR5 hR HP
                go_wp2_with (at_builtin; refine Lib.wpList_append_run _ rfl _ _ 38 38 rfl _ _ rfl rfl _ _ hr5 ?_)
                go_roundw
                case rel => exact ⟨i + 1, _, c5, by omega, by go_num, HR5⟩
                case measure => simp [intOf]; omega
              · have hli : ¬ (i : Int) < 399 + (n : Int) := by omega
                have hN : i = 399 + n := by omega
                have HF := Lib.hid (arm3 HP.out hN hR.out)
                clear hR HP hN
                go_wp2_with fail
                go_meet
                case rel => exact ⟨_, _, _, _, _, _, _, _, _, _, _, _, _, _, _, rfl, rfl, rfl, HF, bd_wf 3 n hn2, bt3 n mo hn.out⟩
          · skip
            have hcf := HP.out.bf.cell 2
            have hff := HP.out.bf.frozen 2
            have HS : Hid (Rowing wp.heap.size gf 40 2 3 1 (fun v => #[.int .i64 59, .int .i64 0, v, .slice (some ⟨gT, 0, none⟩) 1 1, .slice none 0 0]) w wp (wp.setCell ⟨gf, 2, none⟩ (.slice none 0 0)) (.slice none 0 0) 0 (intV (up 0))) := by
              refine ⟨HP.out.bf.set_ 2 _, World.ownsRow_nil _ _ _ _, fun k hk _ => Below.heap_setCell _ _ _ _ hk.2, HP.out.bel.setCell (p := ⟨gf, 2, none⟩) (by show _ ≤ gf; omega) _, by omega, by omega, ?_, ?_, ?_⟩
              all_goals simp [World.setCell]
              all_goals omega
            go_wp2_with fail
            go_loopw [16] (fun sl wr => ∃ (i : Nat) (A2 : Option Addr) (c2 : Nat), i ≤ 5 + n ∧ sl = .int .i64 (i : Int) ∧ Hid (Rowing wp.heap.size gf 40 2 3 1 (fun v => #[.int .i64 59, .int .i64 0, v, .slice (some ⟨gT, 0, none⟩) 1 1, .slice none 0 0]) w wp wr (.slice A2 i c2) i (intV (up i)))) (fun sl _ => 5 + n - (intOf sl).toNat)
            case atStart => exact ⟨0, none, 0, Nat.zero_le _, rfl, HS⟩
            case round =>
              clear HS
              obtain ⟨i, A2, c2, hi, rfl, hR⟩ := hrel
              by_cases hlt : i < 5 + n
              · have hli : (i : Int) < 5 + (n : Int) := by omega
                obtain ⟨q5, c5, w5, hr5, hc0, hz0, hc5, hf5, hz5, hR5⟩ := hR.out.step 27 8 (.int .i64 0) Try.underlying27 info3 rfl (by decide) (by decide) (fun _ _ => rfl) (fun _ => rfl) (by decide) [.int .i64 (i : Int)] rfl (by intro u hu; simp at hu; subst hu; rfl) (w3 := wr) (Below.refl _ _) (by omega)
                have HR5 : Hid (Rowing wp.heap.size gf 40 2 3 1 (fun v => #[.int .i64 59, .int .i64 0, v, .slice (some ⟨gT, 0, none⟩) 1 1, .slice none 0 0]) w wp (w5.setCell ⟨gf, 2, none⟩ (.slice (some ⟨q5, 0, none⟩) (i + 1) c5)) (.slice (some ⟨q5, 0, none⟩) (i + 1) c5) (i + 1) (intV (up (i + 1)))) := by rw [show (intV (up (i + 1))) = (intV (up i)) ++ [.int .i64 (i : Int)] from by simp [up_succ, intV]]; exact hR5
                clear hR5 hR HP
                go_wp2_with (at_builtin; refine Lib.wpList_append_run _ rfl _ _ 27 27 rfl _ _ rfl rfl _ _ hr5 ?_)
                go_roundw
                case rel => exact ⟨i + 1, _, c5, by omega, by go_num, HR5⟩
                case measure => simp [intOf]; omega
              · have hli : ¬ (i : Int) < 5 + (n : Int) := by omega
                have hN : i = 5 + n := by omega
                have hF0 := arm4 HP.out hN hR.out
                rw [show (i : Int) = 5 + (n : Int) from by omega] at hF0
                have HF := Lib.hid hF0
                have hcf := hR.out.box.cell 1
                have hff := hR.out.box.frozen 1
                have hzf := hR.out.box.lt
                clear hF0 hR HP hN
                go_wp2_with fail
                go_meet
                case rel => exact ⟨_, _, _, _, _, _, _, _, _, _, _, _, _, _, _, rfl, rfl, rfl, HF, bd_wf 4 n hn2, bt4 n mo hn.out⟩
          · skip
            have hcf : wp.cell? ⟨gf, 4, none⟩ = some (.slice none 0 0) := HP.out.bf.cell 4
            have hff := HP.out.bf.frozen 4
            obtain ⟨wq, hwq⟩ : ∃ wq, wq = (wp.alloc (.cells #[.int .u8 6, .int .u8 0, .int .i64 0, .int .u8 1, .int .i64 0, .slice none 0 0, .slice none 0 0] 50)).setCell ⟨gf, 4, none⟩ (.slice (some ⟨wp.heap.size, 0, none⟩) 1 1) := ⟨_, rfl⟩
            have HN : Hid (Nesting wp.heap.size g gL gT gf w wp wq (some ⟨wp.heap.size, 0, none⟩) 0) := by
              have hs : wp.heap.size ≤ wq.heap.size := by rw [hwq]; simp [World.setCell]
              have hN : Blk wq wp.heap.size 50 #[.int .u8 6, .int .u8 0, .int .i64 0, .int .u8 1, .int .i64 0, .slice none 0 0, .slice none 0 0] := by
                rw [hwq]; exact (Blk.new wp 50 _).far (by show _ ≠ gf; omega) _
              refine ⟨?_, ?_, ?_, ?_, by omega, by omega, by omega, by omega, by omega⟩
              · rw [hwq]; exact (HP.out.bf.alloc _).set_ 4 _
              · intro _
                exact ⟨wp.heap.size, 0, rfl, ⟨by omega, by omega⟩, ⟨hN.cell 0, hN.cell 1, hN.cell 2, hN.cell 3, hN.cell 4⟩, ⟨_, hN.cell 5, ⟨none, 0, rfl, fun hp => by simp at hp⟩⟩, ⟨none, 0, hN.cell 6, fun hp => by simp [Bd.len] at hp⟩, trivial⟩
              · intro k hk hkw
                rw [hwq, Below.heap_setCell _ _ _ _ hk.2, heap_alloc_old _ _ hkw]
              · rw [hwq]; exact (HP.out.bel.alloc hpb _).setCell (p := ⟨gf, 4, none⟩) (by show _ ≤ gf; omega) _
            rw [World.setCell_alloc_past _ _ _ _ zf] at hwq
            go_upto_region 56 with (fail)
            rw [← hwq]
            clear hwq hcf hff
            go_wp2_with fail
            go_loopw [17] (fun sl wr => ∃ (i : Nat) (A2 : Option Addr), i ≤ 7 + n ∧ sl = .int .i64 (i : Int) ∧ Hid (Nesting wp.heap.size g gL gT gf w wp wr A2 i)) (fun sl _ => 7 + n - (intOf sl).toNat)
            case atStart => exact ⟨0, _, Nat.zero_le _, rfl, HN⟩
            case round =>
              clear HN
              obtain ⟨i, A2, hi, rfl, hR⟩ := hrel
              by_cases hlt : i < 7 + n
              · have hli : (i : Int) < 7 + (n : Int) := by omega
                have HR5 := hR.out.step _ rfl
                have hc4 : wr.cell? ⟨gf, 4, none⟩ = some (.slice A2 1 1) := hR.out.box.cell 4
                have hf4 := hR.out.box.frozen 4
                have hz4 := hR.out.box.lt
                rw [World.setCell_alloc_past _ _ _ _ hz4] at HR5
                have HR6 := Lib.hid HR5
                clear HR5 hR HP
                go_wp2_with fail
                go_roundw
                case rel => exact ⟨i + 1, _, by omega, by go_num, HR6⟩
                case measure => simp [intOf]; omega
              · have hli : ¬ (i : Int) < 7 + (n : Int) := by omega
                have hN : i = 7 + n := by omega
                have HF := Lib.hid (arm5 HP.out hN hR.out)
                clear hR HP hN
                go_wp2_with fail
                go_meet
                case rel => exact ⟨_, _, _, _, _, _, _, _, _, _, _, _, _, _, _, rfl, rfl, rfl, HF, bd_wf 5 n hn2, bt5 n mo hn.out⟩
          · skip
            have hN00 : ∃ q, A = some ⟨q, 0, none⟩ ∧ 60 ≤ c' ∧ q < wp.heap.size ∧ (∃ v, wp.cell? ⟨q, 59, none⟩ = some (.string v)) ∧ wp.frozen? ⟨q, 59, none⟩ = false ∧ Naming g gL gT gf w wp (wp.setCell ⟨q, 59, none⟩ (.string (bs (List.replicate 0 122)))) A c' 0 := naming0 HP.out
            obtain ⟨q, rfl, h60, hzq, ⟨sv, hcq⟩, hfq, hN0⟩ := hN00
            have HN := Lib.hid hN0
            have hcm : wp.cell? ⟨g, 0, none⟩ = some (.slice (some ⟨q, 0, none⟩) 60 c') := HP.out.bm.cell 0
            clear hN0
            go_wp2_with fail
            go_loopw [18] (fun sl wr => ∃ (i : Nat), i ≤ 39 + n ∧ sl = .int .i64 (i : Int) ∧ Hid (Naming g gL gT gf w wp wr (some ⟨q, 0, none⟩) c' i)) (fun sl _ => 39 + n - (intOf sl).toNat)
            case atStart => exact ⟨0, Nat.zero_le _, rfl, HN⟩
            case round =>
              clear HN hcq hfq hcm hzq
              obtain ⟨i, hi, rfl, hR⟩ := hrel
              have hcm : wr.cell? ⟨g, 0, none⟩ = some (.slice (some ⟨q, 0, none⟩) 60 c') := (HP.out.bm.kept hR.out.kept (.inl rfl)).cell 0
              have hzm : g < wr.heap.size := (HP.out.bm.kept hR.out.kept (.inl rfl)).lt
              by_cases hlt : i < 39 + n
              · have hli : (i : Int) < 39 + (n : Int) := by omega
                obtain ⟨q', hq', hzq, _, hcq, hfq, hst⟩ := hR.out.step HP.out
                injection hq' with hq'
                injection hq' with hq'
                subst hq'
                obtain ⟨sv, hsv⟩ : ∃ sv, sv = bs (List.replicate i 122) := ⟨_, rfl⟩
                rw [← hsv] at hcq
                have hss : sv.size = i := by rw [hsv]; simp [bs, ByteArray.size]
                have HR6 : Hid (Naming g gL gT gf w wp (wr.setCell ⟨q, 59, none⟩ (.string (sv ++ ⟨#[122]⟩))) (some ⟨q, 0, none⟩) c' (i + 1)) := by
                  have e : sv ++ ⟨#[122]⟩ = bs (List.replicate (i + 1) 122) := by
                    rw [hsv, List.replicate_succ']
                    apply ByteArray.ext
                    simp [bs]
                    rw [← List.toArray_replicate, List.push_toArray]
                  rw [e]; exact hst (i + 1)
                clear hst hR HP hsv
                go_wp2_with fail
                go_roundw
                case rel => exact ⟨i + 1, by omega, by go_num, HR6⟩
                case measure => simp [intOf]; omega
              · have hli : ¬ (i : Int) < 39 + (n : Int) := by omega
                have hN : i = 39 + n := by omega
                have HF := Lib.hid (arm6 HP.out hN hR.out)
                clear hR HP hN
                go_wp2_with fail
                go_meet
                case rel => exact ⟨_, _, _, _, _, _, _, _, _, _, _, _, _, _, _, rfl, rfl, rfl, HF, bd_wf 6 n hn2, bt6 n mo hn.out⟩
        case rest =>
          obtain ⟨M, f, AS, Ag, Al, At, Ab, cS, cg, cl, ct, cb, x, y, z, rfl, rfl, rfl, hF, hW, hT⟩ := hcut
          clear HP hn
          have hM := fun w4 hw4 => hF.out.fin (w4 := w4) hw4
          have hTr := fun wx (K : Option Addr) (h : MdR wx AS Ag K none M) => tree_any M AS Ag K none cS cg 1 0 wx hW.out h
          have hbm := hF.out.bm
          have hbf := hF.out.bf
          rw [hF.out.fn.1, hF.out.fn.2] at hTr
          simp only [List.length_nil, List.length_cons] at hTr
          clear hF hW
          generalize treeF M = T at *
          obtain ⟨fn, fp, fl, ft, fb⟩ := f
          dsimp only at *
          generalize M.strs.length = nS at *
          generalize M.globs.length = nG at *
          generalize fl.length = nl at *
          generalize ft.length = nt at *
          generalize fb.len = nb at *
          obtain ⟨w4, hw4⟩ : ∃ w4, w4 = (wc.alloc (.cells #[.int .i64 fn, .int .i64 fp, .slice Al nl cl, .slice At nt ct, .slice Ab nb cb] 40)).setCell ⟨g, 2, none⟩ (.slice (some ⟨wc.heap.size, 0, none⟩) 1 1) := ⟨_, rfl⟩
          obtain ⟨hB4, hM4, hK4⟩ := hM w4 hw4
          have HB4 := Lib.hid hB4
          have K4 := Lib.hid hK4
          have HTr := Lib.hid (hTr w4 _ hM4)
          obtain ⟨K, hK⟩ : ∃ K, K = wc.heap.size := ⟨_, rfl⟩
          rw [← hK] at K4 HTr
          obtain ⟨f0, f1, f2, f3, f4⟩ := hbf.c5
          have hcm : wc.cell? ⟨g, 2, none⟩ = some (.slice none 0 0) := hbm.cell 2
          have hfm := hbm.frozen 2
          have zf := hbf.lt
          have zm := hbm.lt
          clear hM hTr hB4 hM4 hK4 hbm hbf
          rw [World.setCell_alloc_past _ _ _ _ zm] at hw4
          go_upto_region 63 with (fail)
          rw [← hw4]
          clear hw4 hcm hfm f0 f1 f2 f3 f4 zf zm hK
          obtain ⟨m0, m1, m2, m3⟩ := K4.out.c4
          have z1 : g < w4.heap.size := K4.out.lt
          go_wp2_with fail
          refine HTr.out.mono ?_
          rintro e w5 ⟨rfl, hb5⟩
          have HB5 := Lib.hid (HB4.out.trans (hb5.mono HB4.out.size))
          have hz5 := HB5.out.size
          clear hb5 m0 m1 m2 m3 z1 HTr K4 HB4
          dsimp only
          obtain ⟨T1, T2, T3⟩ := T
          dsimp only
          have HTold := Lib.hid (fun n f s wx => told_any T1 T2 T3 n f s wx)
          obtain ⟨fe, hfe⟩ : ∃ fe : Int, fe = if T1 = 0 then 0 else 8 := ⟨_, rfl⟩
          have HV : Hid (faultV T1 T2 T3 = .agg #[.int .i64 fe, .int .i64 0, .int .i64 0, .int .i64 0, .int .i64 T1, .int .i64 T2, .int .i64 T3]) := by rw [hfe]; rfl
          rw [HV.out] at HTold
          rw [HV.out]
          clear HV hfe
          obtain ⟨w6, hw6⟩ : ∃ w6, w6 = w5.alloc (.cells #[.int .i64 fe, .int .i64 0, .int .i64 0, .int .i64 0, .int .i64 T1, .int .i64 T2, .int .i64 T3] 35) := ⟨_, rfl⟩
          have HB6 : Hid (Below w.heap.size w w6) := by rw [hw6]; exact HB5.out.alloc hz5 _
          have K6 : Hid (Blk w6 w5.heap.size 35 #[.int .i64 fe, .int .i64 0, .int .i64 0, .int .i64 0, .int .i64 T1, .int .i64 T2, .int .i64 T3]) := by rw [hw6]; exact Blk.new w5 35 _
          go_upto_region 64 with (fail)
          rw [← hw6]
          obtain ⟨g6, hg6⟩ : ∃ x, x = w5.heap.size := ⟨_, rfl⟩
          rw [← hg6] at K6 ⊢
          clear hw6 hg6 HB5 hz5
          obtain ⟨k0, k1, k2, k3, k4, k5, k6⟩ := K6.out.c7
          have z6 : g6 < w6.heap.size := K6.out.lt
          cases mo
          · have hT0 : toldF (T1, T2, T3) 0 0 0 = true := by simpa using hT.out
            have HT := Lib.hid (HTold.out 0 0 0 w6)
            rw [hT0] at HT
            clear HTold hT hT0
            go_wp2_with fail
            refine HT.out.mono ?_
            rintro e w7 ⟨rfl, hb7⟩
            go_wp2
            go_ret
            exact ⟨rfl, HB6.out.trans (hb7.mono HB6.out.size)⟩
          · have hT0 : toldF (T1, T2, T3) x y z = true := by simpa using hT.out
            have HT := Lib.hid (HTold.out x y z w6)
            rw [hT0] at HT
            clear HTold hT hT0
            go_wp2_with fail
            refine HT.out.mono ?_
            rintro e w7 ⟨rfl, hb7⟩
            go_wp2
            go_ret
            exact ⟨rfl, HB6.out.trans (hb7.mono HB6.out.size)⟩
end Go.Proofs.Ytpdebnecfknohaa
