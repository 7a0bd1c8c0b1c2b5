/-
  RuleKinds: the module that it makes; its walk.
-/
import Derived.Test.YtpdebnecfknohaaKca
import Derived.Test.YtpdebnecfknohaaBo
namespace Go.Proofs.Ytpdebnecfknohaa
open Go.RowKit
set_option linter.unusedVariables false
set_option linter.unusedSimpArgs false
set_option maxRecDepth 20000

theorem check_zero (M : Md) (h : (checkF M).1 = 0) : checkF M = (0, -1, -1) := by
  unfold checkF at h ⊢
  split at h
  · rename_i h1; exact absurd h h1
  · rename_i h1
    rw [if_neg h1]
    split at h
    · rename_i h2; rw [if_pos h2]
    · simp at h
theorem tree_zero (M : Md) (h : (treeF M).1 = 0) : treeF M = (0, -1, -1) := (treeF_in M h).1
theorem told_self (v : Int × Int × Int) (h : v.1 = 0 → v = (0, -1, -1)) : toldF (v.1, v.2.1, v.2.2) v.1 v.2.1 v.2.2 = true := by
  by_cases h0 : v.1 = 0
  · rw [h h0]; rfl
  · simp [toldF, h0]
def kkF (k a b n q p : Nat) : Fn := ⟨1, (p : Int), [0], [3], .cons (k : Int) (a : Int) 0 (b : Int) 0 (List.replicate n ((q : Int), 0)) .nil .nil⟩
def kkM (k a b n q p : Nat) : Md := ⟨[[97], [102], [103], [104]], [2], [kkF k a b n q p], []⟩
theorem kk_wf (k a b n q p : Nat) (hn : n ≤ 3) : (kkM k a b n q p).Wf := by
  have hb : (kkF k a b n q p).body.size ≤ 1000000 ∧ (kkF k a b n q p).body.wide ≤ 1000000 := by
    simp [kkF, Bd.size, Bd.wide]
    try omega
  refine ⟨by simp [kkM], ⟨by simp [kkM], by intro x hx; simp [kkM] at hx; omega⟩, ⟨by simp [kkM], by intro x hx; simp [kkM] at hx⟩, by simp [kkM], ?_, ?_⟩
  · intro f hf
    have : f = kkF k a b n q p := by simpa [kkM] using hf
    subst this
    refine ⟨?_, ?_, ?_, ?_, hb.1, hb.2⟩
    · intro x hx; simp [kkF] at hx; omega
    · intro x hx; simp [kkF] at hx; omega
    · simp [kkF]
    · simp [kkF]
  · intro x hx; simp [kkM, kkF, namesL] at hx; omega
theorem kk_low (k a b n q p : Nat) (ha : a ≤ 4) (hb : b ≤ 4) (hq : q ≤ 2) : ∀ f ∈ (kkM k a b n q p).funcs, ∀ x ∈ f.body.flat 0, x.Low := by
  intro f hf x hx
  have : f = kkF k a b n q p := by simpa [kkM] using hf
  subst this
  have : x = ⟨0, (k : Int), (a : Int), 0, (b : Int), 0, List.replicate n ((q : Int), 0), .nil⟩ := by
    simp only [kkF, Bd.flat] at hx
    split at hx <;> simpa using hx
  subst this
  refine ⟨by simp, by simp; omega, by simp, by simp; omega, ?_⟩
  intro y hy
  have := List.eq_of_mem_replicate hy
  subst this
  exact ⟨by simp, by simp; omega⟩
theorem rep_flat (n : Nat) (q : Int) : flatA (List.replicate n (q, 0)) ++ [.int .u8 q, .int .i64 0] = flatA (List.replicate (n + 1) (q, 0)) := by
  rw [List.replicate_succ', flatA_append]; rfl
abbrev kkS : Array Value := #[.string ⟨#[97]⟩, .string ⟨#[102]⟩, .string ⟨#[103]⟩, .string ⟨#[104]⟩]
/-- The module in memory. -/
theorem kk_end {B g : Nat} {k a b n q p : Nat} {w wp wr : World} {A : Option Addr} {c : Nat} (h : Rowing B (g + 1 + 1 + 1) 50 5 46 2 (fun v => #[.int .u8 (k : Int), .int .u8 (a : Int), .int .i64 0, .int .u8 (b : Int), .int .i64 0, v, .slice none 0 0]) w wp wr (.slice A n c) n (flatA (List.replicate n ((q : Int), 0))))
    (h0 : Blk wr g 9 kkS) (h1 : Blk wr (g + 1) 3 #[.int .i64 2]) (h2 : Blk wr (g + 1 + 1) 30 #[.slice (some ⟨g, 0, none⟩) 4 4, .slice (some ⟨g + 1, 0, none⟩) 1 1, .slice none 0 0, .slice none 0 0]) (hg : w.heap.size ≤ g) (w4 : World)
    (hw4 : w4 = ((((wr.setCell ⟨g + 1 + 1, 2, none⟩ (.slice (some ⟨wr.heap.size + 1 + 1 + 1, 0, none⟩) 1 1)).alloc (.cells #[.int .i64 0] 3)).alloc (.cells #[.int .i64 3] 3)).alloc (.cells #[.int .u8 (k : Int), .int .u8 (a : Int), .int .i64 0, .int .u8 (b : Int), .int .i64 0, .slice A n c, .slice none 0 0] 50)).alloc (.cells #[.int .i64 1, .int .i64 (p : Int), .slice (some ⟨wr.heap.size, 0, none⟩) 1 1, .slice (some ⟨wr.heap.size + 1, 0, none⟩) 1 1, .slice (some ⟨wr.heap.size + 1 + 1, 0, none⟩) 1 1] 40)) :
    Below w.heap.size w w4 ∧ MdR w4 (some ⟨g, 0, none⟩) (some ⟨g + 1, 0, none⟩) (some ⟨wr.heap.size + 1 + 1 + 1, 0, none⟩) none (kkM k a b n q p) ∧ Blk w4 (g + 1 + 1) 30 #[.slice (some ⟨g, 0, none⟩) 4 4, .slice (some ⟨g + 1, 0, none⟩) 1 1, .slice (some ⟨wr.heap.size + 1 + 1 + 1, 0, none⟩) 1 1, .slice none 0 0] := by
  have hl := h.le
  have hs : (wr.setCell ⟨g + 1 + 1, 2, none⟩ (.slice (some ⟨wr.heap.size + 1 + 1 + 1, 0, none⟩) 1 1)).heap.size = wr.heap.size := by simp [World.setCell]
  generalize hws : wr.setCell ⟨g + 1 + 1, 2, none⟩ (.slice (some ⟨wr.heap.size + 1 + 1 + 1, 0, none⟩) 1 1) = ws at *
  have hk : ∀ (q' t : Nat) (cs : Array Value), q' ≠ g + 1 + 1 → Blk wr q' t cs → Blk w4 q' t cs := fun q' t cs hq hb => by
    rw [hw4]
    refine Blk.alloc (Blk.alloc (Blk.alloc (Blk.alloc ?_ _) _) _) _
    rw [← hws]; exact hb.far hq _
  have e0 := hk _ _ _ (by omega) h0
  have e1 := hk _ _ _ (by omega) h1
  have hA : Blk w4 wr.heap.size 3 #[.int .i64 0] := by
    rw [hw4]; exact (((Blk.new' ws 3 _ _ hs.symm).alloc _).alloc _).alloc _
  have hB : Blk w4 (wr.heap.size + 1) 3 #[.int .i64 3] := by
    rw [hw4]; exact ((Blk.new' _ 3 _ _ (by simp [hs])).alloc _).alloc _
  have hC : Blk w4 (wr.heap.size + 1 + 1) 50 #[.int .u8 (k : Int), .int .u8 (a : Int), .int .i64 0, .int .u8 (b : Int), .int .i64 0, .slice A n c, .slice none 0 0] := by
    rw [hw4]; exact (Blk.new' _ 50 _ _ (by simp [hs])).alloc _
  have hD : Blk w4 (wr.heap.size + 1 + 1 + 1) 40 #[.int .i64 1, .int .i64 (p : Int), .slice (some ⟨wr.heap.size, 0, none⟩) 1 1, .slice (some ⟨wr.heap.size + 1, 0, none⟩) 1 1, .slice (some ⟨wr.heap.size + 1 + 1, 0, none⟩) 1 1] := by
    rw [hw4]; exact Blk.new' _ 40 _ _ (by simp [hs])
  have hM : Blk w4 (g + 1 + 1) 30 #[.slice (some ⟨g, 0, none⟩) 4 4, .slice (some ⟨g + 1, 0, none⟩) 1 1, .slice (some ⟨wr.heap.size + 1 + 1 + 1, 0, none⟩) 1 1, .slice none 0 0] := by
    rw [hw4]
    refine Blk.alloc (Blk.alloc (Blk.alloc (Blk.alloc ?_ _) _) _) _
    rw [← hws]; exact h2.set_ 2 _
  have hO : w4.ownsRow B 46 2 (.slice A n c) n (flatA (List.replicate n ((q : Int), 0))) := by
    rw [hw4]
    refine World.ownsRow.alloc (World.ownsRow.alloc (World.ownsRow.alloc (World.ownsRow.alloc ?_ _) _) _) _
    rw [← hws]
    refine own_blocks h.own (fun q' hq => Below.heap_setCell _ _ _ _ ?_)
    rintro rfl
    exact own_ne h.own h2 (by decide) hq
  refine ⟨?_, ⟨?_, ?_, ?_, ?_⟩, hM⟩
  · rw [hw4]
    have hb0 : Below w.heap.size w ws := by rw [← hws]; exact h.bel.setCell (p := ⟨g + 1 + 1, 2, none⟩) (by show _ ≤ g + 1 + 1; omega) _
    exact (((hb0.alloc (by omega) _).alloc (by simp; omega) _).alloc (by simp; omega) _).alloc (by simp; omega) _
  · exact e0.rd 4 1 _ rfl rfl
  · exact e1.rd 1 1 _ rfl rfl
  · refine fns_blk (f := kkF k a b n q p) (by rw [show (kkF k a b n q p).body.len = 1 from rfl]; exact hD) (hA.rd 1 1 _ rfl rfl) (hB.rd 1 1 _ rfl rfl) ?_
    have ha := (own_args (by simp) hO).any
    exact body_blk (c := 0) hC ha (fun h => by simp [Bd.len] at h)
  · exact RdS.none_ _ _ _
set_option maxHeartbeats 8000000 in
theorem kinds_walk (a0 a1 a2 a3 : Int) (h0 : 0 ≤ a0) (h1 : 0 ≤ a1) (h2 : 0 ≤ a2) (h3 : 0 ≤ a3 ∧ a3 < 256) (w : World) :
    Calls Try.prog 8 #[.int .u8 a0, .int .u8 a1, .int .u8 a2, .int .u8 a3] w fun e w' => e = .returned (.bool true) ∧ Below w.heap.size w w' := by
  obtain ⟨k, hk, hk8⟩ : ∃ k : Nat, a0 % 9 = (k : Int) ∧ k ≤ 8 := ⟨(a0 % 9).toNat, by omega, by omega⟩
  obtain ⟨a, ha, ha4⟩ : ∃ k : Nat, a1 % 5 = (k : Int) ∧ k ≤ 4 := ⟨(a1 % 5).toNat, by omega, by omega⟩
  obtain ⟨b, hb, hb4⟩ : ∃ k : Nat, a2 % 5 = (k : Int) ∧ k ≤ 4 := ⟨(a2 % 5).toNat, by omega, by omega⟩
  obtain ⟨n, hn, hn3⟩ : ∃ k : Nat, a3 % 4 = (k : Int) ∧ k ≤ 3 := ⟨(a3 % 4).toNat, by omega, by omega⟩
  obtain ⟨q0, hq, hq1⟩ : ∃ k : Nat, a3 / 4 % 2 = (k : Int) ∧ k ≤ 1 := ⟨(a3 / 4 % 2).toNat, by omega, by omega⟩
  obtain ⟨p, hp, hp1⟩ : ∃ k : Nat, a3 / 8 % 2 = (k : Int) ∧ k ≤ 1 := ⟨(a3 / 8 % 2).toNat, by omega, by omega⟩
  obtain ⟨q, hqe⟩ : ∃ q, q = 1 + q0 := ⟨_, rfl⟩
  have hqi : 1 + (q0 : Int) = (q : Int) := by omega
  have hqw : IntKind.u8.wrap (1 + (q0 : Int)) = (q : Int) := by rw [wrapu8 _ (by omega)]; omega
  have HCh : Hid (∀ wx (Af : Option Addr) (g : Nat), MdR wx (some ⟨g, 0, none⟩) (some ⟨g + 1, 0, none⟩) Af none (kkM k a b n q p) → Calls Try.prog 18 #[.agg #[.slice (some ⟨g, 0, none⟩) 4 4, .slice (some ⟨g + 1, 0, none⟩) 1 1, .slice Af 1 1, .slice none 0 0]] wx (FaB wx (checkF (kkM k a b n q p)))) := fun wx Af g hx => check_any (kkM k a b n q p) (some ⟨g, 0, none⟩) (some ⟨g + 1, 0, none⟩) Af none 4 1 1 0 wx (kk_wf k a b n q p hn3) hx
  have HRf : Hid (∀ wx (Af : Option Addr) (g : Nat), MdR wx (some ⟨g, 0, none⟩) (some ⟨g + 1, 0, none⟩) Af none (kkM k a b n q p) → Calls Try.prog 22 #[.agg #[.slice (some ⟨g, 0, none⟩) 4 4, .slice (some ⟨g + 1, 0, none⟩) 1 1, .slice Af 1 1, .slice none 0 0]] wx (TriB wx (checkF (kkM k a b n q p)))) := fun wx Af g hx => rcheck_any (kkM k a b n q p) (some ⟨g, 0, none⟩) (some ⟨g + 1, 0, none⟩) Af none 4 1 1 0 wx (kk_wf k a b n q p hn3) hx (kk_low k a b n q p ha4 hb4 (by omega))
  have HZ : Hid ((checkF (kkM k a b n q p)).1 = 0 → checkF (kkM k a b n q p) = (0, -1, -1)) := check_zero _
  have HP := Lib.hid hp
  have HN := Lib.hid hn
  have HQ := Lib.hid (And.intro hq hqw)
  clear hqe hp hn hq hqw hqi
  go_enter Try.func8, Try.ntmps8
  go_wp2_with fail
  refine (awake6_any _).mono ?_
  rintro e w1 ⟨rfl, hb1⟩
  have HB1 := Lib.hid hb1
  have z1 := hb1.size
  clear hb1
  obtain ⟨g, hg⟩ : ∃ g, g = w1.heap.size := ⟨_, rfl⟩
  obtain ⟨w2, hw2⟩ : ∃ w2, w2 = (((w1.alloc (.cells kkS 9)).alloc (.cells #[.int .i64 2] 3)).alloc (.cells #[.slice (some ⟨w1.heap.size, 0, none⟩) 4 4, .slice (some ⟨w1.heap.size + 1, 0, none⟩) 1 1, .slice none 0 0, .slice none 0 0] 30)).alloc (.cells #[.int .u8 (k : Int), .int .u8 (a : Int), .int .i64 0, .int .u8 (b : Int), .int .i64 0, .slice none 0 0, .slice none 0 0] 50) := ⟨_, rfl⟩
  have HK0 : Hid (Blk w2 g 9 kkS) := by show Blk _ _ _ _; rw [hw2, hg]; exact (((Blk.new w1 9 _).alloc _).alloc _).alloc _
  have HK1 : Hid (Blk w2 (g + 1) 3 #[.int .i64 2]) := by show Blk _ _ _ _; rw [hw2, hg]; exact ((Blk.new' _ 3 _ _ (by simp)).alloc _).alloc _
  have HK2 : Hid (Blk w2 (g + 1 + 1) 30 #[.slice (some ⟨g, 0, none⟩) 4 4, .slice (some ⟨g + 1, 0, none⟩) 1 1, .slice none 0 0, .slice none 0 0]) := by show Blk _ _ _ _; rw [hw2, hg]; exact (Blk.new' _ 30 _ _ (by simp)).alloc _
  have HR : Hid (Rowing w2.heap.size (g + 1 + 1 + 1) 50 5 46 2 (fun v => #[.int .u8 (k : Int), .int .u8 (a : Int), .int .i64 0, .int .u8 (b : Int), .int .i64 0, v, .slice none 0 0]) w w2 w2 (.slice none 0 0) 0 (flatA (List.replicate 0 ((q : Int), 0)))) := by
    have hk : Blk w2 (g + 1 + 1 + 1) 50 #[.int .u8 (k : Int), .int .u8 (a : Int), .int .i64 0, .int .u8 (b : Int), .int .i64 0, .slice none 0 0, .slice none 0 0] := by rw [hw2, hg]; exact Blk.new' _ 50 _ _ (by simp)
    have hB : Below w.heap.size w w2 := by rw [hw2]; exact (((HB1.out.alloc z1 _).alloc (by simp; omega) _).alloc (by simp; omega) _).alloc (by simp; omega) _
    exact ⟨hk, World.ownsRow_nil _ _ _ _, fun _ _ _ => rfl, hB, by omega, hB.size, Nat.le_refl _, hB.size, Nat.le_refl _⟩
  have hwg : w.heap.size ≤ g := by omega
  go_upto_region 5 with (fail)
  simp only [hk, ha, hb]
  rw [← hw2]
  rw [← hg]
  clear hw2 hg z1 HB1 hk ha hb
  have hn := HN.out
  go_wp2_with fail
  go_loopw [11] (fun s11 wr => ∃ (i : Nat) (A : Option Addr) (c : Nat), i ≤ n ∧ s11 = .int .i64 (i : Int) ∧ Hid (Rowing w2.heap.size (g + 1 + 1 + 1) 50 5 46 2 (fun v => #[.int .u8 (k : Int), .int .u8 (a : Int), .int .i64 0, .int .u8 (b : Int), .int .i64 0, v, .slice none 0 0]) w w2 wr (.slice A i c) i (flatA (List.replicate i ((q : Int), 0))))) (fun s11 _ => n - (intOf s11).toNat)
  case atStart => exact ⟨0, none, 0, Nat.zero_le _, rfl, HR⟩
  case round =>
    clear HR
    obtain ⟨i, A, c, hi, rfl, hR⟩ := hrel
    by_cases hlt : i < n
    · have hli : (i : Int) < (n : Int) := by omega
      obtain ⟨hq, hqw⟩ := HQ.out
      obtain ⟨q5, c5, w5, hr5, hc0, hz0, hc5, hf5, hz5, hR5⟩ := hR.out.step 48 16 (.agg #[.int .u8 0, .int .i64 0]) Try.underlying48 info46 rfl (by decide) (by decide) (fun _ _ => rfl) (fun _ => rfl) (by decide) [.int .u8 (q : Int), .int .i64 0] rfl (by intro u hu; simp at hu; rcases hu with rfl | rfl <;> rfl) (w3 := wr) (Below.refl _ _) (by omega)
      have HR5 := hR5
      rw [rep_flat] at HR5
      clear hR5 hR HCh HRf HZ HK0 HK1 HK2
      go_wp2_with (at_builtin; refine Lib.wpList_append_run _ rfl _ _ 48 48 rfl _ _ rfl rfl _ _ hr5 ?_)
      go_roundw
      case rel => exact ⟨i + 1, _, c5, by omega, by go_num, HR5⟩
      case measure => simp [intOf]; omega
    · obtain rfl : i = n := by omega
      have hKp : ∀ (q' t : Nat) (cs : Array Value), q' ≠ g + 1 + 1 + 1 → Blk w2 q' t cs → Blk wr q' t cs := fun q' t cs hq hb => hb.kept (S := fun k => k < w2.heap.size ∧ k ≠ g + 1 + 1 + 1) hR.out.kept ⟨hb.lt, hq⟩
      have E0 := hKp _ _ _ (by omega) HK0.out
      have E1 := hKp _ _ _ (by omega) HK1.out
      have E2 := hKp _ _ _ (by omega) HK2.out
      have hEnd := fun w4 hw4 => kk_end (p := p) hR.out E0 E1 E2 hwg w4 hw4
      obtain ⟨w4, hw4⟩ : ∃ w4, w4 = ((((wr.alloc (.cells #[.int .i64 0] 3)).alloc (.cells #[.int .i64 3] 3)).alloc (.cells #[.int .u8 (k : Int), .int .u8 (a : Int), .int .i64 0, .int .u8 (b : Int), .int .i64 0, .slice A i c, .slice none 0 0] 50)).alloc (.cells #[.int .i64 1, .int .i64 (p : Int), .slice (some ⟨wr.heap.size, 0, none⟩) 1 1, .slice (some ⟨wr.heap.size + 1, 0, none⟩) 1 1, .slice (some ⟨wr.heap.size + 1 + 1, 0, none⟩) 1 1] 40)).setCell ⟨g + 1 + 1, 2, none⟩ (.slice (some ⟨wr.heap.size + 1 + 1 + 1, 0, none⟩) 1 1) := ⟨_, rfl⟩
      have zm : g + 1 + 1 < wr.heap.size := E2.lt
      have hw4i : w4 = ((((wr.setCell ⟨g + 1 + 1, 2, none⟩ (.slice (some ⟨wr.heap.size + 1 + 1 + 1, 0, none⟩) 1 1)).alloc (.cells #[.int .i64 0] 3)).alloc (.cells #[.int .i64 3] 3)).alloc (.cells #[.int .u8 (k : Int), .int .u8 (a : Int), .int .i64 0, .int .u8 (b : Int), .int .i64 0, .slice A i c, .slice none 0 0] 50)).alloc (.cells #[.int .i64 1, .int .i64 (p : Int), .slice (some ⟨wr.heap.size, 0, none⟩) 1 1, .slice (some ⟨wr.heap.size + 1, 0, none⟩) 1 1, .slice (some ⟨wr.heap.size + 1 + 1, 0, none⟩) 1 1] 40) := by
        rw [hw4, World.setCell_alloc_past _ _ _ _ (by simp; omega), World.setCell_alloc_past _ _ _ _ (by simp; omega), World.setCell_alloc_past _ _ _ _ (by simp; omega), World.setCell_alloc_past _ _ _ _ zm]
      obtain ⟨hB4, hM4, hK4⟩ := hEnd w4 hw4i
      have HB4 := Lib.hid hB4
      have HM4 := Lib.hid hM4
      have K4 := Lib.hid hK4
      obtain ⟨K, hK⟩ : ∃ K, K = wr.heap.size + 1 + 1 + 1 := ⟨_, rfl⟩
      rw [← hK] at HM4 K4
      have HC := Lib.hid (fun wx (hx : Below w4.heap.size w4 wx) => HCh.out wx _ g (HM4.out.old hx))
      have HD := Lib.hid (HRf.out w4 _ g HM4.out)
      obtain ⟨s0, s1, s2, s3, s4, s5, s6⟩ := hR.out.box.c7
      have zs : g + 1 + 1 + 1 < wr.heap.size := hR.out.box.lt
      have fm := fun o1 o2 o3 o4 => ((((E2.alloc o1).alloc o2).alloc o3).alloc o4).frozen 2
      have cm : ∀ o1 o2 o3 o4, ((((wr.alloc o1).alloc o2).alloc o3).alloc o4).cell? ⟨g + 1 + 1, 2, none⟩ = some (.slice none 0 0) := fun o1 o2 o3 o4 => ((((E2.alloc o1).alloc o2).alloc o3).alloc o4).cell 2
      have hp := HP.out
      have hk1 : (a3 / 8 % 2 : Int) % 2 = (p : Int) := by omega
      have hpw : (a3 / 8) % 2 = (p : Int) := hp
      generalize checkF (kkM k a b i q p) = v at HC HD HZ
      clear hw4i hEnd hB4 hM4 hK4 hKp E0 E1 E2 hR HCh HRf HK0 HK1 HK2 HM4 hlt
      go_upto_region 10 with (fail)
      rw [← hw4]
      clear hw4 hK cm fm zm zs s0 s1 s2 s3 s4 s5 s6 hp hk1 hpw hn
      obtain ⟨m0, m1, m2, m3⟩ := K4.out.c4
      have z1 : g + 1 + 1 < w4.heap.size := K4.out.lt
      go_wp2_with fail
      refine HD.out.mono ?_
      rintro e w5 ⟨rfl, hb5⟩
      have HB5 := Lib.hid (HB4.out.trans (hb5.mono HB4.out.size))
      have K5 := Lib.hid (K4.out.old hb5)
      have HC5 := Lib.hid (HC.out w5 hb5)
      clear hb5 m0 m1 m2 m3 z1 HC HD HB4 K4
      dsimp only
      have hself := told_self v HZ.out
      have HT : Hid (∀ wx, Calls Try.prog 17 #[faultV v.1 v.2.1 v.2.2, .int .i64 v.1, .int .i64 v.2.1, .int .i64 v.2.2] wx (BlB wx true)) := fun wx => by
        have := told_any v.1 v.2.1 v.2.2 v.1 v.2.1 v.2.2 wx
        rw [hself] at this
        exact this
      clear hself HZ
      obtain ⟨x, y, z⟩ := v
      dsimp only at *
      obtain ⟨m0, m1, m2, m3⟩ := K5.out.c4
      have z1 : g + 1 + 1 < w5.heap.size := K5.out.lt
      go_wp2_with fail
      refine HC5.out.mono ?_
      rintro e w6 ⟨rfl, hb6⟩
      have HB6 := Lib.hid (HB5.out.trans (hb6.mono HB5.out.size))
      clear hb6 m0 m1 m2 m3 z1 HC5 K5 HB5
      dsimp only
      go_wp2_with fail
      refine (HT.out _).mono ?_
      rintro e w7 ⟨rfl, hb7⟩
      go_wp2
      go_ret
      exact ⟨rfl, HB6.out.trans (hb7.mono HB6.out.size)⟩
end Go.Proofs.Ytpdebnecfknohaa
