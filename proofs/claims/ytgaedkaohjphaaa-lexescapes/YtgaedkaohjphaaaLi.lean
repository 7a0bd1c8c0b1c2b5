/-
  Lex: New; the document's example.
-/
import Derived.Test.YtgaedkaohjphaaaLh
namespace Go.Proofs.Ytgaedkaohjphaaa
open Go.RowKit
set_option linter.unusedVariables false
set_option linter.unusedSimpArgs false
set_option maxRecDepth 20000

/-- A row of the call's own reads as its bytes. -/
theorem own_src {w : World} {base n : Nat} {v : Value} {p : List UInt8} (h : w.ownsRow base 5 1 v n ((nums p).map (Value.int .u8))) (hl : p.length = n) : ∃ A c, v = .slice A n c ∧ n ≤ c ∧ Src w A n p := by
  rcases h.2 with ⟨rfl, h0⟩ | ⟨q, cap, cur, rfl, h2, hk, h3, h4, h5, h6⟩
  · subst h0
    exact ⟨none, 0, rfl, Nat.le_refl _, hl, fun h => by omega⟩
  · refine ⟨some ⟨q, 0, none⟩, cap, rfl, h3, hl, fun hp => ⟨q, 0, rfl, fun i hi => ?_⟩⟩
    have := h.cells (g := q) rfl i (.int .u8 (p[i].toNat : Int)) (by simp [nums, hi])
    rwa [Go.WideShapes.add_plain] at this
theorem clone_any (A : Option Addr) (n c : Nat) (p : List UInt8) (w : World) (h : Src w A n p) (hn : n ≤ 1000000000) :
    Calls Try.prog 21 #[.slice A n c] w fun e w' => ∃ A' c', e = .returned (.slice A' n c') ∧ n ≤ c' ∧ Src w' A' n p ∧ Below w.heap.size w w' := by
  cases A with
  | none =>
    have h0 : n = 0 := by
      rcases Nat.eq_zero_or_pos n with h0 | h0
      · exact h0
      · obtain ⟨b, o, hA, _⟩ := h.2 h0; cases hA
    subst h0
    refine (Try.bytes_Clone_nil 0 c w).mono ?_
    rintro e w' ⟨rfl, rfl⟩
    exact ⟨none, 0, rfl, Nat.le_refl _, h, Below.refl _ _⟩
  | some a =>
    refine (Try.bytes_Clone_at a n c (nums p) w (by rw [nums_len]; exact h.1) (by omega) (fun i hi => ?_)).mono ?_
    · obtain ⟨b, o, hA, hc⟩ := h.ints (by omega)
      injection hA with hA
      subst hA
      rw [Go.WideShapes.add_plain]
      exact hc i hi
    · rintro e w' ⟨v', rfl, hO, _, hb⟩
      obtain ⟨A', c', rfl, hc, hS⟩ := own_src hO h.1
      exact ⟨A', c', rfl, hc, hS, hb⟩
theorem new_any (A : Option Addr) (n c : Nat) (p : List UInt8) (w : World) (h : Src w A n p) (hn : n ≤ 1000000000) (hg : G0 w) :
    Calls Try.prog 11 #[.slice A n c] w fun e w' => ∃ q A' c', e = .returned (.pointer (some ⟨q, 0, none⟩)) ∧ w.heap.size ≤ q ∧ LexR w' q A' n c' p 0 ∧ Below w.heap.size w w' := by
  have HC := Lib.hid (clone_any A n c p w h hn)
  have HG := Lib.hid hg
  clear h hg
  go_enter Try.func11, Try.ntmps11
  go_wp2_with fail
  refine HC.out.mono ?_
  rintro e w2 ⟨A', c', rfl, hc, hS, hb⟩
  have HS := Lib.hid hS
  have HB := Lib.hid hb
  clear hS hb HC
  go_wp2
  go_ret
  have hA : Below w2.heap.size w2 (w2.alloc (.cells #[.slice A' n c', .int .i64 0] 52)) := (Below.refl _ _).alloc (Nat.le_refl _) _
  exact ⟨w2.heap.size, A', c', rfl, HB.out.size, ⟨Blk.new w2 52 _, HS.out.old hA, hc, hn, Nat.zero_le _, (HG.out.old HB.out).old hA⟩, HB.out.trans (hA.mono HB.out.size)⟩
def exB : List UInt8 := [37, 34, 97, 32, 98, 34]
theorem ex_next : nextF exB 0 = (⟨2, 37, [97, 32, 98], 0⟩, 0, 0, 6) := by kernel_rfl
/-- What a call that answers a truth leaves. -/
def BlB (w : World) (v : Bool) (e : Ending) (w' : World) : Prop := e = .returned (.bool v) ∧ Below w.heap.size w w'
set_option maxHeartbeats 4000000 in
theorem awake_any (w : World) (hg : G0 w) : Calls Try.prog 10 #[] w (BlB w true) := by
  have kc := fun (w : World) (C : Array Value) (n c : Nat) => Lib.run_convert_bytes_const (P := Try.prog) w 22 5 C n c Try.underlying22 Try.underlying5
  obtain ⟨w1, hw1⟩ : ∃ w1, w1 = w.alloc (.cells #[.int .u8 37, .int .u8 34, .int .u8 97, .int .u8 32, .int .u8 98, .int .u8 34] 5 (6, 7)) := ⟨_, rfl⟩
  have HB1 : Hid (Below w.heap.size w w1) := by rw [hw1]; exact (Below.refl _ _).alloc (Nat.le_refl _) _
  have HS1 : Hid (Src w1 (some ⟨w.heap.size, 0, none⟩) 6 exB) := by
    refine ⟨rfl, fun _ => ⟨w.heap.size, 0, rfl, fun i hi => ?_⟩⟩
    rw [hw1, cell_of_row _ w.heap.size _ _ 5 (6, 7) (heap_alloc_new w _), Nat.zero_add]
    have hi6 : i < 6 := hi
    rcases (show i = 0 ∨ i = 1 ∨ i = 2 ∨ i = 3 ∨ i = 4 ∨ i = 5 by omega) with rfl | rfl | rfl | rfl | rfl | rfl <;> rfl
  have HNw := Lib.hid (new_any (some ⟨w.heap.size, 0, none⟩) 6 6 exB w1 HS1.out (by omega) (hg.old HB1.out))
  clear hg
  go_enter Try.func10, Try.ntmps10
  go_wp2_with fail
  rw [← hw1]
  refine HNw.out.mono ?_
  rintro e w2 ⟨q, A', c', rfl, hq, hL, hb⟩
  have HN := next_any w1.heap.size q A' 6 c' 0 exB w2 hL hq
  rw [ex_next] at HN
  have HN := Lib.hid HN
  have HB2 := Lib.hid (HB1.out.trans (hb.mono HB1.out.size))
  have z2 := hb.size
  clear hL hb HNw HS1
  go_wp2_with fail
  refine HN.out.mono ?_
  rintro e w3 ⟨rfl, hb3, _, _⟩
  have hbf := HB2.out.trans (hb3.mono HB1.out.size)
  clear HN hb3
  simp only [Tok.cells, show bs [97, 32, 98] = ⟨#[97, 32, 98]⟩ from rfl]
  go_wp2
  go_ret
  exact ⟨rfl, hbf.alloc hbf.size _⟩
end Go.Proofs.Ytgaedkaohjphaaa
