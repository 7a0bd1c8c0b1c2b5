/-
  Canon: All, Clone of a string, a row of strings sorted.
-/
import Derived.Test.YtpdebnecfknohaaXb
import Derived.Test.YtpdebnecfknohaaShelf
import Derived.Test.YtpdebnecfknohaaCk
import Derived.Sort.OwnSorted
namespace Go.Proofs.Ytpdebnecfknohaa
open Go.RowKit Go.Maps
set_option linter.unusedVariables false
set_option linter.unusedSimpArgs false
set_option maxRecDepth 20000
theorem all_nil (w : World) : Calls Try.prog 31 #[.pointer none] w fun e w' => e = .returned (.slice none 0 0) ∧ w = w' := by
  go_enter Try.func31, Try.ntmps31
  go_wp2
  go_ret
  exact ⟨rfl, rfl⟩
theorem rds_any {w : World} {base n size e c : Nat} {A : Option Addr} {xs : List Value} (h : w.ownsRow base e size (.slice A n c) n xs) : RdS (fun _ => True) w A n size xs :=
  ⟨(RdS.own h).1, fun hp => by obtain ⟨b, o, hA, _, hc⟩ := (RdS.own h).2 hp; exact ⟨b, o, hA, trivial, hc⟩⟩
theorem all_any (base q : Nat) (l : List (List UInt8)) (w : World) (h : Tab base w q l) (hl : l.length ≤ 1000000) :
    Calls Try.prog 31 #[.pointer (some ⟨q, 0, none⟩)] w fun e w' => ∃ A c, e = .returned (.slice A l.length c) ∧ w'.ownsRow w.heap.size 9 1 (.slice A l.length c) l.length (strV l) ∧ Below w.heap.size w w' := by
  obtain ⟨A, c, mv, h1, h2, _⟩ := h.st
  have hC := cloneStr_any A c l w (rds_any h2) hl
  obtain ⟨n, hn⟩ : ∃ n, n = l.length := ⟨_, rfl⟩
  rw [← hn] at hC h1 ⊢
  obtain ⟨k0, k1⟩ := (show w.cell? ⟨q, 0, none⟩ = some (.slice A n c) ∧ w.cell? ⟨q, 1, none⟩ = some mv from ⟨h1.cell 0, h1.cell 1⟩)
  have hz : q < w.heap.size := h1.lt
  have HC := Lib.hid hC
  clear hC h h1 h2 hn
  go_enter Try.func31, Try.ntmps31
  go_wp2_with fail
  refine HC.out.mono ?_
  rintro e w2 ⟨A', c', rfl, hO, hb⟩
  have HO := Lib.hid hO
  have HB := Lib.hid hb
  clear hO hb HC k0 k1
  go_wp2
  go_ret
  exact ⟨A', c', rfl, HO.out, HB.out⟩
theorem strclone_any (x : List UInt8) (w : World) (hx : x.length ≤ 281474976710656) : Calls Try.prog 74 #[.string (bs x)] w fun e w' => e = .returned (.string (bs x)) ∧ Below w.heap.size w w' := by
  have hC := Try.stringslite_Clone (bs x) w (by rw [bs_size]; exact hx)
  generalize bs x = S at *
  have HC := Lib.hid hC
  clear hC
  go_enter Try.func74, Try.ntmps74
  go_wp2_with fail
  refine HC.out.mono ?_
  rintro e w2 ⟨rfl, hb⟩
  have HB := Lib.hid hb
  clear hb
  go_wp2
  go_ret
  exact ⟨rfl, HB.out⟩
theorem strV_enc (l : List (List UInt8)) : strV l = l.map Go.Proofs.encStr := rfl
theorem ssort_any (base n c : Nat) (A : Option Addr) (l : List (List UInt8)) (w : World) (hn : n = l.length) (h : w.ownsRow base 9 1 (.slice A n c) n (strV l)) (hl : n ≤ 1000000) :
    Calls Try.prog 73 #[.slice A n c] w fun e w' => e = .returned (.tuple #[]) ∧ w'.ownsRow base 9 1 (.slice A n c) n (strV (srtF l)) ∧ w.grownBy w' (Value.slice A n c).ownBlock := by
  subst hn
  rcases h.2 with ⟨hv, hn⟩ | ⟨g, cap, cur, hv, hb, hg, hc, hm, hs, ht⟩
  · injection hv with h1 h2 h3
    subst h1 h3
    have : l = [] := List.eq_nil_of_length_eq_zero hn
    subst this
    refine (Try.slices_Sort_string_none none 0 w).mono ?_
    rintro e w' ⟨rfl, rfl⟩
    exact ⟨rfl, by rw [show srtF [] = [] from by simp [srtF]]; exact h, World.grownBy.refl _ _⟩
  · injection hv with h1 h2 h3
    subst h1 h3
    have ht2 : cur.toList.take l.length = l.map Go.Proofs.encStr := by rw [Nat.mul_one] at ht; exact ht
    refine (Try.slices_Sort_string g 0 c l w (holds_of_block hg ht2) (heap_ltM hg) (by omega)).mono ?_
    rintro e w' ⟨rfl, n, os, rfl⟩
    refine ⟨rfl, ?_, grownBy_sorted _⟩
    exact ownsRow_sorted (n := n) (os := os) (ss := l) (ts := l.mergeSort (fun x y => decide (x ≤ y))) (List.length_mergeSort _) hb hg hc hm hs
end Go.Proofs.Ytpdebnecfknohaa
