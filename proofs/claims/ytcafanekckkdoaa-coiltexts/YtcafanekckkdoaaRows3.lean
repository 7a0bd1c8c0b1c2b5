/-
  Small facts that several laws use: slices of integers that came in, what is owned stays owned, the shape of what the reference's Put returns, strings of bytes.
-/
import Derived.Test.YtcafanekckkdoaaRows2
namespace Go.Proofs.Ytcafanekckkdoaa
open Go.RowKit

theorem ints_of_row {k : IntKind} {w : World} {a : Option Addr} {len cap : Nat} {zs : List Int} (h : (a = none ∧ len = 0 ∧ cap = 0 ∧ zs = []) ∨
      ∃ x, a = some x ∧ len ≤ cap ∧ cap ≤ maxLen ∧ zs.length = cap ∧ (∀ i, i < zs.length → w.cell? (x.add i) = some (.int k (zs.getD i 0))) ∧ ∀ n ∈ zs, (Lit.int k n).wf = true) :
    ∃ xs : List Int, xs.length = len ∧ Ints w k a xs ∧ ∀ x ∈ xs, (Lit.int k x).wf = true := by
  rcases h with ⟨rfl, rfl, rfl, rfl⟩ | ⟨x, rfl, h1, h2, h3, h4, h5⟩
  · exact ⟨[], rfl, fun h => by simp at h, by simp⟩
  · refine ⟨zs.take len, by simp; omega, fun hp => ?_, fun y hy => h5 y (List.mem_of_mem_take hy)⟩
    have hp' : 0 < len := by simp at hp; omega
    obtain ⟨b, off, rfl, hc⟩ := ints_at h4 (by omega)
    refine ⟨b, off, rfl, fun i hi => ?_⟩
    have hi' : i < len := by simp at hi; omega
    rw [hc i (by omega)]
    simp [List.getD, List.getElem?_take_of_lt hi']

theorem take_snoc (xs : List Int) (k : Nat) (h : k < xs.length) : xs.take (k + 1) = xs.take k ++ [xs.getD k 0] := by
  rw [List.take_succ_eq_append_getElem h]; simp [h]
theorem drop_cons (xs : List Int) (k : Nat) (h : k < xs.length) : xs.drop k = xs.getD k 0 :: xs.drop (k + 1) := by
  rw [List.drop_eq_getElem_cons h]; simp [h]

theorem str_size (l : List Nat) : (str l).size = l.length := by
  show (l.map UInt8.ofNat).toArray.size = _
  simp
theorem str_append (x y : List Nat) : str x ++ str y = str (x ++ y) := by
  apply ByteArray.ext
  apply Array.toList_inj.1
  simp [str]

theorem rput_shape (n : Nat) (w : World) (hn : n < 18446744073709551616) : Calls Try.prog 14 #[.int .u64 n] w fun e w' => ∃ A c, e = .returned (.slice A (put n).length c) ∧ w'.ownsRow w.heap.size 5 1 (.slice A (put n).length c) (put n).length ((put n).map B) ∧ Below w.heap.size w w' := by
  refine (rput_any n w hn).mono ?_
  rintro e w' ⟨v, rfl, h, hb⟩
  obtain ⟨A, c, hv, _⟩ := Src.own h
  exact ⟨A, c, congrArg Ending.returned hv, hv ▸ h, hb⟩

theorem own_old {w w' : World} {base e size : Nat} {v : Value} {n : Nat} {xs : List Value} (h : w.ownsRow base e size v n xs) (hb : Below w.heap.size w w') : w'.ownsRow base e size v n xs := by
  obtain ⟨h1, h2⟩ := h
  refine ⟨h1, ?_⟩
  rcases h2 with h2 | ⟨g, cap, cur, r1, r2, r3, r4⟩
  · exact .inl h2
  · refine .inr ⟨g, cap, cur, r1, r2, ?_, r4⟩
    rw [hb.block g (Blk.lt (t := e) (cs := cur) r3)]
    exact r3

theorem below_drewN {B : Nat} {a w : World} (h : Below B a w) (n : Nat) : Below B a (w.drewN n) := ⟨h.os, h.tape, h.output, h.size, h.block⟩


theorem num_cut (n k : Nat) (hn : n < 18446744073709551616) (hk : k < (put n).length) (q : List Nat) (most : Nat) : numF ((put n ++ q).take k) most = (0, [], 3) := by
  rw [List.take_append_of_le_length (by omega)]
  unfold numF
  rw [first_cut n k hn hk]
  simp
end Go.Proofs.Ytcafanekckkdoaa
