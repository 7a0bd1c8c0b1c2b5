/-
  What coil.Put returns when it is handed nil or a row of the call's own; what the law's example 'awake' returns.
-/
import Derived.Test.YtcafanekckkdoaaNums
import Derived.Test.YtcafanekckkdoaaLen
import Derived.Test.YtcafanekckkdoaaEnc
import Derived.Lib.Hide
import Derived.Maps.AppendAt
namespace Go.Proofs.Ytcafanekckkdoaa
open Go.RowKit

theorem info5 : (Try.prog.info? 5).map (fun i => (i.zero, i.size, i.bytes)) = some (some (.int .u8 0), 1, 1) := by kernel_rfl

theorem B_one (l : List Nat) : ∀ u ∈ l.map B, u.oneCell' = true := by
  intro u hu
  simp [B] at hu
  obtain ⟨x, _, rfl⟩ := hu
  rfl

theorem or_128 (m : Nat) : bits .or .u8 ((m : Int) % 128) 128 = (m : Int) % 128 + 128 := by
  have h := u8_or_nat (m % 128) 128 (by omega) (by omega)
  have e : (m % 128) ||| 128 = m % 128 + 128 := by
    have := Nat.shiftLeft_add_eq_or_of_lt (show m % 128 < 2 ^ 7 by omega) 1
    rw [show (1 : Nat) <<< 7 = 128 from rfl] at this
    rw [Nat.or_comm, ← this]; omega
  rw [e] at h
  rw [show ((m % 128 : Nat) : Int) = (m : Int) % 128 from by omega, show ((128 : Nat) : Int) = 128 from rfl] at h
  rw [h]; omega
theorem cells_drop (w : World) (A : Array Value) (a : Nat) (xs : List Value) (h : A.toList.drop a = xs) :
    ∀ j u, xs[j]? = some u → (w.alloc (.cells A 52)).cell? ((⟨w.heap.size, a, none⟩ : Addr).add j) = some u := by
  intro j u hj
  rw [← h, List.getElem?_drop] at hj
  have hp : (⟨w.heap.size, a, none⟩ : Addr).add j = ⟨w.heap.size, a + j, none⟩ := by unfold Addr.add; split <;> simp_all
  rw [hp]
  simpa [World.cell?_alloc_at] using hj

theorem alen : Try.prog.arrayLen 52 = 10 := by kernel_rfl
theorem elem52 : Try.prog.elem 52 = 5 := by kernel_rfl
theorem slice_laid (b : Nat) (a : Nat) (h : a < 10) (W : World) : (Instr.sliceAt 52 (.pointer (some ⟨b, 0, none⟩)) (some (.int .i64 (a : Int))) none none).run Try.prog W = .ok (.slice (some ⟨b, a, none⟩) (10 - a) (10 - a)) W := by
  obtain ⟨i0, hi0, hz0, hz1, hz2⟩ := info_parts info5
  rw [run_sliceAt_array_l W 52 _ (by rw [alen, elem52]; exact Try.underlying52) .i64 a (by omega) (by rw [alen]; omega), alen, elem52]
  simp [sizeOf, typeInfo, hi0, hz1, slicedAt, show ¬ (10 = a) from by omega]
  unfold Addr.add
  split <;> simp_all

/-- What an append of the bytes 'ys' to a row of the call's own leaves. -/
def Added (base k : Nat) (xs ys : List Value) (v : Value) (w : World) (e : Ending) (w' : World) : Prop :=
  ∃ v', e = .returned v' ∧ w'.ownsRow base 5 1 v' (k + ys.length) (xs ++ ys) ∧ w.grownBy w' v.ownBlock ∧ (v'.ownBlock = v.ownBlock ∨ ∃ g, v'.ownBlock = some g ∧ w.heap.size ≤ g)

set_option maxHeartbeats 400000 in
theorem put_own (v : Value) (n : Nat) (w : World) (hn : n < 18446744073709551616) (base k : Nat) (xs : List Value) (hown : w.ownsRow base 5 1 v k xs) (hk : k ≤ 1048576000) (hbase : base ≤ w.heap.size) :
    Calls Try.prog 11 #[v, .int .u64 n] w (Added base k xs ((put n).map B) v w) := by
  obtain ⟨i0, hi0, hz0, hz1, hz2⟩ := info_parts info5
  have hb : bits .and .u64 n 127 = n % 128 := and_127 n (by omega) (by omega)
  have hst := PutAt.start n hn
  have H := Lib.hid hst
  have Hn := Lib.hid hn
  have Hown := Lib.hid hown
  clear hst hn hown
  go_enter Try.func11, Try.ntmps11
  go_wp2
  clear hb
  go_loopw [1, 6] (fun vn va wr => ∃ m a : Nat, ∃ A : Array Value, Hid (PutAt n m a A) ∧ vn = .int .u64 m ∧ va = .int .i64 a ∧ wr = w.alloc (.cells A 52)) (fun vn _ _ => (intOf vn).toNat)
  case atStart => exact ⟨n / 128, 9, _, H, rfl, rfl, rfl⟩
  case round =>
    obtain ⟨m, a, A, hP, rfl, rfl, rfl⟩ := hrel
    by_cases hm : 0 < m
    · have ha := hP.out.pos hm
      have ha2 := hP.out.2.1
      have hN := Lib.hid (hP.out.next hm)
      have hc : ∃ x, A[a - 1]? = some x := ⟨A[a - 1]'(by have := hP.out.1; omega), by simp⟩
      obtain ⟨x, hc⟩ := hc
      have hlt : m < 18446744073709551616 := hP.out.lt
      have hb : bits .and .u64 m 127 % 256 = m % 128 := by rw [and_127 m (by omega) (by omega)]; omega
      have hb2 := or_128 m
      clear hlt
      go_wp2
      go_roundw
      case rel => exact ⟨m / 128, a - 1, _, hN, by go_num, by go_num, rfl⟩
      case measure => simp [intOf]; omega
    · obtain rfl : m = 0 := by omega
      obtain ⟨hd, hlen, ha⟩ := hP.out.last
      have hpl := put_len n Hn.out
      have Hd := Lib.hid hd
      have Hlen := Lib.hid hlen
      have hc := cells_drop w A a _ hd
      clear hd hlen
      have hsl := slice_laid w.heap.size a ha
      go_wp2_with (at_builtin; refine wpList_append_own_at _ rfl _ _ 22 rfl base 5 i0 (.int .u8 0) 1 1 Try.underlying22 hi0 hz0 hz1 hz2 rfl (by decide) v k xs rfl (Hown.out.alloc _) ⟨w.heap.size, a, none⟩ (10 - a) (10 - a) ((put n).map B) rfl ?c1 ?c2 ?c3 ?c4 ?c5 ?c6 ?_)
      case c1 => simp [Hlen.out]
      case c2 => exact hc
      case c3 => exact B_one _
      case c4 => unfold maxLen; omega
      case c5 => omega
      case c6 => simp; omega
      intro v' w1 hown' hg _ hat
      go_wp2
      go_ret
      refine ⟨v', rfl, by simpa [Hlen.out] using hown', (World.grownBy_alloc w _ _).trans hg, ?_⟩
      rcases hat with h | h
      · exact .inl h
      · exact .inr ⟨_, h, by omega⟩

theorem put_own_int (v : Value) (x : Int) (w : World) (h0 : 0 ≤ x) (hn : x < 18446744073709551616) (base k : Nat) (xs : List Value) (hown : w.ownsRow base 5 1 v k xs) (hk : k ≤ 1048576000) (hbase : base ≤ w.heap.size) :
    Calls Try.prog 11 #[v, .int .u64 x] w (Added base k xs ((put x.toNat).map B) v w) := by
  obtain ⟨n, rfl⟩ := Int.eq_ofNat_of_zero_le h0
  exact put_own v n w (by omega) base k xs hown hk hbase

/-- Bytes as a string. -/
def str (l : List Nat) : ByteArray := ⟨(l.map UInt8.ofNat).toArray⟩

theorem str_eq (l : List Nat) : strOfNums (l.map (fun x : Nat => (x : Int))) = str l := by
  apply ByteArray.ext
  apply Array.toList_inj.1
  rw [strOfNums_data]
  simp [str]

theorem conv_own {w : World} {base k : Nat} {v : Value} {l : List Nat} (h : w.ownsRow base 5 1 v k (l.map B)) : (convert 22 9 v).run Try.prog w = .ok (.string (str l)) w := by
  have hl : l.length = k := by simpa using h.1
  rcases h.2 with ⟨rfl, rfl⟩ | ⟨g, cap, cur, rfl, _, hh, hc, _, hs, ht⟩
  · have : l = [] := List.eq_nil_of_length_eq_zero hl
    subst this
    exact run_convert_bytes_nil w 22 5 Try.underlying22 Try.underlying5 0 0 9 Try.underlying9
  · rw [← str_eq]
    refine run_convert_bytes_arg w 22 5 Try.underlying22 Try.underlying5 g 0 k cap _ (by simpa using hl) (fun i hi => ?_) 9 Try.underlying9
    have hc := h.cells (g := g) rfl i (B (l.getD i 0)) (by simp [List.getD, show i < l.length by omega])
    have hp : (⟨g, 0, none⟩ : Addr).add i = ⟨g, 0 + i, none⟩ := by unfold Addr.add; split <;> simp_all
    rw [hp] at hc
    rw [hc]
    simp [B, List.getD, show i < l.length by omega]

theorem str_toList (l : List Nat) : (str l).toList = l.map UInt8.ofNat := by
  rw [ByteArray.toList_eq]; rfl
theorem put_300 : put 300 = [130, 44] := by simp [put, hi]

set_option maxHeartbeats 400000 in
theorem awake_any (w : World) : Calls Try.prog 10 #[] w fun e w' => e = .returned (.bool true) ∧ Below w.heap.size w w' := by
  go_enter Try.func10, Try.ntmps10
  go_wp2_with fail
  refine (put_own_int _ _ _ (by omega) (by omega) w.heap.size 0 [] (World.ownsRow_nil _ _ _ _) (by omega) (Nat.le_refl _)).mono ?_
  rintro e w1 ⟨v, rfl, hown, hg, _⟩
  have hc := conv_own hown
  have hb : Below w.heap.size w w1 := (Below.refl _ _).grown hg (Nat.le_refl _) (by simp [Value.ownBlock])
  have HB := Lib.hid hb
  clear hown hg hb
  go_wp2
  go_ret
  refine ⟨?_, HB⟩
  have e : ((str (put 300)).toList == [130, 44]) = true := by rw [put_300, str_toList]; rfl
  show Ending.returned (.bool ((str (put 300)).toList == [130, 44])) = _
  rw [e]
end Go.Proofs.Ytcafanekckkdoaa
