/-
  How a set lies in memory; what bitOf, list, the closure of find, sort.Search, find and Has return.
-/
import Derived.Test.YtkkkglmjipnfaaaDoorChecked
import Derived.Test.YtkkkglmjipnfaaaDoorPM
import Derived.WalkKit
import Derived.WalkLawsBesides
import Derived.Lib.Hide
import Derived.Below
import Derived.IntWalk
import Derived.Laws.OwnMore
import Derived.Laws.Rows
import Derived.Deep.QuietTactic
import Derived.BigQuiet
import Derived.Deep.LoopGhost
namespace Go.Proofs.YtkkkglmjipnfaaaDoor
open Go.RowKit
set_option linter.unusedVariables false

theorem i64_and63 (n : Int) : bits .and .i64 n 63 = n % 64 := by
  have h63 : (BitVec.ofInt 64 63).toNat = 2 ^ 6 - 1 := by decide
  have key : (BitVec.ofInt 64 n &&& BitVec.ofInt 64 63).toNat = (n % ((2 ^ 64 : Nat) : Int)).toNat % 2 ^ 6 := by
    rw [BitVec.toNat_and, BitVec.toNat_ofInt, h63, Nat.and_two_pow_sub_one_eq_mod]
  show IntKind.i64.wrap ((BitVec.ofInt 64 n &&& BitVec.ofInt 64 63).toNat : Nat) = n % 64
  rw [key, IntKind.wrap_i64]
  omega
theorem u64_pow (k : Nat) (h : k < 64) : IntKind.u64.wrap ((2 : Int) ^ k) = ((2 ^ k : Nat) : Int) := by
  rw [IntKind.wrap_u64]
  have h1 : 2 ^ k < 18446744073709551616 := Nat.lt_of_lt_of_eq (Nat.pow_lt_pow_right (by decide) h) (show (2 : Nat) ^ 64 = 18446744073709551616 by decide)
  have h2 : ((2 ^ k : Nat) : Int) = (2 : Int) ^ k := by simp
  rw [← h2]
  generalize (2 : Nat) ^ k = x at h1 ⊢
  omega
set_option maxHeartbeats 400000 in
theorem bitof_any (n : Int) (w : World) (h1 : -9223372036854775808 ≤ n) (h2 : n ≤ 9223372036854775807) :
    Calls Tryd.prog 23 #[.int .i64 n] w fun e w' => e = .returned (.tuple #[.int .i64 (n / 64), .int .u64 ((2 ^ (n % 64).toNat : Nat) : Int)]) ∧ ∃ k, w' = w.drewN k := by
  have hb := i64_and63 n
  have h0 : 0 ≤ n % 64 := by omega
  have E := Lib.hid (u64_pow (n % 64).toNat (by omega))
  go_enter Tryd.func23, Tryd.ntmps23
  go_wp2_with fail
  go_quiet (fail)
  go_wp2
  go_ret2
  refine ⟨?_, nq, rfl⟩
  rw [← E.out]
  rfl

/-- A slice of blocks that reads so. -/
def BR (w : World) (A : Option Addr) (L : Bks) : Prop := 0 < L.length → ∃ b o, A = some ⟨b, o, none⟩ ∧ ∀ k, k < L.length → w.cell? ⟨b, o + k * 2, none⟩ = some (.int .i64 (L.getD k (0, 0)).1) ∧ w.cell? ⟨b, o + k * 2 + 1, none⟩ = some (.int .u64 ((L.getD k (0, 0)).2 : Int))
theorem BR.old {w w' : World} {A : Option Addr} {L : Bks} (h : BR w A L) (hb : Below w.heap.size w w') : BR w' A L := fun hp => by
  obtain ⟨b, o, rfl, hc⟩ := h hp
  refine ⟨b, o, rfl, fun k hk => ⟨?_, ?_⟩⟩
  · exact (World.cell?_of_block (hb.block b (World.block_lt_of_cell? w ⟨b, o + k * 2, none⟩ (hc k hk).1))).trans (hc k hk).1
  · exact (World.cell?_of_block (hb.block b (World.block_lt_of_cell? w ⟨b, o + k * 2, none⟩ (hc k hk).1))).trans (hc k hk).2
theorem below_drewN {B : Nat} {a w : World} (h : Below B a w) (n : Nat) : Below B a (w.drewN n) := ⟨h.os, h.tape, h.output, h.size, h.block⟩

set_option maxHeartbeats 400000 in
theorem clo_any (i : Nat) (b o c len : Nat) (a v : Int) (w : World) (g1 g2 : Nat) (h1 : w.cell? ⟨g1, 0, none⟩ = some (.slice (some ⟨b, o, none⟩) len c)) (h2 : w.cell? ⟨g2, 0, none⟩ = some (.int .i64 a))
    (hi : i < len) (hv : w.cell? ⟨b, o + i * 2, none⟩ = some (.int .i64 v)) :
    Calls Tryd.prog 37 #[.int .i64 i, .pointer (some ⟨g1, 0, none⟩), .pointer (some ⟨g2, 0, none⟩)] w fun e w' => e = .returned (.bool (decide (a ≤ v))) ∧ ∃ k, w' = w.drewN k := by
  have hii : (i : Int) < (len : Int) := by omega
  go_enter Tryd.func37, Tryd.ntmps37
  go_wp2_with fail
  go_quiet (fail)
  go_wp2
  go_ret
  exact ⟨rfl, nq, rfl⟩

def SearchPost (n : Nat) (p : Nat → Bool) (w : World) (e : Ending) (w' : World) : Prop :=
  ∃ r : Nat, e = .returned (.int .i64 r) ∧ r ≤ n ∧ (∀ t, t < r → p t = false) ∧ (∀ t, r ≤ t → t < n → p t = true) ∧ ∃ k, w' = w.drewN k

set_option maxRecDepth 20000 in
set_option maxHeartbeats 1000000 in
theorem search_any (n g1 g2 : Nat) (p : Nat → Bool) (w : World) (hn : n ≤ 1048576000)
    (hf : ∀ i, i < n → ∀ m, Calls Tryd.prog 37 #[.int .i64 i, .pointer (some ⟨g1, 0, none⟩), .pointer (some ⟨g2, 0, none⟩)] (w.drewN m) fun e w' => e = .returned (.bool (p i)) ∧ ∃ k, w' = (w.drewN m).drewN k)
    (hmono : ∀ a b, a ≤ b → b < n → p a = true → p b = true) :
    Calls Tryd.prog 36 #[.int .i64 n, .func (.func 37) #[] #[.pointer (some ⟨g1, 0, none⟩), .pointer (some ⟨g2, 0, none⟩)]] w (SearchPost n p w) := by
  have HF := Lib.hid hf
  have M := Lib.hid hmono
  clear hf hmono
  go_enter Tryd.func36, Tryd.ntmps36
  go_wp2
  go_loopw [5, 6] (fun s5 s6 wr => ∃ lo hi q : Nat, s5 = .int .i64 lo ∧ s6 = .int .i64 hi ∧ lo ≤ hi ∧ hi ≤ n ∧ Hid (wr = w.drewN q) ∧ Hid ((∀ t, t < lo → p t = false) ∧ (∀ t, hi ≤ t → t < n → p t = true))) (fun s5 s6 _ => (intOf s6).toNat - (intOf s5).toNat)
  case atStart => exact ⟨0, n, 0, rfl, rfl, Nat.zero_le _, Nat.le_refl _, rfl, fun t ht => absurd ht (Nat.not_lt_zero _), fun t h1 h2 => by omega⟩
  case round =>
    obtain ⟨lo, hi, q, rfl, rfl, hlh, hin, hq, I⟩ := hrel
    have hqo := hq.out
    subst hqo
    by_cases hlt : lo < hi
    · have hc := HF.out ((lo + hi) / 2) (by omega) q
      rw [show (((lo + hi) / 2 : Nat) : Int) = ((lo : Int) + (hi : Int)) / 2 by omega] at hc
      cases hp : p ((lo + hi) / 2) <;> rw [hp] at hc
      · have HP := Lib.hid hp
        have HC := Lib.hid hc
        clear hp hc
        go_wp2_with (refine HC.out.mono ?_; rintro e w' ⟨rfl, nq, rfl⟩)
        go_roundw
        case rel =>
          refine ⟨(lo + hi) / 2 + 1, hi, q + nq, by go_num, rfl, by omega, hin, rfl, fun t ht => ?_, I.out.2⟩
          cases h : p t with
          | false => rfl
          | true => have := M.out t ((lo + hi) / 2) (by omega) (by omega) h; rw [HP.out] at this; cases this
        case measure => simp [intOf]; omega
      · have HP := Lib.hid hp
        have HC := Lib.hid hc
        clear hp hc
        go_wp2_with (refine HC.out.mono ?_; rintro e w' ⟨rfl, nq, rfl⟩)
        go_roundw
        case rel =>
          exact ⟨lo, (lo + hi) / 2, q + nq, rfl, by go_num, by omega, by omega, rfl, I.out.1, fun t ht htn => M.out ((lo + hi) / 2) t ht htn HP.out⟩
        case measure => simp [intOf]; omega
    · obtain rfl : lo = hi := by omega
      go_wp2
      go_ret
      exact ⟨lo, rfl, hin, I.out.1, I.out.2, q, rfl⟩

/-- What find leaves. -/
def FindPost (L : Bks) (a : Int) (w : World) (e : Ending) (w' : World) : Prop :=
  ∃ r : Nat, e = .returned (.tuple #[.int .i64 r, .int .u64 (look L a : Int)]) ∧ At L a r ∧ Below w.heap.size w w'

theorem getD_mem {L : Bks} {k : Nat} (h : k < L.length) : L.getD k (0, 0) ∈ L := by simp [List.getD, h]
theorem rising {L : Bks} (hg : Good L) {i j : Nat} (hij : i ≤ j) (hj : j < L.length) : (L.getD i (0, 0)).1 ≤ (L.getD j (0, 0)).1 := by
  rcases Nat.lt_or_ge i j with h | h
  · have := List.pairwise_iff_getElem.1 hg.1 i j (by omega) hj h
    simp [List.getD, show i < L.length by omega, hj]
    omega
  · rw [show i = j from by omega]; exact Int.le_refl _
theorem at_of {L : Bks} {a : Int} {r : Nat} (hr : r ≤ L.length) (h1 : ∀ t, t < r → decide (a ≤ (L.getD t (0, 0)).1) = false) (h2 : ∀ t, r ≤ t → t < L.length → decide (a ≤ (L.getD t (0, 0)).1) = true) : At L a r := by
  refine ⟨hr, fun p hp => ?_, fun p hp => ?_⟩
  · obtain ⟨i, hi, rfl⟩ := List.getElem_of_mem hp
    have hi2 : i < r := by simp at hi; omega
    have := h1 i hi2
    simp [List.getD, show i < L.length by omega] at this
    rw [List.getElem_take]
    exact this
  · obtain ⟨i, hi, rfl⟩ := List.getElem_of_mem hp
    have hi2 : r + i < L.length := by simp at hi; omega
    have := h2 (r + i) (by omega) hi2
    simp [List.getD, hi2] at this
    rw [List.getElem_drop]
    exact this

set_option maxRecDepth 20000 in
set_option maxHeartbeats 1000000 in
theorem find_any (A : Option Addr) (c : Nat) (L : Bks) (a : Int) (w : World) (hg : Good L) (h : BR w A L) (hl : L.length ≤ 1048576000) :
    Calls Tryd.prog 24 #[.slice A L.length c, .int .i64 a] w (FindPost L a w) := by
  have HS := Lib.hid h
  have HG := Lib.hid hg
  clear h hg
  have hb0 : Below w.heap.size w ((w.alloc (.cells #[.slice A L.length c] 25)).alloc (.cells #[.int .i64 a] 3)) := ((Below.refl _ _).alloc (Nat.le_refl _) _).alloc (by simp) _
  have HB0 := Lib.hid hb0
  have hsr := search_any L.length w.heap.size (w.heap.size + 1) (fun t => decide (a ≤ (L.getD t (0, 0)).1)) ((w.alloc (.cells #[.slice A L.length c] 25)).alloc (.cells #[.int .i64 a] 3)) hl
    (fun i hi m => by
      obtain ⟨b, o, rfl, hc⟩ := (HS.out.old hb0) (by omega)
      exact clo_any i b o c L.length a _ _ w.heap.size (w.heap.size + 1) (by simp [World.cell?_drewN]) (by simp [World.cell?_drewN]) hi ((hc i hi).1))
    (fun x y hxy hy hx => by
      have := rising HG.out hxy hy
      simp only [decide_eq_true_eq] at hx ⊢
      omega)
  have HSR := Lib.hid hsr
  clear hsr hb0
  go_enter Tryd.func24, Tryd.ntmps24
  go_wp2_with fail
  refine HSR.out.mono ?_
  rintro e w1 ⟨r, rfl, hr, h1, h2, k, rfl⟩
  have HA := Lib.hid (at_of hr h1 h2)
  clear h1 h2 HSR
  have HB1 := Lib.hid (below_drewN HB0.out k)
  have c1 : (((w.alloc (.cells #[.slice A L.length c] 25)).alloc (.cells #[.int .i64 a] 3)).drewN k).cell? ⟨w.heap.size, 0, none⟩ = some (.slice A L.length c) := by show World.cell? _ _ = _; rw [World.cell?_drewN]; simp
  have c2 : (((w.alloc (.cells #[.slice A L.length c] 25)).alloc (.cells #[.int .i64 a] 3)).drewN k).cell? ⟨w.heap.size + 1, 0, none⟩ = some (.int .i64 a) := by show World.cell? _ _ = _; rw [World.cell?_drewN]; simp
  generalize ((w.alloc (.cells #[.slice A L.length c] 25)).alloc (.cells #[.int .i64 a] 3)).drewN k = w1 at HB1 c1 c2 ⊢
  have HR := Lib.hid (HS.out.old HB1.out)
  clear HS HB0
  by_cases hlt : r < L.length
  · obtain ⟨b, o, rfl, hc⟩ := HR.out (by omega)
    obtain ⟨v1, v2⟩ := hc r hlt
    clear hc
    have hri : (r : Int) < (L.length : Int) := by omega
    have hgd : decide ((r : Int) < (L.length : Int)) = true := by simp; omega
    have hgd' : decide (r < L.length) = true := by simp; omega
    by_cases he : (L.getD r (0, 0)).1 = a
    · have Hlk : Hid (look L a = (L.getD r (0, 0)).2) := by show _ = _; rw [← he]; exact look_of_mem HG.out (getD_mem hlt)
      have heq : ((L.getD r (0, 0)).1 == a) = true := by simpa using he
      clear he
      generalize (L.getD r (0, 0)).1 = p1 at *
      generalize (L.getD r (0, 0)).2 = p2 at *
      go_wp2_with fail
      go_quiet (fail)
      go_wp2_with fail
      go_quiet (fail)
      go_wp2
      go_ret2
      exact ⟨r, by rw [Hlk.out]; rfl, HA.out, below_drewN (below_drewN HB1.out _) _⟩
    · have Hlk : Hid (look L a = 0) := by
        show _ = _
        apply Classical.byContradiction
        intro hne
        obtain ⟨hr2, h3⟩ := HA.out.there HG.out hne
        apply he
        simp [List.getD, hlt, h3]
      have heq : ((L.getD r (0, 0)).1 == a) = false := by simpa using he
      clear he
      generalize (L.getD r (0, 0)).1 = p1 at *
      generalize (L.getD r (0, 0)).2 = p2 at *
      go_wp2_with fail
      go_quiet (fail)
      go_wp2
      go_ret2
      exact ⟨r, by rw [Hlk.out]; rfl, HA.out, below_drewN HB1.out _⟩
  · have Hlk : Hid (look L a = 0) := by
      show _ = _
      apply Classical.byContradiction
      intro hne
      obtain ⟨hr2, h3⟩ := HA.out.there HG.out hne
      omega
    have hgd : decide ((r : Int) < (L.length : Int)) = false := by simp; omega
    have hgd' : decide (r < L.length) = false := by simp; omega
    go_wp2_with fail
    go_quiet (fail)
    go_wp2
    go_ret2
    exact ⟨r, by rw [Hlk.out]; rfl, HA.out, below_drewN HB1.out _⟩
end Go.Proofs.YtkkkglmjipnfaaaDoor
