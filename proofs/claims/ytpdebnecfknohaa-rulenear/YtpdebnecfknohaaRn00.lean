/-
  Parts: Bd Va Sb Ef Sw Ss Bk.
-/
import Derived.Test.YtpdebnecfknohaaChecked
import Derived.WalkKit
import Derived.WalkLawsBesides
import Derived.Lib.Hide
import Derived.Below
import Derived.IntWalk
import Derived.Laws.OwnMore
import Derived.Laws.Rows
import Derived.Deep.QuietTactic
import Derived.BigQuiet
import Derived.Deep.LoopGhost
import Derived.Laws.BytesArg
import Derived.Laws.IdiomStrings
import Derived.StillTactics
import Derived.Deep.Cut
import Derived.Maps.AppendAt
import Derived.Lib.AppendZerosOnto
namespace Go.Proofs.Ytpdebnecfknohaa
open Go.RowKit
set_option linter.unusedVariables false
set_option maxRecDepth 20000
/-- A body: none, or a statement (its kind, its references, its arguments, its own body) ahead of a body. -/
inductive Bd where
  | nil : Bd
  | cons (k a1 a2 b1 b2 : Int) (args : List (Int × Int)) (sub rest : Bd) : Bd
def Bd.len : Bd → Nat
  | .nil => 0
  | .cons _ _ _ _ _ _ _ rest => rest.len + 1
def Bd.size : Bd → Nat
  | .nil => 0
  | .cons _ _ _ _ _ _ sub rest => sub.size + rest.size + 1
def Bd.drop : Nat → Bd → Bd
  | 0, b => b
  | n + 1, .nil => .nil
  | n + 1, .cons _ _ _ _ _ _ _ rest => rest.drop n
/-- How many statements are listed. -/
def Bd.cnt : Nat → Bd → Nat
  | _, .nil => 0
  | deep, .cons k _ _ _ _ _ sub rest => 1 + (if k = 7 ∧ deep < 1000 then sub.cnt (deep + 1) else 0) + rest.cnt deep
/-- References in a row. -/
def ArgsAt (w : World) (v : Value) (l : List (Int × Int)) : Prop := ∃ A c, v = .slice A l.length c ∧ (0 < l.length → ∃ b o, A = some ⟨b, o, none⟩ ∧ ∀ i, i < l.length → w.cell? ⟨b, o + i * 2, none⟩ = some (.int .u8 (l.getD i (0, 0)).1) ∧ w.cell? ⟨b, o + i * 2 + 1, none⟩ = some (.int .i64 (l.getD i (0, 0)).2))
/-- Statements from a place on. -/
def BdAt (w : World) : Nat → Nat → Bd → Prop
  | _, _, .nil => True
  | b, o, .cons k a1 a2 b1 b2 args sub rest => (w.cell? ⟨b, o, none⟩ = some (.int .u8 k) ∧ w.cell? ⟨b, o + 1, none⟩ = some (.int .u8 a1) ∧ w.cell? ⟨b, o + 2, none⟩ = some (.int .i64 a2) ∧ w.cell? ⟨b, o + 3, none⟩ = some (.int .u8 b1) ∧ w.cell? ⟨b, o + 4, none⟩ = some (.int .i64 b2)) ∧
      (∃ va, w.cell? ⟨b, o + 5, none⟩ = some va ∧ ArgsAt w va args) ∧
      (∃ A c, w.cell? ⟨b, o + 6, none⟩ = some (.slice A sub.len c) ∧ (0 < sub.len → ∃ b' o', A = some ⟨b', o', none⟩ ∧ BdAt w b' o' sub)) ∧ BdAt w b (o + 7) rest
/-- A slice that reads as a body. -/
def BodyV (w : World) (A : Option Addr) (t : Bd) : Prop := 0 < t.len → ∃ b o, A = some ⟨b, o, none⟩ ∧ BdAt w b o t
theorem cell_old {w w' : World} {B : Nat} (hb : Below B w w') {b o : Nat} {v : Value} (hB : b < B) (h : w.cell? ⟨b, o, none⟩ = some v) : w'.cell? ⟨b, o, none⟩ = some v :=
  (World.cell?_of_block (hb.block b hB)).trans h
theorem ArgsAt.old {w w' : World} {v : Value} {l : List (Int × Int)} (h : ArgsAt w v l) (hb : Below w.heap.size w w') : ArgsAt w' v l := by
  obtain ⟨A, c, hv, h⟩ := h
  refine ⟨A, c, hv, fun hp => ?_⟩
  obtain ⟨b, o, hA, hc⟩ := h hp
  exact ⟨b, o, hA, fun i hi => ⟨cell_old hb (World.block_lt_of_cell? w ⟨b, o + i * 2, none⟩ (hc i hi).1) (hc i hi).1, cell_old hb (World.block_lt_of_cell? w ⟨b, o + i * 2, none⟩ (hc i hi).1) (hc i hi).2⟩⟩
theorem BdAt.old {w w' : World} (hb : Below w.heap.size w w') : ∀ (t : Bd) (b o : Nat), BdAt w b o t → BdAt w' b o t
  | .nil, _, _, _ => trivial
  | .cons k a1 a2 b1 b2 args sub rest, b, o, h => by
    obtain ⟨⟨h1, h2, h3, h4, h5⟩, ⟨va, h6, h7⟩, ⟨A, c, h8, h9⟩, h10⟩ := h
    have hl := World.block_lt_of_cell? w ⟨b, o, none⟩ h1
    refine ⟨⟨cell_old hb hl h1, cell_old hb hl h2, cell_old hb hl h3, cell_old hb hl h4, cell_old hb hl h5⟩, ⟨va, cell_old hb hl h6, h7.old hb⟩, ⟨A, c, cell_old hb hl h8, fun hp => ?_⟩, BdAt.old hb rest b _ h10⟩
    obtain ⟨b', o', hA, h11⟩ := h9 hp
    exact ⟨b', o', hA, BdAt.old hb sub b' o' h11⟩
theorem BodyV.old {w w' : World} {A : Option Addr} {t : Bd} (h : BodyV w A t) (hb : Below w.heap.size w w') : BodyV w' A t := fun hp => by
  obtain ⟨b, o, hA, h1⟩ := h hp
  exact ⟨b, o, hA, BdAt.old hb t b o h1⟩
theorem BdAt.drop {w : World} : ∀ (t : Bd) (b o i : Nat), BdAt w b o t → BdAt w b (o + i * 7) (t.drop i)
  | t, b, o, 0, h => by simpa [Bd.drop] using h
  | .nil, b, o, i + 1, h => by simp [Bd.drop, BdAt]
  | .cons _ _ _ _ _ _ _ rest, b, o, i + 1, h => by
    have := BdAt.drop rest b (o + 7) i h.2.2.2
    rw [show o + (i + 1) * 7 = o + 7 + i * 7 from by omega]
    exact this
theorem Bd.len_drop : ∀ (t : Bd) (i : Nat), (t.drop i).len = t.len - i
  | t, 0 => by simp [Bd.drop]
  | .nil, i + 1 => by simp [Bd.drop, Bd.len]
  | .cons _ _ _ _ _ _ _ rest, i + 1 => by simp [Bd.drop, Bd.len, Bd.len_drop rest i]
theorem Bd.size_drop : ∀ (t : Bd) (i : Nat), (t.drop i).size ≤ t.size
  | t, 0 => by simp [Bd.drop]
  | .nil, i + 1 => by simp [Bd.drop]
  | .cons _ _ _ _ _ _ _ rest, i + 1 => by have := Bd.size_drop rest i; simp [Bd.drop, Bd.size]; omega
theorem Bd.drop_succ : ∀ (t : Bd) (i : Nat) {k a1 a2 b1 b2 args sub rest}, t.drop i = .cons k a1 a2 b1 b2 args sub rest → t.drop (i + 1) = rest
  | t, 0, k, a1, a2, b1, b2, args, sub, rest, h => by simp only [Bd.drop] at h; subst h; rfl
  | .nil, i + 1, k, a1, a2, b1, b2, args, sub, rest, h => by simp [Bd.drop] at h
  | .cons _ _ _ _ _ _ _ r, i + 1, k, a1, a2, b1, b2, args, sub, rest, h => by
    simp only [Bd.drop] at h ⊢
    exact Bd.drop_succ r i h
theorem Bd.drop_cons (t : Bd) (i : Nat) (h : i < t.len) : ∃ k a1 a2 b1 b2 args sub rest, t.drop i = .cons k a1 a2 b1 b2 args sub rest := by
  have := Bd.len_drop t i
  cases hd : t.drop i with
  | nil => rw [hd] at this; simp [Bd.len] at this; omega
  | cons k a1 a2 b1 b2 args sub rest => exact ⟨_, _, _, _, _, _, _, _, rfl⟩
theorem Bd.drop_end (t : Bd) (i : Nat) (h : t.len ≤ i) : t.drop i = .nil := by
  have := Bd.len_drop t i
  cases hd : t.drop i with
  | nil => rfl
  | cons k a1 a2 b1 b2 args sub rest => rw [hd] at this; simp [Bd.len] at this; omega
theorem Bd.cnt_le (t : Bd) : ∀ d, t.cnt d ≤ t.size := by
  induction t with
  | nil => intro d; simp [Bd.cnt]
  | cons k a1 a2 b1 b2 args sub rest ih1 ih2 =>
    intro d
    have h1 := ih1 (d + 1)
    have h2 := ih2 d
    simp only [Bd.cnt, Bd.size]
    split <;> omega
/-- A cell of the call's own that counts. -/
def Ctr (w : World) (g : Nat) (m : Nat) : Prop := w.heap[g]? = some (.cells #[.int .i64 (m : Int)] 3 (0, 0))
theorem Ctr.cell {w : World} {g m : Nat} (h : Ctr w g m) : w.cell? ⟨g, 0, none⟩ = some (.int .i64 (m : Int)) := by rw [cell_of_row w g 0 _ 3 (0, 0) h]; rfl
def stv (k a1 a2 b1 b2 : Int) (va vs : Value) : Value := .agg #[.int .u8 k, .int .u8 a1, .int .i64 a2, .int .u8 b1, .int .i64 b2, va, vs]
theorem heap_ltM {w : World} {g : Nat} {o : Obj} (h : w.heap[g]? = some o) : g < w.heap.size := by
  rcases Nat.lt_or_ge g w.heap.size with h1 | h1
  · exact h1
  · rw [Array.getElem?_eq_none h1] at h; cases h
/-- One block has turned, and there may be new ones. -/
structure Turn (w w' : World) (g : Nat) : Prop where
  os : w'.os = w.os
  tape : w'.tape = w.tape
  output : w'.output = w.output
  size : w.heap.size ≤ w'.heap.size
  block : ∀ k, k < w.heap.size → k ≠ g → w'.heap[k]? = w.heap[k]?
theorem Turn.below {B : Nat} {a w w' : World} {g : Nat} (h : Turn w w' g) (hb : Below B a w) (hg : B ≤ g) (hB : B ≤ w.heap.size) : Below B a w' :=
  ⟨h.os.trans hb.os, h.tape.trans hb.tape, h.output.trans hb.output, Nat.le_trans hb.size h.size, fun k hk => (h.block k (by omega) (by omega)).trans (hb.block k hk)⟩
/-- A statement with nothing in it but its kind, and its body. -/
def Bd.one (k : Int) (sub : Bd) : Bd := .cons k 0 0 0 0 [] sub .nil
theorem BodyV.nil (w : World) (A : Option Addr) : BodyV w A .nil := fun h => by simp [Bd.len] at h
end Go.Proofs.Ytpdebnecfknohaa
namespace Go.Proofs.Ytpdebnecfknohaa
open Go.RowKit
set_option linter.unusedVariables false
set_option maxRecDepth 20000
/-- A variable of a function with so many locals, among so many globals, by a number. -/
def varF (nl ng n : Nat) : Int × Int := if n % (nl + ng) < nl then (1, ((n % (nl + ng) : Nat) : Int)) else (2, ((n % (nl + ng) : Nat) : Int) - (nl : Int))
set_option maxRecDepth 20000 in
set_option maxHeartbeats 1000000 in
theorem variables_any (m0 m2 m3 f0 f1 f3 f4 : Value) (Ag Al : Option Addr) (ng cg nl cl n : Nat) (w : World) (hn : n < 256) (hl : nl ≤ 1000000) (hg : ng ≤ 1000000) (hp : 0 < nl + ng) :
    Calls Try.prog 58 #[.agg #[m0, .slice Ag ng cg, m2, m3], .agg #[f0, f1, .slice Al nl cl, f3, f4], .int .u8 (n : Int)] w fun e w' => e = .returned (.agg #[.int .u8 (varF nl ng n).1, .int .i64 (varF nl ng n).2]) ∧ Below w.heap.size w w' := by
  have hk : ((n : Int).tmod ((nl : Int) + (ng : Int))) = ((n % (nl + ng) : Nat) : Int) := by rw [Int.tmod_eq_emod_of_nonneg (by omega)]; simp
  have hlt : n % (nl + ng) < nl + ng := Nat.mod_lt _ hp
  have HV : Hid (varF nl ng n = if n % (nl + ng) < nl then (1, ((n % (nl + ng) : Nat) : Int)) else (2, ((n % (nl + ng) : Nat) : Int) - (nl : Int))) := rfl
  have hz : ((nl : Int) + (ng : Int) == 0) = false := by simp; omega
  generalize n % (nl + ng) = k at *
  generalize varF nl ng n = r at *
  by_cases h : k < nl
  · have h1 := HV.out
    rw [if_pos h] at h1
    subst h1
    clear HV
    go_enter Try.func58, Try.ntmps58
    go_wp2
    exact bodyPost_ret (v := .agg #[.int .u8 1, .int .i64 (k : Int)]) (by simp [results, Try.results58, go_sem]) rfl ⟨rfl, (((Below.refl _ _).alloc (Nat.le_refl _) _).alloc (by simp) _).alloc (by simp; omega) _⟩
  · have h1 := HV.out
    rw [if_neg h] at h1
    subst h1
    clear HV
    go_enter Try.func58, Try.ntmps58
    go_wp2
    exact bodyPost_ret (v := .agg #[.int .u8 2, .int .i64 ((k : Int) - (nl : Int))]) (by simp [results, Try.results58, go_sem]) rfl ⟨rfl, (((Below.refl _ _).alloc (Nat.le_refl _) _).alloc (by simp) _).alloc (by simp; omega) _⟩
/-- A name by a number. -/
def nameF (n : Nat) : List UInt8 :=
  if n % 6 = 1 then [110, UInt8.ofNat (97 + n / 6 % 26), 46, 120]
  else if n % 6 = 3 then [97, 32, 34, UInt8.ofNat (48 + n / 6 % 10), 92]
  else if n % 6 = 5 then [UInt8.ofNat (128 + n % 100), 10, UInt8.ofNat (65 + n / 6 % 26)]
  else [118, UInt8.ofNat (97 + n / 2 % 26), UInt8.ofNat (48 + n % 10)]
/-- New bytes as a string. -/
theorem conv_new (w : World) (xs : List Int) (h : ∀ x ∈ xs, 0 ≤ x ∧ x < 256) (o : Array Value) (ho : o = (xs.map (Value.int .u8)).toArray) (n : Nat) (hn : n = xs.length) :
    (convert 53 9 (.slice (some ⟨w.heap.size, 0, none⟩) n n)).run Try.prog (w.alloc (.cells o 5)) = .ok (.string ⟨(xs.map fun x => UInt8.ofNat x.toNat).toArray⟩) (w.alloc (.cells o 5)) := by
  have hl : (xs.map fun x => UInt8.ofNat x.toNat).length = n := by simp [hn]
  have := run_convert_bytes_back (P := Try.prog) (w.alloc (.cells o 5)) 53 9 5 ⟨w.heap.size, 0, none⟩ n (xs.map fun x => UInt8.ofNat x.toNat) Try.underlying53 Try.underlying5 Try.underlying9 (fun j hj => by
    have hj' : j < xs.length := by simpa using hj
    rw [Go.WideShapes.add_plain, cell_of_row _ w.heap.size _ _ 5 (0, 0) (heap_alloc_new w _), Nat.zero_add, ho]
    have hb := h _ (List.getElem_mem hj')
    simp [hj']
    omega)
  rw [hl] at this
  exact this
set_option maxRecDepth 20000 in
set_option maxHeartbeats 1000000 in
theorem name_any (n : Nat) (w : World) (hn : n ≤ 10000) :
    Calls Try.prog 32 #[.int .i64 (n : Int)] w fun e w' => e = .returned (.string ⟨(nameF n).toArray⟩) ∧ Below w.heap.size w w' := by
  by_cases h1 : n % 6 = 1
  · have HF : Hid (nameF n = [110, UInt8.ofNat (97 + (n : Int) / 6 % 26).toNat, 46, 120]) := by
      show _ = _
      unfold nameF
      rw [if_pos h1, show (97 + (n : Int) / 6 % 26).toNat = 97 + n / 6 % 26 from by omega]
    have hi : (n : Int) % 6 = 1 := by omega
    have hc := conv_new w [97 + (n : Int) / 6 % 26] (by simp; omega) _ rfl 1 rfl
    simp only [List.map] at hc
    obtain ⟨S, hS⟩ : ∃ S : ByteArray, S = ⟨#[UInt8.ofNat (97 + (n : Int) / 6 % 26).toNat]⟩ := ⟨_, rfl⟩
    rw [← hS] at hc
    have HS := Lib.hid hS
    have hsz : S.size ≤ 3 := by rw [hS]; show _ ≤ 3; simp [ByteArray.size]
    clear hS
    go_enter Try.func32, Try.ntmps32
    go_wp2
    go_ret
    exact ⟨congrArg Ending.returned (congrArg Value.string (by rw [HF.out, HS.out]; rfl)), (Below.refl _ _).alloc (Nat.le_refl _) _⟩
  by_cases h3 : n % 6 = 3
  · have HF : Hid (nameF n = [97, 32, 34, UInt8.ofNat (48 + (n : Int) / 6 % 10).toNat, 92]) := by
      show _ = _
      unfold nameF
      rw [if_neg h1, if_pos h3, show (48 + (n : Int) / 6 % 10).toNat = 48 + n / 6 % 10 from by omega]
    have hi : (n : Int) % 6 = 3 := by omega
    have hc := conv_new w [48 + (n : Int) / 6 % 10, 92] (by simp; omega) _ rfl 2 rfl
    simp only [List.map] at hc
    obtain ⟨S, hS⟩ : ∃ S : ByteArray, S = ⟨#[UInt8.ofNat (48 + (n : Int) / 6 % 10).toNat, UInt8.ofNat (Int.toNat 92)]⟩ := ⟨_, rfl⟩
    rw [← hS] at hc
    have HS := Lib.hid hS
    have hsz : S.size ≤ 3 := by rw [hS]; show _ ≤ 3; simp [ByteArray.size]
    clear hS
    go_enter Try.func32, Try.ntmps32
    go_wp2
    go_ret
    exact ⟨congrArg Ending.returned (congrArg Value.string (by rw [HF.out, HS.out]; rfl)), (Below.refl _ _).alloc (Nat.le_refl _) _⟩
  by_cases h5 : n % 6 = 5
  · have HF : Hid (nameF n = [UInt8.ofNat (128 + (n : Int) % 100).toNat, 10, UInt8.ofNat (65 + (n : Int) / 6 % 26).toNat]) := by
      show _ = _
      unfold nameF
      rw [if_neg h1, if_neg h3, if_pos h5, show (128 + (n : Int) % 100).toNat = 128 + n % 100 from by omega, show (65 + (n : Int) / 6 % 26).toNat = 65 + n / 6 % 26 from by omega]
    have hi : (n : Int) % 6 = 5 := by omega
    have hc := conv_new w [128 + (n : Int) % 100, 10, 65 + (n : Int) / 6 % 26] (by simp; omega) _ rfl 3 rfl
    simp only [List.map] at hc
    obtain ⟨S, hS⟩ : ∃ S : ByteArray, S = ⟨#[UInt8.ofNat (128 + (n : Int) % 100).toNat, UInt8.ofNat (Int.toNat 10), UInt8.ofNat (65 + (n : Int) / 6 % 26).toNat]⟩ := ⟨_, rfl⟩
    rw [← hS] at hc
    have HS := Lib.hid hS
    have hsz : S.size ≤ 3 := by rw [hS]; show _ ≤ 3; simp [ByteArray.size]
    clear hS
    go_enter Try.func32, Try.ntmps32
    go_wp2
    go_ret
    exact ⟨congrArg Ending.returned (congrArg Value.string (by rw [HF.out, HS.out]; rfl)), (Below.refl _ _).alloc (Nat.le_refl _) _⟩
  · have HF : Hid (nameF n = [118, UInt8.ofNat (97 + (n : Int) / 2 % 26).toNat, UInt8.ofNat (48 + (n : Int) % 10).toNat]) := by
      show _ = _
      unfold nameF
      rw [if_neg h1, if_neg h3, if_neg h5, show (97 + (n : Int) / 2 % 26).toNat = 97 + n / 2 % 26 from by omega, show (48 + (n : Int) % 10).toNat = 48 + n % 10 from by omega]
    have i1 : ((n : Int) % 6 == 1) = false := by simp; omega
    have i3 : ((n : Int) % 6 == 3) = false := by simp; omega
    have i5 : ((n : Int) % 6 == 5) = false := by simp; omega
    have hc := conv_new w [97 + (n : Int) / 2 % 26, 48 + (n : Int) % 10] (by simp; omega) _ rfl 2 rfl
    simp only [List.map] at hc
    obtain ⟨S, hS⟩ : ∃ S : ByteArray, S = ⟨#[UInt8.ofNat (97 + (n : Int) / 2 % 26).toNat, UInt8.ofNat (48 + (n : Int) % 10).toNat]⟩ := ⟨_, rfl⟩
    rw [← hS] at hc
    have HS := Lib.hid hS
    have hsz : S.size ≤ 3 := by rw [hS]; show _ ≤ 3; simp [ByteArray.size]
    clear hS
    go_enter Try.func32, Try.ntmps32
    go_wp2
    go_ret
    exact ⟨congrArg Ending.returned (congrArg Value.string (by rw [HF.out, HS.out]; rfl)), (Below.refl _ _).alloc (Nat.le_refl _) _⟩
end Go.Proofs.Ytpdebnecfknohaa
namespace Go.Proofs.Ytpdebnecfknohaa
open Go.RowKit
set_option linter.unusedVariables false
set_option maxRecDepth 20000
/-- Are two bodies one? -/
def Bd.same : Bd → Bd → Bool
  | .nil, .nil => true
  | .cons k a1 a2 b1 b2 xs s r, .cons k' a1' a2' b1' b2' xs' s' r' => decide (k = k') && decide ((a1, a2) = (a1', a2')) && decide ((b1, b2) = (b1', b2')) && decide (xs = xs') && s.same s' && r.same r'
  | _, _ => false
/-- Are they one, whatever stands in their statements' bodies? -/
def Bd.shal : Bd → Bd → Bool
  | .nil, .nil => true
  | .cons k a1 a2 b1 b2 xs s r, .cons k' a1' a2' b1' b2' xs' s' r' => decide (k = k') && decide ((a1, a2) = (a1', a2')) && decide ((b1, b2) = (b1', b2')) && decide (xs = xs') && r.shal r'
  | _, _ => false
/-- A statement's own cells, but its body. -/
structure StV where
  k : Int
  a1 : Int
  a2 : Int
  b1 : Int
  b2 : Int
  xs : List (Int × Int)
def StV.eq (s t : StV) : Bool := decide (s.k = t.k) && decide ((s.a1, s.a2) = (t.a1, t.a2)) && decide ((s.b1, s.b2) = (t.b1, t.b2)) && decide (s.xs = t.xs)
end Go.Proofs.Ytpdebnecfknohaa
namespace Go.Proofs.Ytpdebnecfknohaa
open Go.RowKit
set_option linter.unusedVariables false
set_option maxRecDepth 20000
theorem Bd.len_le : ∀ t : Bd, t.len ≤ t.size
  | .nil => Nat.le_refl _
  | .cons _ _ _ _ _ _ s r => by have := Bd.len_le r; simp only [Bd.len, Bd.size]; omega
/-- The longest row of arguments. -/
def Bd.wide : Bd → Nat
  | .nil => 0
  | .cons _ _ _ _ _ xs s r => xs.length + s.wide + r.wide
theorem Bd.wide_drop : ∀ (t : Bd) (i : Nat), (t.drop i).wide ≤ t.wide
  | t, 0 => by simp [Bd.drop]
  | .nil, i + 1 => by simp [Bd.drop]
  | .cons _ _ _ _ _ _ _ r, i + 1 => by have := Bd.wide_drop r i; simp only [Bd.drop, Bd.wide]; omega
end Go.Proofs.Ytpdebnecfknohaa
namespace Go.Proofs.Ytpdebnecfknohaa
open Go.RowKit
set_option linter.unusedVariables false
set_option maxRecDepth 20000
/-- Two bodies that are to be held against each other, with the slices that say them. -/
structure Pn where
  A : Option Addr
  B : Option Addr
  c : Nat
  d : Nat
  t : Bd
  u : Bd
def flatP : List Pn → List Value
  | [] => []
  | p :: P => .slice p.A p.t.len p.c :: .slice p.B p.u.len p.d :: flatP P
def OKp (w : World) (p : Pn) : Prop := BodyV w p.A p.t ∧ BodyV w p.B p.u ∧ p.t.wide ≤ 1000000000 ∧ p.u.wide ≤ 1000000000
def wtP : List Pn → Nat
  | [] => 0
  | p :: P => p.t.size + p.u.size + 1 + wtP P
def allP (P : List Pn) : Bool := P.all fun p => p.t.same p.u
theorem own_old {w w' : World} {base e size n : Nat} {v : Value} {xs : List Value} (h : w.ownsRow base e size v n xs) (hb : Below w.heap.size w w') : w'.ownsRow base e size v n xs := by
  refine ⟨h.1, ?_⟩
  rcases h.2 with h1 | ⟨k, cap, cur, hv, h2, hk, rest⟩
  · exact .inl h1
  · exact .inr ⟨k, cap, cur, hv, h2, (hb.block k (heap_ltM hk)).trans hk, rest⟩
theorem alloc_sizeM (w : World) (o : Obj) : (w.alloc o).heap.size = w.heap.size + 1 := by simp
end Go.Proofs.Ytpdebnecfknohaa
namespace Go.Proofs.Ytpdebnecfknohaa
open Go.RowKit
set_option linter.unusedVariables false
set_option maxRecDepth 20000
/-- References in a row, in a block of the kind. -/
def ArgsS (S : Nat → Prop) (w : World) (v : Value) (l : List (Int × Int)) : Prop := ∃ A c, v = .slice A l.length c ∧ (0 < l.length → ∃ b o, A = some ⟨b, o, none⟩ ∧ S b ∧ ∀ i, i < l.length → w.cell? ⟨b, o + i * 2, none⟩ = some (.int .u8 (l.getD i (0, 0)).1) ∧ w.cell? ⟨b, o + i * 2 + 1, none⟩ = some (.int .i64 (l.getD i (0, 0)).2))
def BdS (S : Nat → Prop) (w : World) : Nat → Nat → Bd → Prop
  | _, _, .nil => True
  | b, o, .cons k a1 a2 b1 b2 args sub rest => S b ∧ (w.cell? ⟨b, o, none⟩ = some (.int .u8 k) ∧ w.cell? ⟨b, o + 1, none⟩ = some (.int .u8 a1) ∧ w.cell? ⟨b, o + 2, none⟩ = some (.int .i64 a2) ∧ w.cell? ⟨b, o + 3, none⟩ = some (.int .u8 b1) ∧ w.cell? ⟨b, o + 4, none⟩ = some (.int .i64 b2)) ∧
      (∃ va, w.cell? ⟨b, o + 5, none⟩ = some va ∧ ArgsS S w va args) ∧
      (∃ A c, w.cell? ⟨b, o + 6, none⟩ = some (.slice A sub.len c) ∧ (0 < sub.len → ∃ b' o', A = some ⟨b', o', none⟩ ∧ BdS S w b' o' sub)) ∧ BdS S w b (o + 7) rest
def BodyS (S : Nat → Prop) (w : World) (A : Option Addr) (t : Bd) : Prop := 0 < t.len → ∃ b o, A = some ⟨b, o, none⟩ ∧ BdS S w b o t
theorem ArgsS.at_ {S : Nat → Prop} {w : World} {v : Value} {l : List (Int × Int)} (h : ArgsS S w v l) : ArgsAt w v l := by
  obtain ⟨A, c, hv, h⟩ := h
  exact ⟨A, c, hv, fun hp => by obtain ⟨b, o, hA, _, hc⟩ := h hp; exact ⟨b, o, hA, hc⟩⟩
theorem BdS.at_ {S : Nat → Prop} {w : World} : ∀ (t : Bd) (b o : Nat), BdS S w b o t → BdAt w b o t
  | .nil, _, _, _ => trivial
  | .cons k a1 a2 b1 b2 args sub rest, b, o, h => by
    obtain ⟨_, h1, ⟨va, h2, h3⟩, ⟨A, c, h4, h5⟩, h6⟩ := h
    refine ⟨h1, ⟨va, h2, h3.at_⟩, ⟨A, c, h4, fun hp => ?_⟩, BdS.at_ rest b _ h6⟩
    obtain ⟨b', o', hA, h7⟩ := h5 hp
    exact ⟨b', o', hA, BdS.at_ sub b' o' h7⟩
theorem BodyS.at_ {S : Nat → Prop} {w : World} {A : Option Addr} {t : Bd} (h : BodyS S w A t) : BodyV w A t := fun hp => by
  obtain ⟨b, o, hA, h1⟩ := h hp
  exact ⟨b, o, hA, BdS.at_ t b o h1⟩
/-- Blocks of the kind are as they were. -/
def Kept (S : Nat → Prop) (w w' : World) : Prop := ∀ k, S k → k < w.heap.size → w'.heap[k]? = w.heap[k]?
theorem Kept.cell {S : Nat → Prop} {w w' : World} (h : Kept S w w') {b o : Nat} {v : Value} (hS : S b) (hc : w.cell? ⟨b, o, none⟩ = some v) : w'.cell? ⟨b, o, none⟩ = some v :=
  (World.cell?_of_block (h b hS (World.block_lt_of_cell? w ⟨b, o, none⟩ hc))).trans hc
theorem ArgsS.kept {S S' : Nat → Prop} {w w' : World} {v : Value} {l : List (Int × Int)} (h : ArgsS S w v l) (hk : Kept S w w') (hS : ∀ k, S k → k < w.heap.size → S' k) : ArgsS S' w' v l := by
  obtain ⟨A, c, hv, h⟩ := h
  refine ⟨A, c, hv, fun hp => ?_⟩
  obtain ⟨b, o, hA, hb, hc⟩ := h hp
  exact ⟨b, o, hA, hS b hb (World.block_lt_of_cell? w ⟨b, o + 0 * 2, none⟩ (hc 0 hp).1), fun i hi => ⟨hk.cell hb (hc i hi).1, hk.cell hb (hc i hi).2⟩⟩
theorem BdS.kept {S S' : Nat → Prop} {w w' : World} (hk : Kept S w w') (hS : ∀ k, S k → k < w.heap.size → S' k) : ∀ (t : Bd) (b o : Nat), BdS S w b o t → BdS S' w' b o t
  | .nil, _, _, _ => trivial
  | .cons k a1 a2 b1 b2 args sub rest, b, o, h => by
    obtain ⟨hb, ⟨h1, h2, h3, h4, h5⟩, ⟨va, h6, h7⟩, ⟨A, c, h8, h9⟩, h10⟩ := h
    refine ⟨hS b hb (World.block_lt_of_cell? w ⟨b, o, none⟩ h1), ⟨hk.cell hb h1, hk.cell hb h2, hk.cell hb h3, hk.cell hb h4, hk.cell hb h5⟩, ⟨va, hk.cell hb h6, h7.kept hk hS⟩, ⟨A, c, hk.cell hb h8, fun hp => ?_⟩, BdS.kept hk hS rest b _ h10⟩
    obtain ⟨b', o', hA, h11⟩ := h9 hp
    exact ⟨b', o', hA, BdS.kept hk hS sub b' o' h11⟩
theorem BodyS.kept {S S' : Nat → Prop} {w w' : World} {A : Option Addr} {t : Bd} (h : BodyS S w A t) (hk : Kept S w w') (hS : ∀ k, S k → k < w.heap.size → S' k) : BodyS S' w' A t := fun hp => by
  obtain ⟨b, o, hA, h1⟩ := h hp
  exact ⟨b, o, hA, BdS.kept hk hS t b o h1⟩
theorem Below.keptS {S : Nat → Prop} {w w' : World} (h : Below w.heap.size w w') : Kept S w w' := fun k _ hk => h.block k hk
/-- One statement, but where it lies. -/
structure St7 where
  k : Int
  a : Int × Int
  b : Int × Int
  xs : List (Int × Int)
  sub : Bd
/-- A statement by numbers, that is no block: of a function with so many locals and sites, among so many globals and functions, which have so many parameters. -/
def stm0 (nl ng nf ns : Nat) (par : Nat → Nat) (K A B C : Nat) : St7 :=
  if K % 10 = 0 ∨ K % 10 = 1 then ⟨1, varF nl ng A, if C % 4 = 1 then (3, ((B % nf : Nat) : Int)) else if C % 4 = 0 then varF nl ng B else (4, ((B % ns : Nat) : Int)), [], .nil⟩
  else if K % 10 = 2 then ⟨3, varF nl ng A, varF nl ng B, [], .nil⟩
  else if K % 10 = 3 then ⟨4, varF nl ng A, varF nl ng B, [], .nil⟩
  else if K % 10 = 4 then ⟨5, if C % 3 = 0 then (0, 0) else varF nl ng A, (3, ((B % nf : Nat) : Int)), (List.range (par (B % nf))).map fun i => varF nl ng ((A + C + i) % 256), .nil⟩
  else if K % 10 = 5 then ⟨5, if C % 3 = 0 then (0, 0) else varF nl ng A, varF nl ng B, (List.range (C / 4 % 4)).map fun i => varF nl ng ((A + C + i) % 256), .nil⟩
  else if K % 10 = 6 then ⟨6, (0, 0), varF nl ng B, [], .nil⟩
  else ⟨2, varF nl ng A, varF nl ng B, [], .nil⟩
def St7.ahead (s : St7) (r : Bd) : Bd := .cons s.k s.a.1 s.a.2 s.b.1 s.b.2 s.xs s.sub r
def stm (nl ng nf ns : Nat) (par : Nat → Nat) (K A B C : Nat) : St7 :=
  if K % 10 = 7 then (if C % 8 = 7 then ⟨7, (0, 0), (0, 0), [], .nil⟩ else ⟨7, (0, 0), (0, 0), [], (stm0 nl ng nf ns par (C % 8) A B C).ahead ((⟨2, varF nl ng B, varF nl ng A, [], .nil⟩ : St7).ahead .nil)⟩)
  else stm0 nl ng nf ns par K A B C
/-- What the call of statement leaves. -/
def StPost (w : World) (s : St7) (e : Ending) (w' : World) : Prop := ∃ va A c, e = .returned (.agg #[.int .u8 s.k, .int .u8 s.a.1, .int .i64 s.a.2, .int .u8 s.b.1, .int .i64 s.b.2, va, .slice A s.sub.len c]) ∧ ArgsS (fun k => w.heap.size ≤ k) w' va s.xs ∧ BodyS (fun k => w.heap.size ≤ k) w' A s.sub ∧ Below w.heap.size w w'
end Go.Proofs.Ytpdebnecfknohaa
namespace Go.Proofs.Ytpdebnecfknohaa
open Go.RowKit
set_option linter.unusedVariables false
set_option maxRecDepth 20000
def Blk (w : World) (g : Nat) (t : TypeId) (cs : Array Value) : Prop := w.heap[g]? = some (.cells cs t (0, 0))
section
variable {w w' : World} {g : Nat} {t : TypeId} {cs : Array Value}
theorem Blk.lt (h : Blk w g t cs) : g < w.heap.size := heap_ltM h
theorem Blk.cell (h : Blk w g t cs) (i : Nat) : w.cell? ⟨g, i, none⟩ = cs[i]? := cell_of_row w g i cs t (0, 0) h
theorem Blk.frozen (h : Blk w g t cs) (i : Nat) : w.frozen? ⟨g, i, none⟩ = false := by
  unfold Blk at h
  simp [World.frozen?, h]
theorem Blk.new (w : World) (t : TypeId) (cs : Array Value) : Blk (w.alloc (.cells cs t)) w.heap.size t cs := heap_alloc_new w _
theorem Blk.new' (w : World) (t : TypeId) (cs : Array Value) (g : Nat) (h : g = w.heap.size) : Blk (w.alloc (.cells cs t)) g t cs := by subst h; exact heap_alloc_new w _
theorem Blk.alloc (h : Blk w g t cs) (o : Obj) : Blk (w.alloc o) g t cs := (heap_alloc_old w o h.lt).trans h
theorem Blk.below {B : Nat} (h : Blk w g t cs) (hb : Below B w w') (hg : g < B) : Blk w' g t cs := (hb.block g hg).trans h
theorem Blk.old (h : Blk w g t cs) (hb : Below w.heap.size w w') : Blk w' g t cs := h.below hb h.lt
theorem Blk.drew (h : Blk w g t cs) : Blk w.drew g t cs := h
theorem Blk.set_ (h : Blk w g t cs) (i : Nat) (u : Value) : Blk (w.setCell ⟨g, i, none⟩ u) g t (cs.setIfInBounds i u) := by
  unfold Blk at h ⊢
  simp [World.setCell, Array.getElem?_modify, h]
theorem Blk.far (h : Blk w g t cs) {p : Addr} (hp : g ≠ p.block) (u : Value) : Blk (w.setCell p u) g t cs := (Below.heap_setCell w p u g hp).trans h
theorem Blk.grown {row : Option Nat} (h : Blk w g t cs) (hb : w.grownBy w' row) (hg : some g ≠ row) : Blk w' g t cs := (hb.block g h.lt hg).trans h
theorem Blk.kept {S : Nat → Prop} (h : Blk w g t cs) (hk : Kept S w w') (hS : S g) : Blk w' g t cs := (hk g hS h.lt).trans h
theorem Blk.c2 {a b : Value} (h : Blk w g t #[a, b]) : w.cell? ⟨g, 0, none⟩ = some a ∧ w.cell? ⟨g, 1, none⟩ = some b := ⟨h.cell 0, h.cell 1⟩
theorem Blk.c4 {a b c d : Value} (h : Blk w g t #[a, b, c, d]) : w.cell? ⟨g, 0, none⟩ = some a ∧ w.cell? ⟨g, 1, none⟩ = some b ∧ w.cell? ⟨g, 2, none⟩ = some c ∧ w.cell? ⟨g, 3, none⟩ = some d := ⟨h.cell 0, h.cell 1, h.cell 2, h.cell 3⟩
theorem Blk.c5 {a b c d e : Value} (h : Blk w g t #[a, b, c, d, e]) : w.cell? ⟨g, 0, none⟩ = some a ∧ w.cell? ⟨g, 1, none⟩ = some b ∧ w.cell? ⟨g, 2, none⟩ = some c ∧ w.cell? ⟨g, 3, none⟩ = some d ∧ w.cell? ⟨g, 4, none⟩ = some e := ⟨h.cell 0, h.cell 1, h.cell 2, h.cell 3, h.cell 4⟩
theorem Blk.c7 {a b c d e f i : Value} (h : Blk w g t #[a, b, c, d, e, f, i]) : w.cell? ⟨g, 0, none⟩ = some a ∧ w.cell? ⟨g, 1, none⟩ = some b ∧ w.cell? ⟨g, 2, none⟩ = some c ∧ w.cell? ⟨g, 3, none⟩ = some d ∧ w.cell? ⟨g, 4, none⟩ = some e ∧ w.cell? ⟨g, 5, none⟩ = some f ∧ w.cell? ⟨g, 6, none⟩ = some i := ⟨h.cell 0, h.cell 1, h.cell 2, h.cell 3, h.cell 4, h.cell 5, h.cell 6⟩
end
end Go.Proofs.Ytpdebnecfknohaa
