
/-
  What the reference's variables and name leave.
-/
import Derived.Test.YtpdebnecfknohaaBd
import Derived.Laws.BytesArg
import Derived.Laws.IdiomStrings
namespace Go.Proofs.Ytpdebnecfknohaa
open Go.RowKit
set_option linter.unusedVariables false
set_option maxRecDepth 20000

/-- A variable of a function with so many locals, among so many globals, by a number. -/
def varF (nl ng n : Nat) : Int × Int := if n % (nl + ng) < nl then (1, ((n % (nl + ng) : Nat) : Int)) else (2, ((n % (nl + ng) : Nat) : Int) - (nl : Int))

set_option maxRecDepth 20000 in
set_option maxHeartbeats 1000000 in
theorem variables_any (m0 m2 m3 f0 f1 f3 f4 : Value) (Ag Al : Option Addr) (ng cg nl cl n : Nat) (w : World) (hn : n < 256) (hl : nl ≤ 1000000) (hg : ng ≤ 1000000) (hp : 0 < nl + ng) :
    Calls Try.prog 58 #[.agg #[m0, .slice Ag ng cg, m2, m3], .agg #[f0, f1, .slice Al nl cl, f3, f4], .int .u8 (n : Int)] w fun e w' => e = .returned (.agg #[.int .u8 (varF nl ng n).1, .int .i64 (varF nl ng n).2]) ∧ Below w.heap.size w w' := by
  have hk : ((n : Int).tmod ((nl : Int) + (ng : Int))) = ((n % (nl + ng) : Nat) : Int) := by rw [Int.tmod_eq_emod_of_nonneg (by omega)]; simp
  have hlt : n % (nl + ng) < nl + ng := Nat.mod_lt _ hp
  have HV : Hid (varF nl ng n = if n % (nl + ng) < nl then (1, ((n % (nl + ng) : Nat) : Int)) else (2, ((n % (nl + ng) : Nat) : Int) - (nl : Int))) := rfl
  have hz : ((nl : Int) + (ng : Int) == 0) = false := by simp; omega
  generalize n % (nl + ng) = k at *
  generalize varF nl ng n = r at *
  by_cases h : k < nl
  · have h1 := HV.out
    rw [if_pos h] at h1
    subst h1
    clear HV
    go_enter Try.func58, Try.ntmps58
    go_wp2
    exact bodyPost_ret (v := .agg #[.int .u8 1, .int .i64 (k : Int)]) (by simp [results, Try.results58, go_sem]) rfl ⟨rfl, (((Below.refl _ _).alloc (Nat.le_refl _) _).alloc (by simp) _).alloc (by simp; omega) _⟩
  · have h1 := HV.out
    rw [if_neg h] at h1
    subst h1
    clear HV
    go_enter Try.func58, Try.ntmps58
    go_wp2
    exact bodyPost_ret (v := .agg #[.int .u8 2, .int .i64 ((k : Int) - (nl : Int))]) (by simp [results, Try.results58, go_sem]) rfl ⟨rfl, (((Below.refl _ _).alloc (Nat.le_refl _) _).alloc (by simp) _).alloc (by simp; omega) _⟩

/-- A name by a number. -/
def nameF (n : Nat) : List UInt8 :=
  if n % 6 = 1 then [110, UInt8.ofNat (97 + n / 6 % 26), 46, 120]
  else if n % 6 = 3 then [97, 32, 34, UInt8.ofNat (48 + n / 6 % 10), 92]
  else if n % 6 = 5 then [UInt8.ofNat (128 + n % 100), 10, UInt8.ofNat (65 + n / 6 % 26)]
  else [118, UInt8.ofNat (97 + n / 2 % 26), UInt8.ofNat (48 + n % 10)]

theorem u8_back {x : Int} (h : 0 ≤ x ∧ x < 256) : ((UInt8.ofNat x.toNat).toNat : Int) = x := by
  rw [UInt8.toNat_ofNat_of_lt' (by show x.toNat < 256; omega)]; omega
/-- New bytes as a string. -/
theorem conv_new (w : World) (xs : List Int) (h : ∀ x ∈ xs, 0 ≤ x ∧ x < 256) (o : Array Value) (ho : o = (xs.map (Value.int .u8)).toArray) (n : Nat) (hn : n = xs.length) :
    (convert 53 9 (.slice (some ⟨w.heap.size, 0, none⟩) n n)).run Try.prog (w.alloc (.cells o 5)) = .ok (.string ⟨(xs.map fun x => UInt8.ofNat x.toNat).toArray⟩) (w.alloc (.cells o 5)) := by
  have hl : (xs.map fun x => UInt8.ofNat x.toNat).length = n := by simp [hn]
  have := run_convert_bytes_back (P := Try.prog) (w.alloc (.cells o 5)) 53 9 5 ⟨w.heap.size, 0, none⟩ n (xs.map fun x => UInt8.ofNat x.toNat) Try.underlying53 Try.underlying5 Try.underlying9 (fun j hj => by
    have hj' : j < xs.length := by simpa using hj
    rw [Go.WideShapes.add_plain, cell_of_row _ w.heap.size _ _ 5 (0, 0) (heap_alloc_new w _), Nat.zero_add, ho]
    have hb := h _ (List.getElem_mem hj')
    simp [hj']
    omega)
  rw [hl] at this
  exact this

set_option maxRecDepth 20000 in
set_option maxHeartbeats 1000000 in
theorem name_any (n : Nat) (w : World) (hn : n ≤ 10000) :
    Calls Try.prog 32 #[.int .i64 (n : Int)] w fun e w' => e = .returned (.string ⟨(nameF n).toArray⟩) ∧ Below w.heap.size w w' := by
  by_cases h1 : n % 6 = 1
  · have HF : Hid (nameF n = [110, UInt8.ofNat (97 + (n : Int) / 6 % 26).toNat, 46, 120]) := by
      show _ = _
      unfold nameF
      rw [if_pos h1, show (97 + (n : Int) / 6 % 26).toNat = 97 + n / 6 % 26 from by omega]
    have hi : (n : Int) % 6 = 1 := by omega
    have hc := conv_new w [97 + (n : Int) / 6 % 26] (by simp; omega) _ rfl 1 rfl
    simp only [List.map] at hc
    obtain ⟨S, hS⟩ : ∃ S : ByteArray, S = ⟨#[UInt8.ofNat (97 + (n : Int) / 6 % 26).toNat]⟩ := ⟨_, rfl⟩
    rw [← hS] at hc
    have HS := Lib.hid hS
    have hsz : S.size ≤ 3 := by rw [hS]; show _ ≤ 3; simp [ByteArray.size]
    clear hS
    go_enter Try.func32, Try.ntmps32
    go_wp2
    go_ret
    exact ⟨congrArg Ending.returned (congrArg Value.string (by rw [HF.out, HS.out]; rfl)), (Below.refl _ _).alloc (Nat.le_refl _) _⟩
  by_cases h3 : n % 6 = 3
  · have HF : Hid (nameF n = [97, 32, 34, UInt8.ofNat (48 + (n : Int) / 6 % 10).toNat, 92]) := by
      show _ = _
      unfold nameF
      rw [if_neg h1, if_pos h3, show (48 + (n : Int) / 6 % 10).toNat = 48 + n / 6 % 10 from by omega]
    have hi : (n : Int) % 6 = 3 := by omega
    have hc := conv_new w [48 + (n : Int) / 6 % 10, 92] (by simp; omega) _ rfl 2 rfl
    simp only [List.map] at hc
    obtain ⟨S, hS⟩ : ∃ S : ByteArray, S = ⟨#[UInt8.ofNat (48 + (n : Int) / 6 % 10).toNat, UInt8.ofNat (Int.toNat 92)]⟩ := ⟨_, rfl⟩
    rw [← hS] at hc
    have HS := Lib.hid hS
    have hsz : S.size ≤ 3 := by rw [hS]; show _ ≤ 3; simp [ByteArray.size]
    clear hS
    go_enter Try.func32, Try.ntmps32
    go_wp2
    go_ret
    exact ⟨congrArg Ending.returned (congrArg Value.string (by rw [HF.out, HS.out]; rfl)), (Below.refl _ _).alloc (Nat.le_refl _) _⟩
  by_cases h5 : n % 6 = 5
  · have HF : Hid (nameF n = [UInt8.ofNat (128 + (n : Int) % 100).toNat, 10, UInt8.ofNat (65 + (n : Int) / 6 % 26).toNat]) := by
      show _ = _
      unfold nameF
      rw [if_neg h1, if_neg h3, if_pos h5, show (128 + (n : Int) % 100).toNat = 128 + n % 100 from by omega, show (65 + (n : Int) / 6 % 26).toNat = 65 + n / 6 % 26 from by omega]
    have hi : (n : Int) % 6 = 5 := by omega
    have hc := conv_new w [128 + (n : Int) % 100, 10, 65 + (n : Int) / 6 % 26] (by simp; omega) _ rfl 3 rfl
    simp only [List.map] at hc
    obtain ⟨S, hS⟩ : ∃ S : ByteArray, S = ⟨#[UInt8.ofNat (128 + (n : Int) % 100).toNat, UInt8.ofNat (Int.toNat 10), UInt8.ofNat (65 + (n : Int) / 6 % 26).toNat]⟩ := ⟨_, rfl⟩
    rw [← hS] at hc
    have HS := Lib.hid hS
    have hsz : S.size ≤ 3 := by rw [hS]; show _ ≤ 3; simp [ByteArray.size]
    clear hS
    go_enter Try.func32, Try.ntmps32
    go_wp2
    go_ret
    exact ⟨congrArg Ending.returned (congrArg Value.string (by rw [HF.out, HS.out]; rfl)), (Below.refl _ _).alloc (Nat.le_refl _) _⟩
  · have HF : Hid (nameF n = [118, UInt8.ofNat (97 + (n : Int) / 2 % 26).toNat, UInt8.ofNat (48 + (n : Int) % 10).toNat]) := by
      show _ = _
      unfold nameF
      rw [if_neg h1, if_neg h3, if_neg h5, show (97 + (n : Int) / 2 % 26).toNat = 97 + n / 2 % 26 from by omega, show (48 + (n : Int) % 10).toNat = 48 + n % 10 from by omega]
    have i1 : ((n : Int) % 6 == 1) = false := by simp; omega
    have i3 : ((n : Int) % 6 == 3) = false := by simp; omega
    have i5 : ((n : Int) % 6 == 5) = false := by simp; omega
    have hc := conv_new w [97 + (n : Int) / 2 % 26, 48 + (n : Int) % 10] (by simp; omega) _ rfl 2 rfl
    simp only [List.map] at hc
    obtain ⟨S, hS⟩ : ∃ S : ByteArray, S = ⟨#[UInt8.ofNat (97 + (n : Int) / 2 % 26).toNat, UInt8.ofNat (48 + (n : Int) % 10).toNat]⟩ := ⟨_, rfl⟩
    rw [← hS] at hc
    have HS := Lib.hid hS
    have hsz : S.size ≤ 3 := by rw [hS]; show _ ≤ 3; simp [ByteArray.size]
    clear hS
    go_enter Try.func32, Try.ntmps32
    go_wp2
    go_ret
    exact ⟨congrArg Ending.returned (congrArg Value.string (by rw [HF.out, HS.out]; rfl)), (Below.refl _ _).alloc (Nat.le_refl _) _⟩
end Go.Proofs.Ytpdebnecfknohaa
