
/-
  What the reference's SameBody leaves, of lists of other lengths, and of a Block against a Block.
-/
import Derived.Test.YtpdebnecfknohaaSw
namespace Go.Proofs.Ytpdebnecfknohaa
open Go.RowKit
set_option linter.unusedVariables false
set_option maxRecDepth 20000

theorem quiet_left {P : Program} {f : FuncId} {args : Array Value} {w : World} {n : Nat} {v : Value}
    (h : Calls P f args (w.drewN n) fun e w' => e = .returned v ∧ w.drewN n = w') : Calls P f args (w.drewN n) fun e w' => e = .returned v ∧ ∃ k, w' = w.drewN k :=
  h.mono fun e w' ⟨he, hw⟩ => ⟨he, n, hw.symm⟩
set_option maxHeartbeats 400000 in
theorem rsame_len (A B : Option Addr) (n m c d : Nat) (w : World) (hne : n ≠ m) (hn : n ≤ 1000000000) (hm : m ≤ 1000000000) :
    Calls Try.prog 54 #[.slice A n c, .slice B m d] w fun e w' => e = .returned (.bool false) ∧ w = w' := by
  have hni : ((n : Int) == (m : Int)) = false := by simp; omega
  go_enter Try.func54, Try.ntmps54
  go_wp2
  go_ret
  exact ⟨rfl, rfl⟩
set_option maxHeartbeats 400000 in
theorem rsame_nil (A B : Option Addr) (c d : Nat) (w : World) :
    Calls Try.prog 54 #[.slice A 0 c, .slice B 0 d] w fun e w' => e = .returned (.bool true) ∧ w = w' := by
  go_enter Try.func54, Try.ntmps54
  go_wp2_with fail
  go_loopw [5] (fun i wr => i = .int .i64 0 ∧ w = wr) (fun _ _ => 0)
  case atStart => exact ⟨rfl, rfl⟩
  case round =>
    obtain ⟨rfl, rfl⟩ := hrel
    go_wp2
    go_ret
    exact ⟨rfl, rfl⟩
set_option maxRecDepth 20000 in
set_option maxHeartbeats 2000000 in
theorem rsame_block (b o b' o' c d ca cs ca' cs' : Nat) (Aa As Aa' As' : Option Addr) (w : World)
    (d0 : w.cell? ⟨b, o, none⟩ = some (.int .u8 7)) (d1 : w.cell? ⟨b, o + 1, none⟩ = some (.int .u8 0)) (d2 : w.cell? ⟨b, o + 2, none⟩ = some (.int .i64 0)) (d3 : w.cell? ⟨b, o + 3, none⟩ = some (.int .u8 0)) (d4 : w.cell? ⟨b, o + 4, none⟩ = some (.int .i64 0)) (d5 : w.cell? ⟨b, o + 5, none⟩ = some (.slice Aa 0 ca)) (d6 : w.cell? ⟨b, o + 6, none⟩ = some (.slice As 0 cs))
    (f0 : w.cell? ⟨b', o', none⟩ = some (.int .u8 7)) (f1 : w.cell? ⟨b', o' + 1, none⟩ = some (.int .u8 0)) (f2 : w.cell? ⟨b', o' + 2, none⟩ = some (.int .i64 0)) (f3 : w.cell? ⟨b', o' + 3, none⟩ = some (.int .u8 0)) (f4 : w.cell? ⟨b', o' + 4, none⟩ = some (.int .i64 0)) (f5 : w.cell? ⟨b', o' + 5, none⟩ = some (.slice Aa' 0 ca')) (f6 : w.cell? ⟨b', o' + 6, none⟩ = some (.slice As' 0 cs')) :
    Calls Try.prog 54 #[.slice (some ⟨b, o, none⟩) 1 c, .slice (some ⟨b', o', none⟩) 1 d] w fun e w' => e = .returned (.bool true) ∧ ∃ n, w' = w.drewN n := by
  have HR := Lib.hid (rsame_nil As As' cs cs')
  go_enter Try.func54, Try.ntmps54
  go_wp2_with fail
  go_loopw [5] (fun i wr => (i = .int .i64 0 ∧ wr = w) ∨ (i = .int .i64 1 ∧ ∃ n, wr = w.drewN n)) (fun i _ => 1 - (intOf i).toNat)
  case atStart => exact .inl ⟨rfl, rfl⟩
  case round =>
    rcases hrel with ⟨rfl, rfl⟩ | ⟨rfl, n, rfl⟩
    · go_upto_region 6 with (fail)
      go_quiet ((go_at_call 54; exact quiet_left (HR.out _)))
      go_wp2_with fail
      obtain ⟨w9, hw9⟩ : ∃ w9, w9 = wr := ⟨wr, rfl⟩
      subst hw9
      have e5 : (w9.drewN nq).cell? ⟨b, o + 5, none⟩ = some (.slice Aa 0 ca) := by rw [World.cell?_drewN]; exact d5
      go_loopw [6] (fun k wi => k = .int .i64 0 ∧ wi = w9.drewN nq) (fun _ _ => 0)
      case atStart => exact ⟨rfl, rfl⟩
      case round =>
        obtain ⟨rfl, rfl⟩ := hrel
        go_wp2
        go_roundw
        case rel => exact .inr ⟨rfl, nq, rfl⟩
        case measure => simp [intOf]
    · go_wp2
      go_ret
      exact ⟨rfl, n, rfl⟩
end Go.Proofs.Ytpdebnecfknohaa
