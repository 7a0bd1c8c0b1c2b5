/-
  Lex: what the reference's one answers.
-/
import Derived.Test.YtgaedkaohjphaaaOa
import Derived.Test.YtgaedkaohjphaaaNb
namespace Go.Proofs.Ytgaedkaohjphaaa
open Go.RowKit
set_option linter.unusedVariables false
set_option linter.unusedSimpArgs false
set_option maxRecDepth 20000
/-- What the reference's one answers. -/
def oneV (v : Tok × Nat × Bool) : Value :=
  .tuple #[.agg (if v.2.2 = true then v.1 else tok0).cells, .int .i64 (if v.2.2 = true then (v.2.1 : Int) else -1), .int .i64 (if v.2.2 = true then 0 else (v.2.1 : Int))]
theorem Blk.c4i {w : World} {g t : Nat} {a b c d : Value} (h : Blk w g t #[a, b, c, d]) : w.cell? ⟨g, 0, none⟩ = some a ∧ w.cell? ⟨g, 1, none⟩ = some b ∧ w.cell? ⟨g, 2, none⟩ = some c ∧ w.cell? ⟨g, 3, none⟩ = some d ∧ w.frozen? ⟨g, 0, none⟩ = false ∧ w.frozen? ⟨g, 1, none⟩ = false ∧ w.frozen? ⟨g, 2, none⟩ = false ∧ w.frozen? ⟨g, 3, none⟩ = false :=
  ⟨h.c4.1, h.c4.2.1, h.c4.2.2.1, h.c4.2.2.2, h.frozen 0, h.frozen 1, h.frozen 2, h.frozen 3⟩
theorem fin4 {w wx : World} {b4 : Nat} {z0 z1 z2 z3 : Value} (h : Below w.heap.size w wx) (k4 : Blk wx b4 34 #[z0, z1, z2, z3]) (hb4 : w.heap.size ≤ b4) (v0 v1 v2 v3 : Value) (wy : World) (hy : wy = ((((wx.setCell ⟨b4, 0, none⟩ v0).setCell ⟨b4, 1, none⟩ v1).setCell ⟨b4, 2, none⟩ v2).setCell ⟨b4, 3, none⟩ v3)) : Below w.heap.size w wy ∧ Blk wy b4 34 #[v0, v1, v2, v3] := by
  subst hy
  exact ⟨set4B h hb4 _ _ _ _, k4.set4 _ _ _ _⟩
theorem res22 {tm : Array Value} {w : World} {b4 : Nat} {k m at_ n1 n2 : Int} {s : ByteArray} (h4 : tm[4]? = some (.pointer (some ⟨b4, 0, none⟩))) (h5 : tm[5]? = some (.int .i64 n1)) (h6 : tm[6]? = some (.int .i64 n2)) (hK : Blk w b4 34 #[.int .u8 k, .int .u8 m, .string s, .int .i64 at_]) :
    (results Try.f22 tm).run Try.prog w = .ok (.tuple #[.agg #[.int .u8 k, .int .u8 m, .string s, .int .i64 at_], .int .i64 n1, .int .i64 n2]) w := by
  obtain ⟨q0, q1, q2, q3⟩ := Blk.c4 hK
  simp [results, Try.results22, go_sem, h4, h5, h6, q0, q1, q2, q3]
/-- Two cells of the token's box. -/
theorem two8 {w wx : World} {b4 b8 : Nat} {z : Array Value} (h : Below w.heap.size w wx) (k4 : Blk wx b4 34 z) (hb8 : w.heap.size ≤ b8) (hne : b4 ≠ b8) (i j : Nat) (v0 v1 : Value) : Below w.heap.size w ((wx.setCell ⟨b8, i, none⟩ v0).setCell ⟨b8, j, none⟩ v1) ∧ Blk ((wx.setCell ⟨b8, i, none⟩ v0).setCell ⟨b8, j, none⟩ v1) b4 34 z :=
  ⟨(h.setCell (p := ⟨b8, i, none⟩) hb8 _).setCell (p := ⟨b8, j, none⟩) hb8 _, (k4.far (p := ⟨b8, i, none⟩) hne _).far (p := ⟨b8, j, none⟩) hne _⟩
/-- A mark. -/
def isMk (x : UInt8) : Prop := x.toNat = 37 ∨ x.toNat = 36 ∨ x.toNat = 64 ∨ x.toNat = 35
theorem mk_sign (x : UInt8) (h : isMk x) : ¬ x ∈ signs := fun h2 => by
  have h3 := sign_dec x.toNat x.toNat_lt (by simpa using h2)
  have h4 := mark_dec x.toNat x.toNat_lt
  simp only [UInt8.ofNat_toNat] at h3 h4
  have h5 := h4.1.1 (h4.2.2 h)
  omega
theorem mk_small (x : UInt8) (h : isMk x) : ¬ smallB x = true := fun h2 => by
  have h3 : 97 ≤ (x.toNat : Int) ∧ (x.toNat : Int) ≤ 122 := by simpa [smallB, smallF] using h2
  unfold isMk at h
  omega
end Go.Proofs.Ytgaedkaohjphaaa
