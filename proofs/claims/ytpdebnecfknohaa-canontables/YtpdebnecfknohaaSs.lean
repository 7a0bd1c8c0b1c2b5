
/-
  Bodies in blocks of a kind (S); one statement by numbers.
-/
import Derived.Test.YtpdebnecfknohaaVa
import Derived.Test.YtpdebnecfknohaaSw
namespace Go.Proofs.Ytpdebnecfknohaa
open Go.RowKit
set_option linter.unusedVariables false
set_option maxRecDepth 20000

/-- References in a row, in a block of the kind. -/
def ArgsS (S : Nat → Prop) (w : World) (v : Value) (l : List (Int × Int)) : Prop := ∃ A c, v = .slice A l.length c ∧ (0 < l.length → ∃ b o, A = some ⟨b, o, none⟩ ∧ S b ∧ ∀ i, i < l.length → w.cell? ⟨b, o + i * 2, none⟩ = some (.int .u8 (l.getD i (0, 0)).1) ∧ w.cell? ⟨b, o + i * 2 + 1, none⟩ = some (.int .i64 (l.getD i (0, 0)).2))
def BdS (S : Nat → Prop) (w : World) : Nat → Nat → Bd → Prop
  | _, _, .nil => True
  | b, o, .cons k a1 a2 b1 b2 args sub rest => S b ∧ (w.cell? ⟨b, o, none⟩ = some (.int .u8 k) ∧ w.cell? ⟨b, o + 1, none⟩ = some (.int .u8 a1) ∧ w.cell? ⟨b, o + 2, none⟩ = some (.int .i64 a2) ∧ w.cell? ⟨b, o + 3, none⟩ = some (.int .u8 b1) ∧ w.cell? ⟨b, o + 4, none⟩ = some (.int .i64 b2)) ∧
      (∃ va, w.cell? ⟨b, o + 5, none⟩ = some va ∧ ArgsS S w va args) ∧
      (∃ A c, w.cell? ⟨b, o + 6, none⟩ = some (.slice A sub.len c) ∧ (0 < sub.len → ∃ b' o', A = some ⟨b', o', none⟩ ∧ BdS S w b' o' sub)) ∧ BdS S w b (o + 7) rest
def BodyS (S : Nat → Prop) (w : World) (A : Option Addr) (t : Bd) : Prop := 0 < t.len → ∃ b o, A = some ⟨b, o, none⟩ ∧ BdS S w b o t
theorem ArgsS.at_ {S : Nat → Prop} {w : World} {v : Value} {l : List (Int × Int)} (h : ArgsS S w v l) : ArgsAt w v l := by
  obtain ⟨A, c, hv, h⟩ := h
  exact ⟨A, c, hv, fun hp => by obtain ⟨b, o, hA, _, hc⟩ := h hp; exact ⟨b, o, hA, hc⟩⟩
theorem BdS.at_ {S : Nat → Prop} {w : World} : ∀ (t : Bd) (b o : Nat), BdS S w b o t → BdAt w b o t
  | .nil, _, _, _ => trivial
  | .cons k a1 a2 b1 b2 args sub rest, b, o, h => by
    obtain ⟨_, h1, ⟨va, h2, h3⟩, ⟨A, c, h4, h5⟩, h6⟩ := h
    refine ⟨h1, ⟨va, h2, h3.at_⟩, ⟨A, c, h4, fun hp => ?_⟩, BdS.at_ rest b _ h6⟩
    obtain ⟨b', o', hA, h7⟩ := h5 hp
    exact ⟨b', o', hA, BdS.at_ sub b' o' h7⟩
theorem BodyS.at_ {S : Nat → Prop} {w : World} {A : Option Addr} {t : Bd} (h : BodyS S w A t) : BodyV w A t := fun hp => by
  obtain ⟨b, o, hA, h1⟩ := h hp
  exact ⟨b, o, hA, BdS.at_ t b o h1⟩
/-- Blocks of the kind are as they were. -/
def Kept (S : Nat → Prop) (w w' : World) : Prop := ∀ k, S k → k < w.heap.size → w'.heap[k]? = w.heap[k]?
theorem Kept.cell {S : Nat → Prop} {w w' : World} (h : Kept S w w') {b o : Nat} {v : Value} (hS : S b) (hc : w.cell? ⟨b, o, none⟩ = some v) : w'.cell? ⟨b, o, none⟩ = some v :=
  (World.cell?_of_block (h b hS (World.block_lt_of_cell? w ⟨b, o, none⟩ hc))).trans hc
theorem ArgsS.kept {S S' : Nat → Prop} {w w' : World} {v : Value} {l : List (Int × Int)} (h : ArgsS S w v l) (hk : Kept S w w') (hS : ∀ k, S k → k < w.heap.size → S' k) : ArgsS S' w' v l := by
  obtain ⟨A, c, hv, h⟩ := h
  refine ⟨A, c, hv, fun hp => ?_⟩
  obtain ⟨b, o, hA, hb, hc⟩ := h hp
  exact ⟨b, o, hA, hS b hb (World.block_lt_of_cell? w ⟨b, o + 0 * 2, none⟩ (hc 0 hp).1), fun i hi => ⟨hk.cell hb (hc i hi).1, hk.cell hb (hc i hi).2⟩⟩
theorem BdS.kept {S S' : Nat → Prop} {w w' : World} (hk : Kept S w w') (hS : ∀ k, S k → k < w.heap.size → S' k) : ∀ (t : Bd) (b o : Nat), BdS S w b o t → BdS S' w' b o t
  | .nil, _, _, _ => trivial
  | .cons k a1 a2 b1 b2 args sub rest, b, o, h => by
    obtain ⟨hb, ⟨h1, h2, h3, h4, h5⟩, ⟨va, h6, h7⟩, ⟨A, c, h8, h9⟩, h10⟩ := h
    refine ⟨hS b hb (World.block_lt_of_cell? w ⟨b, o, none⟩ h1), ⟨hk.cell hb h1, hk.cell hb h2, hk.cell hb h3, hk.cell hb h4, hk.cell hb h5⟩, ⟨va, hk.cell hb h6, h7.kept hk hS⟩, ⟨A, c, hk.cell hb h8, fun hp => ?_⟩, BdS.kept hk hS rest b _ h10⟩
    obtain ⟨b', o', hA, h11⟩ := h9 hp
    exact ⟨b', o', hA, BdS.kept hk hS sub b' o' h11⟩
theorem BodyS.kept {S S' : Nat → Prop} {w w' : World} {A : Option Addr} {t : Bd} (h : BodyS S w A t) (hk : Kept S w w') (hS : ∀ k, S k → k < w.heap.size → S' k) : BodyS S' w' A t := fun hp => by
  obtain ⟨b, o, hA, h1⟩ := h hp
  exact ⟨b, o, hA, BdS.kept hk hS t b o h1⟩
theorem Below.keptS {S : Nat → Prop} {w w' : World} (h : Below w.heap.size w w') : Kept S w w' := fun k _ hk => h.block k hk

/-- One statement, but where it lies. -/
structure St7 where
  k : Int
  a : Int × Int
  b : Int × Int
  xs : List (Int × Int)
  sub : Bd
/-- A statement by numbers, that is no block: of a function with so many locals and sites, among so many globals and functions, which have so many parameters. -/
def stm0 (nl ng nf ns : Nat) (par : Nat → Nat) (K A B C : Nat) : St7 :=
  if K % 10 = 0 ∨ K % 10 = 1 then ⟨1, varF nl ng A, if C % 4 = 1 then (3, ((B % nf : Nat) : Int)) else if C % 4 = 0 then varF nl ng B else (4, ((B % ns : Nat) : Int)), [], .nil⟩
  else if K % 10 = 2 then ⟨3, varF nl ng A, varF nl ng B, [], .nil⟩
  else if K % 10 = 3 then ⟨4, varF nl ng A, varF nl ng B, [], .nil⟩
  else if K % 10 = 4 then ⟨5, if C % 3 = 0 then (0, 0) else varF nl ng A, (3, ((B % nf : Nat) : Int)), (List.range (par (B % nf))).map fun i => varF nl ng ((A + C + i) % 256), .nil⟩
  else if K % 10 = 5 then ⟨5, if C % 3 = 0 then (0, 0) else varF nl ng A, varF nl ng B, (List.range (C / 4 % 4)).map fun i => varF nl ng ((A + C + i) % 256), .nil⟩
  else if K % 10 = 6 then ⟨6, (0, 0), varF nl ng B, [], .nil⟩
  else ⟨2, varF nl ng A, varF nl ng B, [], .nil⟩
def St7.ahead (s : St7) (r : Bd) : Bd := .cons s.k s.a.1 s.a.2 s.b.1 s.b.2 s.xs s.sub r
def stm (nl ng nf ns : Nat) (par : Nat → Nat) (K A B C : Nat) : St7 :=
  if K % 10 = 7 then (if C % 8 = 7 then ⟨7, (0, 0), (0, 0), [], .nil⟩ else ⟨7, (0, 0), (0, 0), [], (stm0 nl ng nf ns par (C % 8) A B C).ahead ((⟨2, varF nl ng B, varF nl ng A, [], .nil⟩ : St7).ahead .nil)⟩)
  else stm0 nl ng nf ns par K A B C
/-- What the call of statement leaves. -/
def StPost (w : World) (s : St7) (e : Ending) (w' : World) : Prop := ∃ va A c, e = .returned (.agg #[.int .u8 s.k, .int .u8 s.a.1, .int .i64 s.a.2, .int .u8 s.b.1, .int .i64 s.b.2, va, .slice A s.sub.len c]) ∧ ArgsS (fun k => w.heap.size ≤ k) w' va s.xs ∧ BodyS (fun k => w.heap.size ≤ k) w' A s.sub ∧ Below w.heap.size w w'
end Go.Proofs.Ytpdebnecfknohaa
