
/-
  Bodies, statements and references that came in: as trees.
-/
import Derived.Test.YtpdebnecfknohaaBd
import Derived.Deep.SlicePairs
import Derived.ChangeSame
namespace Go.Proofs.Ytpdebnecfknohaa
open Go.RowKit Go.ChangeShapes Go.WideShapes
set_option linter.unusedVariables false
set_option maxRecDepth 20000

def okU8 (x : Int) : Prop := 0 ≤ x ∧ x ≤ 255
def okI64 (x : Int) : Prop := -9223372036854775808 ≤ x ∧ x ≤ 9223372036854775807
theorem okU8_of_wf {x : Int} (h : (Lit.int .u8 x).wf = true) : okU8 x := by
  simpa [okU8, Lit.wf, IntKind.min, IntKind.max, IntKind.bits, IntKind.signed] using h
theorem okI64_of_wf {x : Int} (h : (Lit.int .i64 x).wf = true) : okI64 x := by
  simpa [okI64, Lit.wf, IntKind.min, IntKind.max, IntKind.bits, IntKind.signed] using h
def okArgs (xs : List (Int × Int)) : Prop := ∀ x ∈ xs, okU8 x.1 ∧ okI64 x.2
/-- All numbers are such as their kinds hold. -/
def Bd.fit : Bd → Prop
  | .nil => True
  | .cons k a1 a2 b1 b2 xs s r => (okU8 k ∧ okU8 a1 ∧ okI64 a2 ∧ okU8 b1 ∧ okI64 b2) ∧ (okArgs xs ∧ xs.length ≤ 9223372036854775807) ∧ s.fit ∧ r.fit

theorem cells5 : Try.prog.cellsOf 5 = 1 := by kernel_rfl
theorem cells3 : Try.prog.cellsOf 3 = 1 := by kernel_rfl
theorem cells46 : Try.prog.cellsOf 46 = 2 := by kernel_rfl
theorem cells48 : Try.prog.cellsOf 48 = 1 := by kernel_rfl
theorem cells38 : Try.prog.cellsOf 38 = 1 := by kernel_rfl
theorem cells50 : Try.prog.cellsOf 50 = 7 := by kernel_rfl

section
variable {H : Type} {enc : TypeId × Value → H} {w : World} {base : Nat} {spare : Nat → Bool} {held : Bool}

theorem open_ref {fuel : Nat} {cs : List Value} {x : DataW H × List MemPlace} (h : DataW.trod enc Try.prog w base spare held fuel 46 cs = some x) :
    ∃ a b, cs = [.int .u8 a, .int .i64 b] ∧ okU8 a ∧ okI64 b := by
  obtain ⟨xs, n, _, hx, hl, hxl, hg⟩ := DataW.trod_struct Try.underlying46 h
  rw [cells46] at hl
  match xs, hxl, cs, hl with
  | [y0, y1], _, [c0, c1], _ =>
    have g0 : DataW.trod enc Try.prog w base spare held n 5 ((List.drop 0 [c0, c1]).take (Try.prog.cellsOf 5)) = some y0 := hg 0 _ rfl
    have g1 : DataW.trod enc Try.prog w base spare held n 3 ((List.drop 1 [c0, c1]).take (Try.prog.cellsOf 3)) = some y1 := hg 1 _ rfl
    rw [cells5] at g0
    rw [cells3] at g1
    obtain ⟨z0, h0, _, w0⟩ := DataW.trod_int Try.underlying5 (g0)
    obtain ⟨z1, h1, _, w1⟩ := DataW.trod_int Try.underlying3 (g1)
    simp at h0 h1
    subst h0; subst h1
    exact ⟨z0, z1, rfl, okU8_of_wf w0, okI64_of_wf w1⟩
theorem open_args {fuel : Nat} {cs : List Value} {x : DataW H × List MemPlace} (h : DataW.trod enc Try.prog w base spare held fuel 48 cs = some x) :
    ∃ (A : Option Addr) (c : Nat) (xs : List (Int × Int)), cs = [.slice A xs.length c] ∧ ArgsAt w (.slice A xs.length c) xs ∧ okArgs xs ∧ xs.length ≤ 9223372036854775807 := by
  rcases Go.Deep.open_slice_pairs Try.underlying48 Try.underlying46 (by kernel_rfl) rfl rfl (by kernel_rfl) (by kernel_rfl) h with ⟨hcs, _⟩ | ⟨y, len, cap, m, k, V0, V1, D0, D1, P0, P1, hcs, _, hl, hm, hmm, _, hall⟩
  · exact ⟨none, 0, [], hcs, ⟨none, 0, rfl, fun h => by simp at h⟩, (fun x hx => by simp at hx), by simp⟩
  · have hlm : len ≤ m := by rw [hmm]; split <;> omega
    have each : ∀ i, i < len → ∃ q : Int × Int, V0 i = .int .u8 q.1 ∧ V1 i = .int .i64 q.2 ∧ okU8 q.1 ∧ okI64 q.2 := fun i hi => by
      obtain ⟨_, _, t0, t1⟩ := hall i (by omega)
      obtain ⟨y0, hy0, _, wy0⟩ := DataW.trod_int Try.underlying5 t0
      obtain ⟨y1, hy1, _, wy1⟩ := DataW.trod_int Try.underlying3 t1
      injection hy0 with hy0
      injection hy1 with hy1
      exact ⟨(y0, y1), hy0, hy1, okU8_of_wf wy0, okI64_of_wf wy1⟩
    obtain ⟨q, hq⟩ := Go.Deep.choose_lt each
    have hlen : ((List.range len).map q).length = len := by simp
    refine ⟨some y, cap, (List.range len).map q, by rw [hlen]; exact hcs, ⟨some y, cap, rfl, fun hp => ?_⟩, fun z hz => ?_, by rw [hlen]; unfold maxLen at hm; omega⟩
    · have hp' : 0 < len := by simpa using hp
      obtain ⟨b, off, spot⟩ := y
      have hspot : spot = none := by simpa [Addr.add] using World.cell?_spot (hall 0 (by omega)).1
      subst hspot
      refine ⟨b, off, rfl, fun i hi => ?_⟩
      have hi' : i < len := by simpa using hi
      obtain ⟨e0, e1, _, _⟩ := hall i (by omega)
      rw [Go.WideShapes.add_plain] at e0 e1
      have hg : ((List.range len).map q).getD i (0, 0) = q i := by simp [List.getD, hi']
      rw [hg, ← (hq i hi').1, ← (hq i hi').2.1]
      exact ⟨e0, by rw [← e1, Nat.add_assoc]⟩
    · obtain ⟨i, hi, rfl⟩ := List.mem_map.1 hz
      exact (hq i (List.mem_range.1 hi)).2.2

/-- What a statement's cells are. -/
structure StOk (w : World) (cs : List Value) (k a1 a2 b1 b2 : Int) (xs : List (Int × Int)) (t : Bd) : Prop where
  cells : ∃ Aa ca A c, cs = [.int .u8 k, .int .u8 a1, .int .i64 a2, .int .u8 b1, .int .i64 b2, .slice Aa xs.length ca, .slice A t.len c] ∧ ArgsAt w (.slice Aa xs.length ca) xs ∧ BodyV w A t
  nums : okU8 k ∧ okU8 a1 ∧ okI64 a2 ∧ okU8 b1 ∧ okI64 b2
  args : okArgs xs ∧ xs.length ≤ 9223372036854775807
  fit : t.fit
  len : t.len ≤ 9223372036854775807

theorem open_stmt {fuel : Nat} {cs : List Value} {x : DataW H × List MemPlace} (ih : ∀ n, n < fuel → ∀ cs x, DataW.trod enc Try.prog w base spare held n 38 cs = some x → ∃ A c t, cs = [.slice A t.len c] ∧ BodyV w A t ∧ t.fit ∧ t.len ≤ 9223372036854775807)
    (h : DataW.trod enc Try.prog w base spare held fuel 50 cs = some x) : ∃ k a1 a2 b1 b2 xs t, StOk w cs k a1 a2 b1 b2 xs t := by
  obtain ⟨ys, n, hn, hx, hl, hxl, hg⟩ := DataW.trod_struct Try.underlying50 h
  rw [cells50] at hl
  match ys, hxl, cs, hl with
  | [y0, y1, y2, y3, y4], _, [c0, c1, c2, c3, c4, c5, c6], _ =>
    have g0 : DataW.trod enc Try.prog w base spare held n 5 ((List.drop 0 [c0, c1, c2, c3, c4, c5, c6]).take (Try.prog.cellsOf 5)) = some y0 := hg 0 _ rfl
    have g1 : DataW.trod enc Try.prog w base spare held n 46 ((List.drop 1 [c0, c1, c2, c3, c4, c5, c6]).take (Try.prog.cellsOf 46)) = some y1 := hg 1 _ rfl
    have g2 : DataW.trod enc Try.prog w base spare held n 46 ((List.drop 3 [c0, c1, c2, c3, c4, c5, c6]).take (Try.prog.cellsOf 46)) = some y2 := hg 2 _ rfl
    have g3 : DataW.trod enc Try.prog w base spare held n 48 ((List.drop 5 [c0, c1, c2, c3, c4, c5, c6]).take (Try.prog.cellsOf 48)) = some y3 := hg 3 _ rfl
    have g4 : DataW.trod enc Try.prog w base spare held n 38 ((List.drop 6 [c0, c1, c2, c3, c4, c5, c6]).take (Try.prog.cellsOf 38)) = some y4 := hg 4 _ rfl
    rw [cells5] at g0
    rw [cells46] at g1 g2
    rw [cells48] at g3
    rw [cells38] at g4
    obtain ⟨z0, h0, _, w0⟩ := DataW.trod_int Try.underlying5 (g0)
    obtain ⟨a1, a2, h1, w1, w2⟩ := open_ref (g1)
    obtain ⟨b1, b2, h2, w3, w4⟩ := open_ref (g2)
    obtain ⟨Aa, ca, xs, h3, w5, w6⟩ := open_args (g3)
    obtain ⟨A, c, t, h4, w7, w8, w9⟩ := ih n (by omega) _ _ (g4)
    simp at h0 h1 h2 h3 h4
    obtain ⟨rfl, rfl⟩ := h1
    obtain ⟨rfl, rfl⟩ := h2
    subst h0; subst h3; subst h4
    exact ⟨z0, a1, a2, b1, b2, xs, t, ⟨Aa, ca, A, c, rfl, w5, w7⟩, ⟨okU8_of_wf w0, w1, w2, w3, w4⟩, w6, w8, w9⟩

theorem open_body : ∀ (fuel : Nat) (cs : List Value) (x : DataW H × List MemPlace), DataW.trod enc Try.prog w base spare held fuel 38 cs = some x → ∃ A c t, cs = [.slice A t.len c] ∧ BodyV w A t ∧ t.fit ∧ t.len ≤ 9223372036854775807 := by
  intro fuel
  induction fuel using Nat.strongRecOn with
  | _ fuel ih =>
    intro cs x h
    rcases DataW.trod_slice Try.underlying38 h with ⟨h0, _⟩ | ⟨a, len, cap, elems, rest, n, hn, hcs, _, hb, hl, hm, hlen, hel, _, _⟩
    · exact ⟨none, 0, .nil, h0, fun h => by simp [Bd.len] at h, trivial, by simp [Bd.len]⟩
    · have each : ∀ i, i < len → ∃ cs' k a1 a2 b1 b2 xs t, (∀ j, j < 7 → w.cell? ((a.add (i * 7)).add j) = cs'[j]?) ∧ StOk w cs' k a1 a2 b1 b2 xs t := fun i hi => by
        have h1 := hel i hi
        rw [List.getElem?_eq_getElem (by omega), cells50, Option.bind_eq_some_iff] at h1
        obtain ⟨cs', h2, h3⟩ := h1
        obtain ⟨_, _, hat⟩ := World.cells?_some h2
        obtain ⟨k, a1, a2, b1, b2, xs, t, hs⟩ := open_stmt (fun n' hn' => ih n' (by omega)) h3
        exact ⟨cs', k, a1, a2, b1, b2, xs, t, hat, hs⟩
      have hspot : 0 < len → a.spot = none := fun hp => by
        obtain ⟨cs', k, a1, a2, b1, b2, xs, t, hc, hs⟩ := each 0 hp
        obtain ⟨Aa, ca, A, c, rfl, _, _⟩ := hs.cells
        have := World.cell?_spot (v := .int .u8 k) (hc 0 (by omega))
        simpa [Addr.add] using this
      have all : ∀ j, j ≤ len → ∃ t : Bd, t.len = j ∧ t.fit ∧ BdAt w a.block (a.off + (len - j) * 7) t := by
        intro j
        induction j with
        | zero => exact fun _ => ⟨.nil, rfl, trivial, trivial⟩
        | succ j ihj =>
          intro hj
          obtain ⟨r, hr1, hr2, hr3⟩ := ihj (by omega)
          obtain ⟨cs', k, a1, a2, b1, b2, xs, t, hc, hs⟩ := each (len - (j + 1)) (by omega)
          obtain ⟨Aa, ca, A, c, rfl, hA, hT⟩ := hs.cells
          have hsp := hspot (by omega)
          obtain ⟨b, o, sp⟩ := a
          simp only at hsp
          subst hsp
          have hc' : ∀ q, q < 7 → w.cell? ⟨b, o + (len - (j + 1)) * 7 + q, none⟩ = ([.int .u8 k, .int .u8 a1, .int .i64 a2, .int .u8 b1, .int .i64 b2, .slice Aa xs.length ca, .slice A t.len c] : List Value)[q]? := fun q hq => by
            have := hc q hq
            rw [Go.WideShapes.add_plain, Go.WideShapes.add_plain] at this
            exact this
          refine ⟨.cons k a1 a2 b1 b2 xs t r, by simp [Bd.len, hr1], ⟨hs.nums, hs.args, hs.fit, hr2⟩, ⟨hc' 0 (by omega), hc' 1 (by omega), hc' 2 (by omega), hc' 3 (by omega), hc' 4 (by omega)⟩, ⟨_, hc' 5 (by omega), hA⟩, ⟨A, c, hc' 6 (by omega), hT⟩, ?_⟩
          rw [show o + (len - (j + 1)) * 7 + 7 = o + (len - j) * 7 from by omega]
          exact hr3
      obtain ⟨t, ht, hf, hat⟩ := all len (Nat.le_refl _)
      refine ⟨some a, cap, t, by rw [ht]; exact hcs, fun hp => ⟨a.block, a.off, ?_, ?_⟩, hf, by unfold maxLen at hm; omega⟩
      · obtain ⟨b, o, sp⟩ := a
        have := hspot (by omega)
        simp only at this
        rw [this]
      · rw [Nat.sub_self, Nat.zero_mul, Nat.add_zero] at hat
        exact hat
end
end Go.Proofs.Ytpdebnecfknohaa
