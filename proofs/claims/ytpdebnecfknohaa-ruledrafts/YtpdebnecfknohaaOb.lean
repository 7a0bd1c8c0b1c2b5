
/-
  What is handed in: bodies, and how great they are by their bulk; drafts.
-/
import Derived.Test.YtpdebnecfknohaaRows
import Derived.Test.YtpdebnecfknohaaOp
import Derived.Test.YtpdebnecfknohaaMh
namespace Go.Proofs.Ytpdebnecfknohaa
open Go.RowKit
set_option linter.unusedVariables false
set_option maxRecDepth 20000

theorem bulk_one {H : Type} (d : DataW H) : 1 ≤ Rows.uptoBulk d := by
  cases d with
  | lit l => cases l <;> simp [Rows.uptoBulk]
  | nil => simp [Rows.uptoBulk]
  | ptr d => simp [Rows.uptoBulk]
  | slice elems spare => simp [Rows.uptoBulk]
  | agg parts => simp [Rows.uptoBulk]
  | iface t d => simp [Rows.uptoBulk]
  | map entries => simp [Rows.uptoBulk]
  | held h => simp [Rows.uptoBulk]
theorem bulk_len {H : Type} (l : List (DataW H)) : l.length ≤ Rows.uptoBulkAll l := by
  induction l with
  | nil => simp [Rows.uptoBulkAll]
  | cons x r ih => have := bulk_one x; simp only [Rows.uptoBulkAll, List.length_cons]; omega

section
variable {H : Type} {enc : TypeId × Value → H} {w : World} {base : Nat} {spare : Nat → Bool} {held : Bool}

theorem bulk_args {fuel : Nat} {A : Option Addr} {n c : Nat} {x : DataW H × List MemPlace} (h : DataW.trod enc Try.prog w base spare held fuel 48 [.slice A n c] = some x) : n ≤ Rows.uptoBulk x.1 := by
  rcases DataW.trod_slice Try.underlying48 h with ⟨h0, _⟩ | ⟨a, len, cap, elems, rest, m, hn, hcs, hx, hb, hl, hm, hlen, hel, _, _⟩
  · simp at h0; omega
  · simp at hcs
    obtain ⟨_, rfl, _⟩ := hcs
    rw [hx]
    have := bulk_len (elems.map (·.1))
    simp only [Rows.uptoBulk]
    simp at this
    omega
theorem open_stmtB {fuel : Nat} {cs : List Value} {x : DataW H × List MemPlace} (ih : ∀ n, n < fuel → ∀ cs x, DataW.trod enc Try.prog w base spare held n 38 cs = some x → ∃ A c t, cs = [.slice A t.len c] ∧ BodyV w A t ∧ t.size + t.wide ≤ Rows.uptoBulk x.1)
    (h : DataW.trod enc Try.prog w base spare held fuel 50 cs = some x) : ∃ k a1 a2 b1 b2 xs t, (∃ Aa ca A c, cs = [.int .u8 k, .int .u8 a1, .int .i64 a2, .int .u8 b1, .int .i64 b2, .slice Aa xs.length ca, .slice A t.len c] ∧ ArgsAt w (.slice Aa xs.length ca) xs ∧ BodyV w A t) ∧ t.size + t.wide + xs.length + 1 ≤ Rows.uptoBulk x.1 := by
  obtain ⟨ys, n, hn, hx, hl, hxl, hg⟩ := DataW.trod_struct Try.underlying50 h
  rw [cells50] at hl
  match ys, hxl, cs, hl with
  | [y0, y1, y2, y3, y4], _, [c0, c1, c2, c3, c4, c5, c6], _ =>
    have g0 : DataW.trod enc Try.prog w base spare held n 5 ((List.drop 0 [c0, c1, c2, c3, c4, c5, c6]).take (Try.prog.cellsOf 5)) = some y0 := hg 0 _ rfl
    have g1 : DataW.trod enc Try.prog w base spare held n 46 ((List.drop 1 [c0, c1, c2, c3, c4, c5, c6]).take (Try.prog.cellsOf 46)) = some y1 := hg 1 _ rfl
    have g2 : DataW.trod enc Try.prog w base spare held n 46 ((List.drop 3 [c0, c1, c2, c3, c4, c5, c6]).take (Try.prog.cellsOf 46)) = some y2 := hg 2 _ rfl
    have g3 : DataW.trod enc Try.prog w base spare held n 48 ((List.drop 5 [c0, c1, c2, c3, c4, c5, c6]).take (Try.prog.cellsOf 48)) = some y3 := hg 3 _ rfl
    have g4 : DataW.trod enc Try.prog w base spare held n 38 ((List.drop 6 [c0, c1, c2, c3, c4, c5, c6]).take (Try.prog.cellsOf 38)) = some y4 := hg 4 _ rfl
    rw [cells5] at g0
    rw [cells46] at g1 g2
    rw [cells48] at g3
    rw [cells38] at g4
    obtain ⟨z0, h0, _, w0⟩ := DataW.trod_int Try.underlying5 (g0)
    obtain ⟨a1, a2, h1, w1, w2⟩ := open_ref (g1)
    obtain ⟨b1, b2, h2, w3, w4⟩ := open_ref (g2)
    obtain ⟨Aa, ca, xs, h3, w5, w6⟩ := open_args (g3)
    obtain ⟨A, c, t, h4, w7, w8⟩ := ih n (by omega) _ _ (g4)
    simp at h0 h1 h2 h3 h4
    obtain ⟨rfl, rfl⟩ := h1
    obtain ⟨rfl, rfl⟩ := h2
    subst h0; subst h3; subst h4
    have hb := bulk_args (g3 : DataW.trod enc Try.prog w base spare held n 48 [.slice Aa xs.length ca] = some y3)
    refine ⟨z0, a1, a2, b1, b2, xs, t, ⟨Aa, ca, A, c, rfl, w5, w7⟩, ?_⟩
    rw [hx]
    simp only [List.map, Rows.uptoBulk, Rows.uptoBulkAll]
    omega

theorem open_bodyB : ∀ (fuel : Nat) (cs : List Value) (x : DataW H × List MemPlace), DataW.trod enc Try.prog w base spare held fuel 38 cs = some x → ∃ A c t, cs = [.slice A t.len c] ∧ BodyV w A t ∧ t.size + t.wide ≤ Rows.uptoBulk x.1 := by
  intro fuel
  induction fuel using Nat.strongRecOn with
  | _ fuel ih =>
    intro cs x h
    rcases DataW.trod_slice Try.underlying38 h with ⟨h0, _⟩ | ⟨a, len, cap, elems, rest, n, hn, hcs, hx, hb, hl, hm, hlen, hel, _, _⟩
    · exact ⟨none, 0, .nil, h0, fun h => by simp [Bd.len] at h, by simp [Bd.size, Bd.wide]⟩
    · have each : ∀ i, (hi : i < len) → ∃ cs' k a1 a2 b1 b2 xs t, (∀ j, j < 7 → w.cell? ((a.add (i * 7)).add j) = cs'[j]?) ∧ (∃ Aa ca A c, cs' = [.int .u8 k, .int .u8 a1, .int .i64 a2, .int .u8 b1, .int .i64 b2, .slice Aa xs.length ca, .slice A t.len c] ∧ ArgsAt w (.slice Aa xs.length ca) xs ∧ BodyV w A t) ∧ t.size + t.wide + xs.length + 1 ≤ Rows.uptoBulk (elems[i]'(by omega)).1 := fun i hi => by
        have h1 := hel i hi
        rw [List.getElem?_eq_getElem (by omega), cells50, Option.bind_eq_some_iff] at h1
        obtain ⟨cs', h2, h3⟩ := h1
        obtain ⟨_, _, hat⟩ := World.cells?_some h2
        obtain ⟨k, a1, a2, b1, b2, xs, t, hs, hbk⟩ := open_stmtB (fun n' hn' => ih n' (by omega)) h3
        exact ⟨cs', k, a1, a2, b1, b2, xs, t, hat, hs, hbk⟩
      have hspot : 0 < len → a.spot = none := fun hp => by
        obtain ⟨cs', k, a1, a2, b1, b2, xs, t, hc, ⟨Aa, ca, A, c, rfl, _, _⟩, _⟩ := each 0 hp
        have := World.cell?_spot (v := .int .u8 k) (hc 0 (by omega))
        simpa [Addr.add] using this
      have all : ∀ j, j ≤ len → ∃ t : Bd, t.len = j ∧ t.size + t.wide ≤ Rows.uptoBulkAll ((elems.drop (len - j)).map (·.1)) ∧ BdAt w a.block (a.off + (len - j) * 7) t := by
        intro j
        induction j with
        | zero => exact fun _ => ⟨.nil, rfl, by simp [Bd.size, Bd.wide], trivial⟩
        | succ j ihj =>
          intro hj
          obtain ⟨r, hr1, hr2, hr3⟩ := ihj (by omega)
          obtain ⟨cs', k, a1, a2, b1, b2, xs, t, hc, ⟨Aa, ca, A, c, rfl, hA, hT⟩, hbk⟩ := each (len - (j + 1)) (by omega)
          have hsp := hspot (by omega)
          obtain ⟨b, o, sp⟩ := a
          simp only at hsp
          subst hsp
          have hc' : ∀ q, q < 7 → w.cell? ⟨b, o + (len - (j + 1)) * 7 + q, none⟩ = ([.int .u8 k, .int .u8 a1, .int .i64 a2, .int .u8 b1, .int .i64 b2, .slice Aa xs.length ca, .slice A t.len c] : List Value)[q]? := fun q hq => by
            have := hc q hq
            rw [Go.WideShapes.add_plain, Go.WideShapes.add_plain] at this
            exact this
          have hd : elems.drop (len - (j + 1)) = (elems[len - (j + 1)]'(by omega)) :: elems.drop (len - j) := by
            rw [List.drop_eq_getElem_cons (by omega), show len - (j + 1) + 1 = len - j from by omega]
          refine ⟨.cons k a1 a2 b1 b2 xs t r, by simp [Bd.len, hr1], ?_, ⟨hc' 0 (by omega), hc' 1 (by omega), hc' 2 (by omega), hc' 3 (by omega), hc' 4 (by omega)⟩, ⟨_, hc' 5 (by omega), hA⟩, ⟨A, c, hc' 6 (by omega), hT⟩, ?_⟩
          · rw [hd]
            simp only [List.map_cons, Rows.uptoBulkAll, Bd.size, Bd.wide]
            omega
          · rw [show o + (len - (j + 1)) * 7 + 7 = o + (len - j) * 7 from by omega]
            exact hr3
      obtain ⟨t, ht, hf, hat⟩ := all len (Nat.le_refl _)
      refine ⟨some a, cap, t, by rw [ht]; exact hcs, fun hp => ⟨a.block, a.off, ?_, ?_⟩, ?_⟩
      · obtain ⟨b, o, sp⟩ := a
        have := hspot (by omega)
        simp only at this
        rw [this]
      · rw [Nat.sub_self, Nat.zero_mul, Nat.add_zero] at hat
        exact hat
      · rw [hx]
        simp only [Rows.uptoBulk]
        rw [Nat.sub_self, List.drop_zero] at hf
        omega

theorem cells77 : Try.prog.cellsOf 77 = 4 := by kernel_rfl
theorem cells22 : Try.prog.cellsOf 22 = 1 := by kernel_rfl
theorem cells24 : Try.prog.cellsOf 24 = 4 := by kernel_rfl
theorem u8_nat {x : Int} (h : (Lit.int .u8 x).wf = true) : ∃ n : Nat, x = n ∧ n < 256 := by
  obtain ⟨h1, h2⟩ := okU8_of_wf h
  exact ⟨x.toNat, by omega, by omega⟩
theorem open_act {fuel : Nat} {cs : List Value} {x : DataW H × List MemPlace} (h : DataW.trod enc Try.prog w base spare held fuel 77 cs = some x) :
    ∃ a : Ac, cs = [.int .u8 (a.k : Int), .int .u8 (a.a : Int), .int .u8 (a.b : Int), .int .u8 (a.c : Int)] ∧ a.k < 256 ∧ a.a < 256 ∧ a.b < 256 ∧ a.c < 256 := by
  obtain ⟨xs, n, _, hx, hl, hxl, hg⟩ := DataW.trod_struct Try.underlying77 h
  rw [cells77] at hl
  match xs, hxl, cs, hl with
  | [y0, y1, y2, y3], _, [c0, c1, c2, c3], _ =>
    have g0 : DataW.trod enc Try.prog w base spare held n 5 ((List.drop 0 [c0, c1, c2, c3]).take (Try.prog.cellsOf 5)) = some y0 := hg 0 _ rfl
    have g1 : DataW.trod enc Try.prog w base spare held n 5 ((List.drop 1 [c0, c1, c2, c3]).take (Try.prog.cellsOf 5)) = some y1 := hg 1 _ rfl
    have g2 : DataW.trod enc Try.prog w base spare held n 5 ((List.drop 2 [c0, c1, c2, c3]).take (Try.prog.cellsOf 5)) = some y2 := hg 2 _ rfl
    have g3 : DataW.trod enc Try.prog w base spare held n 5 ((List.drop 3 [c0, c1, c2, c3]).take (Try.prog.cellsOf 5)) = some y3 := hg 3 _ rfl
    rw [cells5] at g0 g1 g2 g3
    obtain ⟨z0, h0, _, w0⟩ := DataW.trod_int Try.underlying5 (g0)
    obtain ⟨z1, h1, _, w1⟩ := DataW.trod_int Try.underlying5 (g1)
    obtain ⟨z2, h2, _, w2⟩ := DataW.trod_int Try.underlying5 (g2)
    obtain ⟨z3, h3, _, w3⟩ := DataW.trod_int Try.underlying5 (g3)
    simp at h0 h1 h2 h3
    subst h0; subst h1; subst h2; subst h3
    obtain ⟨n0, rfl, l0⟩ := u8_nat w0
    obtain ⟨n1, rfl, l1⟩ := u8_nat w1
    obtain ⟨n2, rfl, l2⟩ := u8_nat w2
    obtain ⟨n3, rfl, l3⟩ := u8_nat w3
    exact ⟨⟨n0, n1, n2, n3⟩, rfl, l0, l1, l2, l3⟩
instance : Inhabited Ac := ⟨⟨0, 0, 0, 0⟩⟩
theorem open_acts {fuel : Nat} {cs : List Value} {x : DataW H × List MemPlace} (h : DataW.trod enc Try.prog w base spare held fuel 22 cs = some x) :
    ∃ (A : Option Addr) (c : Nat) (l : List Ac), cs = [.slice A l.length c] ∧ AcsAt w A l ∧ (∀ x ∈ l, x.k < 256 ∧ x.a < 256 ∧ x.b < 256 ∧ x.c < 256) ∧ l.length ≤ 9223372036854775807 := by
  rcases DataW.trod_slice Try.underlying22 h with ⟨h0, _⟩ | ⟨a, len, cap, elems, rest, n, hn, hcs, hx, hb, hl, hm, hlen, hel, _, _⟩
  · exact ⟨none, 0, [], h0, fun h => by simp at h, by simp, by simp⟩
  · have each : ∀ i, i < len → ∃ q : Ac, (∀ j, j < 4 → w.cell? ((a.add (i * 4)).add j) = ([.int .u8 (q.k : Int), .int .u8 (q.a : Int), .int .u8 (q.b : Int), .int .u8 (q.c : Int)] : List Value)[j]?) ∧ q.k < 256 ∧ q.a < 256 ∧ q.b < 256 ∧ q.c < 256 := fun i hi => by
      have h1 := hel i hi
      rw [List.getElem?_eq_getElem (by omega), cells77, Option.bind_eq_some_iff] at h1
      obtain ⟨cs', h2, h3⟩ := h1
      obtain ⟨_, _, hat⟩ := World.cells?_some h2
      obtain ⟨q, rfl, hq⟩ := open_act h3
      exact ⟨q, hat, hq⟩
    obtain ⟨q, hq⟩ := Go.Deep.choose_lt each
    have hln : ((List.range len).map q).length = len := by simp
    refine ⟨some a, cap, (List.range len).map q, by rw [hln]; exact hcs, fun hp => ?_, fun z hz => ?_, by rw [hln]; unfold maxLen at hm; omega⟩
    · have hp' : 0 < len := by simpa using hp
      obtain ⟨b, off, spot⟩ := a
      have hspot : spot = none := by
        have := World.cell?_spot (v := .int .u8 ((q 0).k : Int)) ((hq 0 hp').1 0 (by omega))
        simpa [Addr.add] using this
      subst hspot
      refine ⟨b, off, rfl, fun i hi => ?_⟩
      have hi' : i < len := by simpa using hi
      have hc := (hq i hi').1
      have e := fun j hj => (Go.WideShapes.add_plain _ _ _ ▸ Go.WideShapes.add_plain _ _ _ ▸ hc j hj : w.cell? ⟨b, off + i * 4 + j, none⟩ = _)
      simp only [List.getElem_map, List.getElem_range]
      exact ⟨e 0 (by omega), e 1 (by omega), e 2 (by omega), e 3 (by omega)⟩
    · obtain ⟨i, hi, rfl⟩ := List.mem_map.1 hz
      exact (hq i (List.mem_range.1 hi)).2
/-- What a draft's cells are. -/
theorem open_draft {fuel : Nat} {cs : List Value} {x : DataW H × List MemPlace} (h : DataW.trod enc Try.prog w base spare held fuel 24 cs = some x) :
    ∃ (G F E : Nat) (A : Option Addr) (c : Nat) (l : List Ac), cs = [.int .u8 (G : Int), .int .u8 (F : Int), .int .u8 (E : Int), .slice A l.length c] ∧ G < 256 ∧ F < 256 ∧ E < 256 ∧ AcsAt w A l ∧ (∀ x ∈ l, x.k < 256 ∧ x.a < 256 ∧ x.b < 256 ∧ x.c < 256) ∧ l.length ≤ 9223372036854775807 := by
  obtain ⟨xs, n, _, hx, hl, hxl, hg⟩ := DataW.trod_struct Try.underlying24 h
  rw [cells24] at hl
  match xs, hxl, cs, hl with
  | [y0, y1, y2, y3], _, [c0, c1, c2, c3], _ =>
    have g0 : DataW.trod enc Try.prog w base spare held n 5 ((List.drop 0 [c0, c1, c2, c3]).take (Try.prog.cellsOf 5)) = some y0 := hg 0 _ rfl
    have g1 : DataW.trod enc Try.prog w base spare held n 5 ((List.drop 1 [c0, c1, c2, c3]).take (Try.prog.cellsOf 5)) = some y1 := hg 1 _ rfl
    have g2 : DataW.trod enc Try.prog w base spare held n 5 ((List.drop 2 [c0, c1, c2, c3]).take (Try.prog.cellsOf 5)) = some y2 := hg 2 _ rfl
    have g3 : DataW.trod enc Try.prog w base spare held n 22 ((List.drop 3 [c0, c1, c2, c3]).take (Try.prog.cellsOf 22)) = some y3 := hg 3 _ rfl
    rw [cells5] at g0 g1 g2
    rw [cells22] at g3
    obtain ⟨z0, h0, _, w0⟩ := DataW.trod_int Try.underlying5 (g0)
    obtain ⟨z1, h1, _, w1⟩ := DataW.trod_int Try.underlying5 (g1)
    obtain ⟨z2, h2, _, w2⟩ := DataW.trod_int Try.underlying5 (g2)
    obtain ⟨A, c, l, h3, w3⟩ := open_acts (g3)
    simp at h0 h1 h2 h3
    subst h0; subst h1; subst h2; subst h3
    obtain ⟨n0, rfl, l0⟩ := u8_nat w0
    obtain ⟨n1, rfl, l1⟩ := u8_nat w1
    obtain ⟨n2, rfl, l2⟩ := u8_nat w2
    exact ⟨n0, n1, n2, A, c, l, rfl, l0, l1, l2, w3⟩
end
end Go.Proofs.Ytpdebnecfknohaa
