/-
  Lex: what Next leaves.
-/
import Derived.Test.YtgaedkaohjphaaaLg
import Derived.Deep.RegionLaw
namespace Go.Proofs.Ytgaedkaohjphaaa
open Go.RowKit
set_option linter.unusedVariables false
set_option linter.unusedSimpArgs false
set_option maxRecDepth 20000

/-- The next token: it, the place and the kind of the fault, and where the lexer stands then. -/
def nextF (p : List UInt8) (a : Nat) : Tok × Nat × Nat × Nat :=
  if (skipF p (p.length + 1) a).2 = false then (tok0, (skipF p (p.length + 1) a).1, 7, a)
  else if (readF p (skipF p (p.length + 1) a).1).2.2 = false then (tok0, (readF p (skipF p (p.length + 1) a).1).2.1, 7, a)
  else ((readF p (skipF p (p.length + 1) a).1).1, 0, 0, (readF p (skipF p (p.length + 1) a).1).2.1)
/-- A lexer that stands at a place of a text. -/
structure LexR (w : World) (q : Nat) (A : Option Addr) (n c : Nat) (p : List UInt8) (a : Nat) : Prop where
  box : Blk w q 52 #[.slice A n c, .int .i64 (a : Int)]
  src : Src w A n p
  cap : n ≤ c
  big : n ≤ 1000000000
  at_ : a ≤ n
  glob : G0 w
theorem LexR.old {w w' : World} {q : Nat} {A : Option Addr} {n c : Nat} {p : List UInt8} {a : Nat} (h : LexR w q A n c p a) (hb : Below w.heap.size w w') : LexR w' q A n c p a :=
  ⟨h.box.old hb, h.src.old hb, h.cap, h.big, h.at_, h.glob.old hb⟩
/-- It goes on. -/
theorem LexR.move {w w' : World} {q : Nat} {A : Option Addr} {n c : Nat} {p : List UInt8} {a : Nat} (h : LexR w q A n c p a) (a' : Nat) (ha : a' ≤ n) (hbox : Blk w' q 52 #[.slice A n c, .int .i64 (a' : Int)]) (hk : ∀ k, k < w.heap.size → k ≠ q → w'.heap[k]? = w.heap[k]?) : LexR w' q A n c p a' := by
  refine ⟨hbox, ⟨h.src.1, fun hp => ?_⟩, h.cap, h.big, ha, ?_⟩
  · obtain ⟨b, o, rfl, hc⟩ := h.src.2 hp
    refine ⟨b, o, rfl, fun i hi => ?_⟩
    have hbq : b ≠ q := fun e => by
      subst e
      have h0 := hc i hi
      rw [h.box.cell] at h0
      rcases (show o + i = 0 ∨ o + i = 1 ∨ 2 ≤ o + i by omega) with e | e | e
      · rw [e] at h0; simp at h0
      · rw [e] at h0; simp at h0
      · rw [Array.getElem?_eq_none (by simpa using e)] at h0; cases h0
    exact (World.cell?_of_block (hk b (World.block_lt_of_cell? w _ (hc i hi)) hbq)).trans (hc i hi)
  · obtain ⟨m, hm⟩ := h.glob
    have h0 : 0 ≠ q := fun e => by
      subst e
      rw [h.box.cell] at hm
      simp at hm
    exact ⟨m, (World.cell?_of_block (hk 0 (World.block_lt_of_cell? w _ hm) h0)).trans hm⟩
theorem rqF_le (p : List UInt8) : ∀ (f a : Nat) (acc : List UInt8), a ≤ p.length → (rqF p f a acc).2.1 ≤ p.length
  | 0, a, _, h => h
  | f + 1, a, acc, h => by
    unfold rqF
    split
    · rename_i h1
      split
      · exact h
      · have := qbF_le (p.drop a) (by rw [List.length_drop]; omega)
        rw [List.length_drop] at this
        exact rqF_le p f _ _ (by omega)
    · split
      · exact h
      · simp only; omega
theorem rnF_le (p : List UInt8) (a : Nat) (h : a ≤ p.length) : (rnF p a).2.1 ≤ p.length := by
  unfold rnF
  split
  · rename_i h1
    exact rqF_le p _ _ _ (by omega)
  · have := bareF_le (p.drop a)
    rw [List.length_drop] at this
    simp only
    omega
theorem readF_le (p : List UInt8) (a : Nat) (h : a ≤ p.length) : (readF p a).2.2 = true → (readF p a).2.1 ≤ p.length := fun _ => by
  unfold readF
  split
  · simp only; omega
  · split
    · have := cntW_le smallB (p.drop a)
      rw [List.length_drop] at this
      simp only
      omega
    · split
      · exact rnF_le p (a + 1) (by omega)
      · split
        · simp only; omega
        · simp only; omega
/-- What the call of Next leaves. -/
def NextB (B : Nat) (w : World) (q : Nat) (A : Option Addr) (n c : Nat) (p : List UInt8) (v : Tok × Nat × Nat × Nat) (e : Ending) (w' : World) : Prop :=
  e = .returned (.tuple #[.agg v.1.cells, .int .i64 (v.2.1 : Int), .int .i64 (v.2.2.1 : Int)]) ∧ Below B w w' ∧ (∀ k, k < w.heap.size → k ≠ q → w'.heap[k]? = w.heap[k]?) ∧ LexR w' q A n c p v.2.2.2
set_option maxHeartbeats 8000000 in
theorem next_any (B q : Nat) (A : Option Addr) (n c a : Nat) (p : List UInt8) (w : World) (h : LexR w q A n c p a) (hq : B ≤ q) :
    Calls Try.prog 13 #[.pointer (some ⟨q, 0, none⟩)] w (NextB B w q A n c p (nextF p a)) := by
  obtain ⟨v, hv⟩ : ∃ v, v = nextF p a := ⟨_, rfl⟩
  rw [← hv]
  unfold nextF at hv
  have hl : p.length = n := h.src.1
  have HL := Lib.hid hl
  have hcap := h.cap
  have hbig := h.big
  have hat := h.at_
  have hqB : B ≤ w.heap.size := Nat.le_trans hq (Nat.le_of_lt h.box.lt)
  obtain ⟨w1, hw1⟩ : ∃ w1, w1 = w.alloc (.cells #[.int .u8 0, .int .u8 0, .string ⟨#[]⟩, .int .i64 0] 30) := ⟨_, rfl⟩
  have HB1 : Hid (Below w.heap.size w w1) := by rw [hw1]; exact (Below.refl _ _).alloc (Nat.le_refl _) _
  have K1 : Hid (Blk w1 w.heap.size 30 #[.int .u8 0, .int .u8 0, .string ⟨#[]⟩, .int .i64 0]) := by rw [hw1]; exact Blk.new w 30 _
  have HX0 := Lib.hid h
  have HX1 := Lib.hid (h.old HB1.out)
  have HQ : Hid (q < w.heap.size) := h.box.lt
  have HSk := Lib.hid (fun wx (hx : Below w1.heap.size w1 wx) => skip_any A n c a (p.length + 1) p wx (HX1.out.old hx).src hcap hbig hat (by omega) (HX1.out.old hx).glob)
  have hsl := skipF_le p (p.length + 1) a (by omega)
  have HRd := Lib.hid (fun wx (hx : Below w1.heap.size w1 wx) => read_any A n c (skipF p (p.length + 1) a).1 p wx (HX1.out.old hx).src hcap hbig (by omega))
  have hrl := readF_le p (skipF p (p.length + 1) a).1 hsl.2
  generalize skipF p (p.length + 1) a = sk at *
  obtain ⟨s, ok⟩ := sk
  dsimp only at *
  generalize readF p s = rd at *
  obtain ⟨t, e1, ok1⟩ := rd
  dsimp only at *
  have HV := Lib.hid hv
  rw [hl] at hsl hrl
  have HRL := Lib.hid hrl
  clear hv hl h hrl
  go_enter Try.func13, Try.ntmps13
  go_upto_region 1 with (fail)
  rw [← hw1]
  clear hw1
  obtain ⟨b0, b1⟩ := HX1.out.box.c2
  have zq : q < w1.heap.size := HX1.out.box.lt
  go_upto_region 3 with (fail)
  go_cut [5, 6] (fun s5 s6 wz => s5 = .int .i64 (s : Int) ∧ s6 = .bool ok ∧ Hid (Below w1.heap.size w1 wz))
  case first =>
    go_region_law ((go_simp; go_at_call 23; refine (HSk.out _ (by first | exact Below.refl _ _ | exact (Below.refl _ _).drew | exact below_dn _ _ _)).mono ?_; rintro e w2 ⟨rfl, hb2⟩))
    all_goals
      simp only [List.getElem_toArray, List.getElem_cons_succ, List.getElem_cons_zero, Act.put, List.setIfInBounds_toArray, List.set_cons_zero, List.set_cons_succ]
      go_wp2
      go_meet
      case rel => exact ⟨rfl, rfl, ((Below.refl w1.heap.size w1).drew).trans hb2⟩
  case rest =>
    obtain ⟨rfl, rfl, hbc⟩ := hcut
    have HBC := Lib.hid (HB1.out.trans (hbc.out.mono HB1.out.size))
    have K2 := Lib.hid (K1.out.old hbc.out)
    clear b0 b1 zq HSk
    cases ok with
    | false =>
      have hvv := HV.out
      rw [if_pos rfl] at hvv
      subst hvv
      clear HV HRd HRL
      obtain ⟨k0, k1, k2, k3⟩ := K2.out.c4
      have f0 := K2.out.frozen 0
      have f1 := K2.out.frozen 1
      have f2 := K2.out.frozen 2
      have f3 := K2.out.frozen 3
      have z2 : w.heap.size < wc.heap.size := K2.out.lt
      go_wp2
      have hbf := set4B HBC.out (Nat.le_refl _) (.int .u8 0) (.int .u8 0) (.string ⟨#[]⟩) (.int .i64 0)
      obtain ⟨q0, q1, q2, q3⟩ := (K2.out.set4 (.int .u8 0) (.int .u8 0) (.string ⟨#[]⟩) (.int .i64 0)).c4
      refine bodyPost_ret (v := .tuple #[.agg #[.int .u8 0, .int .u8 0, .string ⟨#[]⟩, .int .i64 0], .int .i64 (s : Int), .int .i64 7]) (by simp [results, Try.results13, go_sem, q0, q1, q2, q3]) rfl ?_
      exact ⟨rfl, hbf.mono hqB, fun k hk _ => hbf.block k hk, HX0.out.old hbf⟩
    | true =>
      have hvv := HV.out
      simp only [Bool.true_eq_false, if_false] at hvv
      have HV := Lib.hid hvv
      clear hvv
      have HX2 := Lib.hid (HX1.out.old hbc.out)
      obtain ⟨b0, b1⟩ := HX2.out.box.c2
      have zq : q < wc.heap.size := HX2.out.box.lt
      go_wp2_with fail
      refine (HRd.out wc hbc.out).mono ?_
      rintro e w3 ⟨rfl, hb3⟩
      have HB3 := Lib.hid (hbc.out.trans (hb3.mono hbc.out.size))
      have HX3 := Lib.hid (HX2.out.old hb3)
      have K3 := Lib.hid (K2.out.old hb3)
      clear b0 b1 zq hb3 HRd K2 HX2
      dsimp only
      have hqg : q ≠ w.heap.size := by have := HQ.out; omega
      obtain ⟨tk, tm, tt, ta⟩ := t
      obtain ⟨k0, k1, k2, k3⟩ := K3.out.c4
      have f0 := K3.out.frozen 0
      have f1 := K3.out.frozen 1
      have f2 := K3.out.frozen 2
      have f3 := K3.out.frozen 3
      have z2 : w.heap.size < w3.heap.size := K3.out.lt
      obtain ⟨b0, b1⟩ := HX3.out.box.c2
      have g1 := HX3.out.box.frozen 1
      have zq : q < w3.heap.size := HX3.out.box.lt
      simp only [Tok.cells]
      cases ok1 with
      | false =>
        go_wp2
        rw [HV.out]
        have hb0 := set4B (HB1.out.trans (HB3.out.mono HB1.out.size)) (Nat.le_refl _) (.int .u8 0) (.int .u8 0) (.string ⟨#[]⟩) (.int .i64 0)
        have hbf := hb0.alloc hb0.size (.cells #[.int .u8 (tk : Int), .int .u8 (tm.toNat : Int), .string (bs tt), .int .i64 (ta : Int)] 30)
        obtain ⟨q0, q1, q2, q3⟩ := ((K3.out.set4 (.int .u8 0) (.int .u8 0) (.string ⟨#[]⟩) (.int .i64 0)).alloc (.cells #[.int .u8 (tk : Int), .int .u8 (tm.toNat : Int), .string (bs tt), .int .i64 (ta : Int)] 30)).c4
        refine bodyPost_ret (v := .tuple #[.agg #[.int .u8 0, .int .u8 0, .string ⟨#[]⟩, .int .i64 0], .int .i64 (e1 : Int), .int .i64 7]) (by simp [results, Try.results13, go_sem, q0, q1, q2, q3]) rfl ?_
        exact ⟨rfl, hbf.mono hqB, fun k hk _ => hbf.block k hk, HX0.out.old hbf⟩
      | true =>
        go_wp2
        rw [HV.out]
        have hw3 := HB1.out.trans (HB3.out.mono HB1.out.size)
        have hb0 := set4B ((hw3.mono hqB).setCell (p := ⟨q, 1, none⟩) hq (.int .i64 (e1 : Int))) hqB (.int .u8 (tk : Int)) (.int .u8 (tm.toNat : Int)) (.string (bs tt)) (.int .i64 (ta : Int))
        have hbf := hb0.alloc (Nat.le_trans hqB hb0.size) (.cells #[.int .u8 (tk : Int), .int .u8 (tm.toNat : Int), .string (bs tt), .int .i64 (ta : Int)] 30)
        obtain ⟨q0, q1, q2, q3⟩ := (((K3.out.far (p := ⟨q, 1, none⟩) (fun e => hqg e.symm) (.int .i64 (e1 : Int))).set4 (.int .u8 (tk : Int)) (.int .u8 (tm.toNat : Int)) (.string (bs tt)) (.int .i64 (ta : Int))).alloc (.cells #[.int .u8 (tk : Int), .int .u8 (tm.toNat : Int), .string (bs tt), .int .i64 (ta : Int)] 30)).c4
        have hQ : Blk _ q 52 #[.slice A n c, .int .i64 (e1 : Int)] := ((((((HX3.out.box.set_ 1 (.int .i64 (e1 : Int)))).far (p := ⟨w.heap.size, 0, none⟩) hqg (.int .u8 (tk : Int))).far (p := ⟨w.heap.size, 1, none⟩) hqg (.int .u8 (tm.toNat : Int))).far (p := ⟨w.heap.size, 2, none⟩) hqg (.string (bs tt))).far (p := ⟨w.heap.size, 3, none⟩) hqg (.int .i64 (ta : Int))).alloc (.cells #[.int .u8 (tk : Int), .int .u8 (tm.toNat : Int), .string (bs tt), .int .i64 (ta : Int)] 30)
        have hsame : ∀ k, k < w.heap.size → k ≠ q → ((((((w3.setCell ⟨q, 1, none⟩ (.int .i64 (e1 : Int))).setCell ⟨w.heap.size, 0, none⟩ (.int .u8 (tk : Int))).setCell ⟨w.heap.size, 1, none⟩ (.int .u8 (tm.toNat : Int))).setCell ⟨w.heap.size, 2, none⟩ (.string (bs tt))).setCell ⟨w.heap.size, 3, none⟩ (.int .i64 (ta : Int))).alloc (.cells #[.int .u8 (tk : Int), .int .u8 (tm.toNat : Int), .string (bs tt), .int .i64 (ta : Int)] 30)).heap[k]? = w.heap[k]? := fun k hk hkq => by
          have hg : k ≠ w.heap.size := by omega
          rw [heap_alloc_old _ _ (Nat.lt_of_lt_of_le hk hb0.size), Below.heap_setCell _ _ _ _ hg, Below.heap_setCell _ _ _ _ hg, Below.heap_setCell _ _ _ _ hg, Below.heap_setCell _ _ _ _ hg, Below.heap_setCell _ _ _ _ hkq, hw3.block k hk]
        refine bodyPost_ret (v := .tuple #[.agg #[.int .u8 (tk : Int), .int .u8 (tm.toNat : Int), .string (bs tt), .int .i64 (ta : Int)], .int .i64 0, .int .i64 0]) (by simp [results, Try.results13, go_sem, q0, q1, q2, q3]) rfl ?_
        exact ⟨rfl, hbf, hsame, HX0.out.move e1 (HRL.out (by trivial)) hQ hsame⟩
end Go.Proofs.Ytgaedkaohjphaaa
