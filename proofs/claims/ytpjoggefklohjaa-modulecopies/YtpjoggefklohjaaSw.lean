/-
  What SameBody leaves.
-/
import Derived.Test.YtpjoggefklohjaaEf
import Derived.Maps.AppendAt
import Derived.Lib.AppendZerosOnto
namespace Go.Proofs.Ytpjoggefklohjaa
open Go.RowKit
set_option linter.unusedVariables false

/-- Two bodies that are to be held against each other, with the slices that say them. -/
structure Pn where
  A : Option Addr
  B : Option Addr
  c : Nat
  d : Nat
  t : Bd
  u : Bd
def flatP : List Pn → List Value
  | [] => []
  | p :: P => .slice p.A p.t.len p.c :: .slice p.B p.u.len p.d :: flatP P
theorem flatP_len (P : List Pn) : (flatP P).length = P.length * 2 := by
  induction P with
  | nil => rfl
  | cons p P ih => simp only [flatP, List.length_cons, ih]; omega
theorem flatP_append (P Q : List Pn) : flatP (P ++ Q) = flatP P ++ flatP Q := by
  induction P with
  | nil => rfl
  | cons p P ih => simp [flatP, ih]
def OKp (w : World) (p : Pn) : Prop := BodyV w p.A p.t ∧ BodyV w p.B p.u ∧ p.t.wide ≤ 1000000000 ∧ p.u.wide ≤ 1000000000
def wtP : List Pn → Nat
  | [] => 0
  | p :: P => p.t.size + p.u.size + 1 + wtP P
theorem wtP_append (P Q : List Pn) : wtP (P ++ Q) = wtP P + wtP Q := by
  induction P with
  | nil => simp [wtP]
  | cons p P ih => simp only [List.cons_append, wtP, ih]; omega
theorem len_wtP (P : List Pn) : P.length ≤ wtP P := by
  induction P with
  | nil => simp [wtP]
  | cons p P ih => simp only [List.length_cons, wtP]; omega
def allP (P : List Pn) : Bool := P.all fun p => p.t.same p.u
theorem allP_append (P Q : List Pn) : allP (P ++ Q) = (allP P && allP Q) := by simp [allP]
theorem info77 : (Try.prog.info? 77).map (fun i => (i.zero, i.size, i.bytes)) = some (some (.agg #[.slice none 0 0, .slice none 0 0]), 2, 48) := by kernel_rfl
/-- The last pair of a row, and the row without it. -/
theorem own_pop {w : World} {base : Nat} {v : Value} {P : List Pn} {p : Pn} (h : w.ownsRow base 77 2 v (P ++ [p]).length (flatP (P ++ [p]))) :
    ∃ q cap, v = .slice (some ⟨q, 0, none⟩) (P.length + 1) cap ∧ P.length + 1 ≤ cap ∧ cap ≤ 9223372036854775807 ∧ w.cell? ⟨q, P.length * 2, none⟩ = some (.slice p.A p.t.len p.c) ∧ w.cell? ⟨q, P.length * 2 + 1, none⟩ = some (.slice p.B p.u.len p.d) ∧
      w.ownsRow base 77 2 (.slice (some ⟨q, 0, none⟩) P.length cap) P.length (flatP P) := by
  have hl : (P ++ [p]).length = P.length + 1 := by simp
  rw [hl, flatP_append] at h
  rcases h.2 with ⟨_, hn⟩ | ⟨q, cap, cur, hv, h2, hk, h3, h4, h5, h6⟩
  · omega
  · have hfl := flatP_len P
    have g : ∀ j, j < (P.length + 1) * 2 → cur[j]? = (flatP P ++ flatP [p])[j]? := fun j hj => by
      rw [← h6, List.getElem?_take_of_lt hj, Array.getElem?_toList]
    refine ⟨q, cap, hv, h3, by unfold maxLen at h4; omega, ?_, ?_, ⟨hfl, .inr ⟨q, cap, cur, rfl, h2, hk, by omega, h4, h5, ?_⟩⟩⟩
    · rw [cell_of_row w q _ cur 77 (0, 0) hk, g _ (by omega), List.getElem?_append_right (by omega), hfl, Nat.sub_self]; rfl
    · rw [cell_of_row w q _ cur 77 (0, 0) hk, g _ (by omega), List.getElem?_append_right (by omega), hfl, show P.length * 2 + 1 - P.length * 2 = 1 from by omega]; rfl
    · have := congrArg (List.take (P.length * 2)) h6
      rw [List.take_take, show min (P.length * 2) ((P.length + 1) * 2) = P.length * 2 from by omega] at this
      rw [this, ← hfl]
      exact List.take_left
/-- A pair more. -/
theorem own_push (base : Nat) (v : Value) (P : List Pn) (p : Pn) (w : World) (h : w.ownsRow base 77 2 v P.length (flatP P)) (hl : P.length ≤ 1000000000) (hb : base ≤ w.heap.size) :
    ∃ v' w', (Builtin.append_ #[78, 78] 78 #[v, .slice (some ⟨w.heap.size, 0, none⟩) 1 1]).run Try.prog (w.alloc (.cells #[.slice p.A p.t.len p.c, .slice p.B p.u.len p.d] 77)) = .ok v' w' ∧ w'.ownsRow base 77 2 v' (P ++ [p]).length (flatP (P ++ [p])) ∧ (w.alloc (.cells #[.slice p.A p.t.len p.c, .slice p.B p.u.len p.d] 77)).grownBy w' v.ownBlock ∧ (v'.ownBlock = v.ownBlock ∨ v'.ownBlock = some (w.heap.size + 1)) := by
  obtain ⟨i0, hi0, hz0, hz1, hz2⟩ := info_parts info77
  have hc : ∀ j u, ([.slice p.A p.t.len p.c, .slice p.B p.u.len p.d] : List Value)[j]? = some u → (w.alloc (.cells #[.slice p.A p.t.len p.c, .slice p.B p.u.len p.d] 77)).cell? ((⟨w.heap.size, 0, none⟩ : Addr).add j) = some u := by
    intro j u hj
    rw [Go.WideShapes.add_plain, cell_of_row _ w.heap.size _ _ 77 (0, 0) (heap_alloc_new w _), Nat.zero_add]
    simpa using hj
  obtain ⟨v5, w5, hr5, hO5, hg5, _, hat5⟩ := run_append_own_at (P := Try.prog) (w.alloc (.cells #[.slice p.A p.t.len p.c, .slice p.B p.u.len p.d] 77)) base 78 78 77 i0 (.agg #[.slice none 0 0, .slice none 0 0]) 2 48 Try.underlying78 hi0 hz0 hz1 hz2 rfl (by decide) v P.length (flatP P) (h.alloc _) ⟨w.heap.size, 0, none⟩ 1 1 [.slice p.A p.t.len p.c, .slice p.B p.u.len p.d] rfl hc (by intro u hu; simp at hu; rcases hu with rfl | rfl <;> rfl) (by unfold maxLen; omega) (by omega) (by simp; omega)
  refine ⟨v5, w5, hr5, ?_, hg5, ?_⟩
  · rw [flatP_append, List.length_append]; exact hO5
  · rcases hat5 with h | h
    · exact .inl h
    · exact .inr (by rw [h]; simp)
theorem Bd.same_step {k a1 a2 b1 b2 : Int} {xs : List (Int × Int)} {s1 r1 : Bd} {k' a1' a2' b1' b2' : Int} {xs' : List (Int × Int)} {s2 r2 : Bd} (h : (Bd.cons k a1 a2 b1 b2 xs s1 r1).shal (.cons k' a1' a2' b1' b2' xs' s2 r2) = true) :
    (Bd.cons k a1 a2 b1 b2 xs s1 r1).same (.cons k' a1' a2' b1' b2' xs' s2 r2) = (s1.same s2 && r1.same r2) ∧ r1.shal r2 = true := by
  simp only [Bd.shal, Bool.and_eq_true] at h
  obtain ⟨⟨⟨⟨h1, h2⟩, h3⟩, h4⟩, h5⟩ := h
  refine ⟨?_, h5⟩
  simp only [Bd.same, h1, h2, h3, h4, Bool.true_and]
theorem Bd.same_empty (s1 s2 : Bd) (h1 : s1.len = 0) (h2 : s2.len = 0) : s1.same s2 = true := by
  cases s1 with
  | nil => cases s2 with
    | nil => rfl
    | cons => simp [Bd.len] at h2
  | cons => simp [Bd.len] at h1
theorem Bd.sub_wide (t : Bd) (i : Nat) {k a1 a2 b1 b2 : Int} {xs : List (Int × Int)} {s r : Bd} (h : t.drop i = .cons k a1 a2 b1 b2 xs s r) : s.wide ≤ t.wide := by
  have := Bd.wide_drop t i
  rw [h] at this
  simp only [Bd.wide] at this
  omega
theorem own_old {w w' : World} {base e size n : Nat} {v : Value} {xs : List Value} (h : w.ownsRow base e size v n xs) (hb : Below w.heap.size w w') : w'.ownsRow base e size v n xs := by
  refine ⟨h.1, ?_⟩
  rcases h.2 with h1 | ⟨k, cap, cur, hv, h2, hk, rest⟩
  · exact .inl h1
  · exact .inr ⟨k, cap, cur, hv, h2, (hb.block k (heap_ltM hk)).trans hk, rest⟩
theorem own_sliceM {w : World} {base n : Nat} {v : Value} {xs : List Value} {e size : Nat} (h : w.ownsRow base e size v n xs) (hn : v ≠ .slice none 0 0) : ∃ q cap, v = .slice (some ⟨q, 0, none⟩) n cap := by
  rcases h.2 with ⟨h1, _⟩ | ⟨k, cap, cur, hv, _⟩
  · exact absurd h1 hn
  · exact ⟨k, cap, hv⟩
theorem alloc_sizeM (w : World) (o : Obj) : (w.alloc o).heap.size = w.heap.size + 1 := by simp
theorem grown_belowM {B : Nat} {a w w' : World} {r : Option Nat} (hb : Below B a w) (hg : w.grownBy w' r) (hB : B ≤ w.heap.size) (hr : ∀ q, r = some q → B ≤ q) : Below B a w' := hb.grown hg hB hr

set_option maxRecDepth 20000 in
set_option maxHeartbeats 4000000 in
theorem sameB_any (A B : Option Addr) (c d : Nat) (t u : Bd) (w : World) (h1 : BodyV w A t) (h2 : BodyV w B u) (hs : t.size + u.size ≤ 100000000) (hw1 : t.wide ≤ 1000000000) (hw2 : u.wide ≤ 1000000000) :
    Calls Try.prog 17 #[.slice A t.len c, .slice B u.len d] w fun e w' => e = .returned (.bool (t.same u)) ∧ Below w.heap.size w w' := by
  have HB0 : Hid (Below w.heap.size w (w.alloc (.cells #[.slice A t.len c, .slice B u.len d] 77))) := (Below.refl _ _).alloc (Nat.le_refl _) _
  have HO0 : Hid ((w.alloc (.cells #[.slice A t.len c, .slice B u.len d] 77)).ownsRow w.heap.size 77 2 (.slice (some ⟨w.heap.size, 0, none⟩) 1 1) 1 (flatP [⟨A, B, c, d, t, u⟩])) :=
    ⟨rfl, .inr ⟨w.heap.size, 1, _, rfl, Nat.le_refl _, heap_alloc_new w _, Nat.le_refl _, by unfold maxLen; omega, rfl, rfl⟩⟩
  have HK0 : Hid (∀ p ∈ [(⟨A, B, c, d, t, u⟩ : Pn)], OKp w p) := fun p hp => by
    obtain rfl := List.mem_singleton.1 hp
    exact ⟨h1, h2, hw1, hw2⟩
  clear h1 h2 hw1 hw2
  go_enter Try.func17, Try.ntmps17
  go_wp2_with fail
  go_loopg [5] (t.size + u.size + 1) (fun g s5 wr => ∃ P : List Pn, wtP P = g ∧ g ≤ 100000001 ∧ (∃ q cap, s5 = .slice (some ⟨q, 0, none⟩) P.length cap) ∧ Hid (wr.ownsRow w.heap.size 77 2 s5 P.length (flatP P)) ∧ Hid (∀ p ∈ P, OKp w p) ∧ Hid (t.same u = allP P) ∧ Hid (Below w.heap.size w wr))
  case atStart => exact ⟨[⟨A, B, c, d, t, u⟩], by simp [wtP], by omega, ⟨_, _, rfl⟩, HO0, HK0, by simp [Hid, allP], HB0⟩
  case round =>
    obtain ⟨P, hg, hgl, ⟨q0, cap0, hs5⟩, hO, hK, hE, hB⟩ := hrel
    rcases List.eq_nil_or_concat P with rfl | ⟨P0, p, rfl⟩
    · subst hs5
      go_wp2
      go_ret
      exact ⟨congrArg (fun b => Ending.returned (Value.bool b)) hE.out.symm, hB.out⟩
    · rw [List.concat_eq_append] at *
      clear hs5
      obtain ⟨q, cap, rfl, hc1, hc2, hp1, hp2, hO1⟩ := own_pop hO.out
      have hKp := hK.out p (by simp)
      have HKp := Lib.hid hKp
      have HK1 : Hid (∀ x ∈ P0, OKp w x) := fun x hx => hK.out x (by simp [hx])
      have HO1 := Lib.hid hO1
      have hwt : wtP (P0 ++ [p]) = wtP P0 + (p.t.size + p.u.size + 1) := by rw [wtP_append]; simp [wtP]
      have hlw := len_wtP P0
      have hE1 : t.same u = (allP P0 && p.t.same p.u) := by rw [hE.out, allP_append]; simp [allP]
      have HE1 := Lib.hid hE1
      obtain ⟨Ap, Bp, cp, dp, tp, up⟩ := p
      simp only at hp1 hp2 hwt HE1
      have hl1 := Bd.len_le tp
      have hl2 := Bd.len_le up
      rw [hwt] at hg
      clear hO hK hE hO1 hE1 hKp hwt
      have hlen0 : ((P0.length + 1 : Nat) : Int) - 1 = (P0.length : Int) := by omega
      have HBp := Lib.hid (hB.out.alloc hB.out.size (.cells #[.slice Ap tp.len cp, .slice Bp up.len dp] 77))
      have HPb : Hid ((wr.alloc (.cells #[.slice Ap tp.len cp, .slice Bp up.len dp] 77)).heap[wr.heap.size]? = some (.cells #[.slice Ap tp.len cp, .slice Bp up.len dp] 77 (0, 0))) := heap_alloc_new wr _
      have HOa := Lib.hid (HO1.out.alloc (.cells #[.slice Ap tp.len cp, .slice Bp up.len dp] 77))
      have hq := (HO1.out.lt q rfl).2
      have hF := eqF_any Ap Bp cp dp tp up _ (HKp.out.1.old HBp.out) (HKp.out.2.1.old HBp.out) (by omega) (by omega) HKp.out.2.2.1 HKp.out.2.2.2
      have HF := Lib.hid hF
      clear hF
      go_wp2_with fail
      refine HF.out.mono ?_
      rintro e w2 ⟨rfl, hb2⟩
      have HB2 := Lib.hid (HBp.out.trans (hb2.mono HBp.out.size))
      have HPb2 : Hid (w2.heap[wr.heap.size]? = some (.cells #[.slice Ap tp.len cp, .slice Bp up.len dp] 77 (0, 0))) := (hb2.block wr.heap.size (by simp)).trans HPb.out
      have HO2 := Lib.hid (own_old HOa.out hb2)
      have hsz2 : wr.heap.size < w2.heap.size := by have := hb2.size; simp at this; omega
      have z1 : w2.cell? ⟨wr.heap.size, 0, none⟩ = some (.slice Ap tp.len cp) := by rw [cell_of_row w2 _ _ _ 77 (0, 0) HPb2.out]; rfl
      obtain ⟨pb, hpb⟩ : ∃ pb, pb = wr.heap.size := ⟨_, rfl⟩
      rw [← hpb] at HPb2 hsz2 z1 hq
      rw [← hpb]
      have HPBE := Lib.hid hpb
      clear hpb hb2 HF HBp HPb HOa HO1 hp1 hp2 hB HO0 HB0 HK0
      cases hsh : tp.shal up
      · have HR : Hid (t.same u = false) := by show _ = _; rw [HE1.out, Bd.same_shal tp up hsh, Bool.and_false]
        clear hsh
        go_wp2
        go_ret
        exact ⟨congrArg (fun b => Ending.returned (Value.bool b)) HR.out.symm, HB2.out⟩
      · have HSH := Lib.hid hsh
        have HLE := Lib.hid (Bd.shal_len tp up hsh)
        clear hsh
        obtain ⟨G, hG⟩ : ∃ G, G = gk := ⟨gk, rfl⟩
        subst hG
        go_wp2_with fail
        go_loopg [5, 37] tp.len (fun g2 s5 s37 wi => ∃ (i : Nat) (Q : List Pn), i ≤ tp.len ∧ g2 = tp.len - i ∧ s37 = .int .i64 (i : Int) ∧ (∃ q cap, s5 = .slice (some ⟨q, 0, none⟩) Q.length cap) ∧ Hid (wi.ownsRow w.heap.size 77 2 s5 Q.length (flatP Q)) ∧ Hid (s5.ownBlock ≠ some pb) ∧ Hid (∀ p ∈ Q, OKp w p) ∧ Hid ((tp.drop i).shal (up.drop i) = true) ∧ Hid (t.same u = (allP Q && (tp.drop i).same (up.drop i))) ∧ Hid (wtP Q + (tp.drop i).size + (up.drop i).size + 1 ≤ G) ∧ Hid (wi.heap[pb]? = some (.cells #[.slice Ap tp.len cp, .slice Bp up.len dp] 77 (0, 0))) ∧ Hid (Below w.heap.size w wi))
        case atStart => exact ⟨0, P0, Nat.zero_le _, rfl, rfl, ⟨_, _, rfl⟩, HO2, (fun e => absurd (show q = pb from by injection e) (by omega)), HK1, HSH, HE1, (by show _ ≤ _; simp only [Bd.drop]; omega), HPb2, HB2⟩
        case round =>
          obtain ⟨i, Q, hi, hg2, rfl, ⟨q3, cap3, hs5⟩, hO3, hN3, hK3, hS3, hE3, hW3, hP3, hB3⟩ := hrel
          subst hs5
          by_cases hlt : i < tp.len
          · obtain ⟨k1, a1, a2, b1, b2, xs, s1, r1, hd1⟩ := Bd.drop_cons tp i hlt
            obtain ⟨k2, a1', a2', b1', b2', xs', s2, r2, hd2⟩ := Bd.drop_cons up i (by have := HLE.out; omega)
            obtain ⟨b, o, rfl, hat⟩ := HKp.out.1 (by simp only; omega)
            obtain ⟨b', o', rfl, hat'⟩ := HKp.out.2.1 (by have := HLE.out; simp only; omega)
            simp only at hat hat'
            have q1 := hat.drop tp b o i
            have q2 := hat'.drop up b' o' i
            have HW1 := Lib.hid (Bd.sub_wide tp i hd1)
            have HW2 := Lib.hid (Bd.sub_wide up i hd2)
            have hS4 := hS3.out
            have hE4 := hE3.out
            have hW4 := hW3.out
            rw [hd1] at q1 hS4 hE4 hW4
            rw [hd2] at q2 hS4 hE4 hW4
            obtain ⟨hst, hsr⟩ := Bd.same_step hS4
            rw [hst] at hE4
            simp only [Bd.size] at hW4
            obtain ⟨⟨d0, d1, d2, d3, d4⟩, ⟨va, d5, ⟨Aa, ca, rfl, _⟩⟩, ⟨As, cs, d6, hsub1⟩, _⟩ := q1
            obtain ⟨⟨f0, _, _, _, _⟩, _, ⟨As', cs', f6, hsub2⟩, _⟩ := q2
            have hbl := World.block_lt_of_cell? w ⟨b, o + i * 7, none⟩ d0
            have hbl' := World.block_lt_of_cell? w ⟨b', o' + i * 7, none⟩ f0
            have e0 := cell_old hB3.out hbl d0
            have e1 := cell_old hB3.out hbl d1
            have e2 := cell_old hB3.out hbl d2
            have e3 := cell_old hB3.out hbl d3
            have e4 := cell_old hB3.out hbl d4
            have e5 := cell_old hB3.out hbl d5
            have e6 := cell_old hB3.out hbl d6
            have hpl := heap_ltM hP3.out
            have HB4 := Lib.hid (hB3.out.alloc hB3.out.size (.cells #[.int .u8 k1, .int .u8 a1, .int .i64 a2, .int .u8 b1, .int .i64 b2, .slice Aa xs.length ca, .slice As s1.len cs] 46))
            have g6 := cell_old HB4.out hbl' f6
            have HP4 : Hid ((wr.alloc (.cells #[.int .u8 k1, .int .u8 a1, .int .i64 a2, .int .u8 b1, .int .i64 b2, .slice Aa xs.length ca, .slice As s1.len cs] 46)).heap[pb]? = some (.cells #[.slice (some ⟨b, o, none⟩) tp.len cp, .slice (some ⟨b', o', none⟩) up.len dp] 77 (0, 0))) := (heap_alloc_old wr _ hpl).trans hP3.out
            have z2 : (wr.alloc (.cells #[.int .u8 k1, .int .u8 a1, .int .i64 a2, .int .u8 b1, .int .i64 b2, .slice Aa xs.length ca, .slice As s1.len cs] 46)).cell? ⟨pb, 1, none⟩ = some (.slice (some ⟨b', o', none⟩) up.len dp) := by rw [cell_of_row _ _ _ _ 77 (0, 0) HP4.out]; rfl
            have HO4 := Lib.hid (hO3.out.alloc (.cells #[.int .u8 k1, .int .u8 a1, .int .i64 a2, .int .u8 b1, .int .i64 b2, .slice Aa xs.length ca, .slice As s1.len cs] 46))
            have HSub1 : Hid (BodyV w As s1) := hsub1
            have HSub2 : Hid (BodyV w As' s2) := hsub2
            have HE4 := Lib.hid hE4
            have HS4 := Lib.hid hsr
            have Hn1 := Lib.hid (Bd.drop_succ tp i hd1)
            have Hn2 := Lib.hid (Bd.drop_succ up i hd2)
            have hlQ := len_wtP Q
            have hiu : (i : Int) < (up.len : Int) := by have := HLE.out; omega
            have hil : (i : Int) < (tp.len : Int) := by omega
            have hsl1 := Bd.len_le s1
            have hsl2 := Bd.len_le s2
            clear d0 d1 d2 d3 d4 d5 d6 f0 f6 hat hat' hsub1 hsub2 hE4 hE3 hS4 hS3 hst hsr hd1 hd2 hbl hbl' hW3
            by_cases hz : s1.len = 0 ∧ s2.len = 0
            · have HZ := Lib.hid (Bd.same_empty s1 s2 hz.1 hz.2)
              generalize hn1 : s1.len = n1 at *
              generalize hn2 : s2.len = n2 at *
              obtain ⟨rfl, rfl⟩ := hz
              clear hn1 hn2
              go_wp2
              go_roundg (tp.len - (i + 1))
              case measure => omega
              case rel => exact ⟨i + 1, Q, by omega, rfl, by go_num, ⟨_, _, rfl⟩, HO4, hN3, hK3, (by rw [Hn1.out, Hn2.out]; exact HS4), (by rw [Hn1.out, Hn2.out]; exact HE4.out.trans (by rw [HZ.out, Bool.true_and])), (by show _ ≤ _; rw [Hn1.out, Hn2.out]; omega), HP4, HB4⟩
            · obtain ⟨v5, w5, hr5, hO5, hg5, hat5⟩ := own_push w.heap.size (.slice (some ⟨q3, 0, none⟩) Q.length cap3) Q ⟨As, As', cs, cs', s1, s2⟩ (wr.alloc (.cells #[.int .u8 k1, .int .u8 a1, .int .i64 a2, .int .u8 b1, .int .i64 b2, .slice Aa xs.length ca, .slice As s1.len cs] 46)) (hO3.out.alloc _) (by omega) (by have := hB3.out.size; simp; omega)
              have hne5 : v5 ≠ .slice none 0 0 := by
                intro e
                have h1 := hO5.1
                rcases hO5.2 with ⟨_, h2⟩ | ⟨_, _, _, h2, _⟩
                · simp at h2
                · rw [e] at h2; cases h2
              obtain ⟨q5, cap5, hv5⟩ := own_sliceM hO5 hne5
              subst hv5
              rw [show (Q ++ [(⟨As, As', cs, cs', s1, s2⟩ : Pn)]).length = Q.length + 1 from by simp] at hO5 hr5 hat5 hne5
              have HO5 := Lib.hid hO5
              have HB5 : Hid (Below w.heap.size w w5) := (HB4.out.alloc HB4.out.size _).grown hg5 (by have := HB4.out.size; simp at *; omega) (fun k hk => (hO3.out.lt k hk).1)
              have HP5 : Hid (w5.heap[pb]? = some (.cells #[.slice (some ⟨b, o, none⟩) tp.len cp, .slice (some ⟨b', o', none⟩) up.len dp] 77 (0, 0))) := by
                show _ = _
                rw [hg5.block pb (by simp; omega) (fun e => hN3.out e.symm), heap_alloc_old _ _ (by simp; omega)]
                exact HP4.out
              have HN5 : Hid ((Value.slice (some ⟨q5, 0, none⟩) (Q.length + 1) cap5).ownBlock ≠ some pb) := by
                rcases hat5 with h | h
                · rw [h]; exact hN3.out
                · rw [h]; intro e; injection e with e; simp at e; omega
              have HKn : Hid (∀ p ∈ Q ++ [(⟨As, As', cs, cs', s1, s2⟩ : Pn)], OKp w p) := fun p hp => by
                rcases List.mem_append.1 hp with h | h
                · exact hK3.out p h
                · obtain rfl := List.mem_singleton.1 h
                  exact ⟨HSub1.out, HSub2.out, by have := HW1.out; have := HKp.out.2.2.1; simp only at *; omega, by have := HW2.out; have := HKp.out.2.2.2; simp only at *; omega⟩
              have HEn : Hid (t.same u = (allP (Q ++ [(⟨As, As', cs, cs', s1, s2⟩ : Pn)]) && r1.same r2)) := by
                show _ = _
                rw [HE4.out, allP_append, show allP [(⟨As, As', cs, cs', s1, s2⟩ : Pn)] = s1.same s2 from by simp [allP], Bool.and_assoc]
              have HWn : Hid (wtP (Q ++ [(⟨As, As', cs, cs', s1, s2⟩ : Pn)]) + r1.size + r2.size + 1 ≤ G) := by
                show _ ≤ _
                rw [wtP_append, show wtP [(⟨As, As', cs, cs', s1, s2⟩ : Pn)] = s1.size + s2.size + 1 from rfl]
                omega
              simp only [alloc_sizeM] at hr5
              clear hO5 hg5 hat5 hne5
              by_cases hp0 : 0 < s1.len
              · have hp0i : (0 : Int) < (s1.len : Int) := by omega
                clear hz
                go_upto_region 12 with (fail)
                go_wp2_with (at_builtin; refine Lib.wpList_append_run _ rfl _ _ 78 78 rfl _ _ rfl rfl _ _ hr5 ?_)
                go_roundg (tp.len - (i + 1))
                case measure => omega
                case rel => exact ⟨i + 1, Q ++ [(⟨As, As', cs, cs', s1, s2⟩ : Pn)], by omega, rfl, by go_num, ⟨q5, cap5, by simp⟩, (by rw [show (Q ++ [(⟨As, As', cs, cs', s1, s2⟩ : Pn)]).length = Q.length + 1 from by simp]; exact HO5), HN5, HKn, (by rw [Hn1.out, Hn2.out]; exact HS4), (by rw [Hn1.out, Hn2.out]; exact HEn), (by rw [Hn1.out, Hn2.out]; exact HWn), HP5, HB5⟩
              · have hp1i : (0 : Int) < (s2.len : Int) := by omega
                generalize hn1 : s1.len = n1 at *
                obtain rfl : n1 = 0 := by omega
                clear hn1 hp0 hz
                go_upto_region 12 with (fail)
                go_wp2_with (at_builtin; refine Lib.wpList_append_run _ rfl _ _ 78 78 rfl _ _ rfl rfl _ _ hr5 ?_)
                go_roundg (tp.len - (i + 1))
                case measure => omega
                case rel => exact ⟨i + 1, Q ++ [(⟨As, As', cs, cs', s1, s2⟩ : Pn)], by omega, rfl, by go_num, ⟨q5, cap5, by simp⟩, (by rw [show (Q ++ [(⟨As, As', cs, cs', s1, s2⟩ : Pn)]).length = Q.length + 1 from by simp]; exact HO5), HN5, HKn, (by rw [Hn1.out, Hn2.out]; exact HS4), (by rw [Hn1.out, Hn2.out]; exact HEn), (by rw [Hn1.out, Hn2.out]; exact HWn), HP5, HB5⟩
          · obtain rfl : i = tp.len := by omega
            have hE4 := hE3.out
            rw [Bd.drop_end tp tp.len (Nat.le_refl _), Bd.drop_end up tp.len (by have := HLE.out; omega)] at hE4
            simp only [Bd.same, Bool.and_true] at hE4
            have HE4 := Lib.hid hE4
            have hW4 := hW3.out
            clear hE4
            go_wp2
            go_roundg (wtP Q)
            case measure => omega
            case rel => exact ⟨Q, rfl, by omega, ⟨_, _, rfl⟩, hO3, hK3, HE4, hB3⟩
end Go.Proofs.Ytpjoggefklohjaa
