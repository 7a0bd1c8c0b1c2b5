/-
  Parts: Sc.
-/
import Derived.Test.YtpdebnecfknohaaRn00
import Derived.Test.YtpdebnecfknohaaRn01
import Derived.Deep.RegionHeld3
import Derived.OwnWalk
namespace Go.Proofs.Ytpdebnecfknohaa
open Go.RowKit
set_option linter.unusedVariables false
set_option maxRecDepth 20000
/-- append at a step of a region that draws, by its own equation. -/
theorem step_append_run {P : Program} (w : World) {ops : Array Oper} {o : Oper} {a : Act} {K : Act → World → Prop} {Q : Exit → Act → World → Prop} {E : Prop} (hgd : o.guard = none) (s x : Operand) (t : TypeId)
    (ho : o.op = .call { callee := .builtin .append, args := #[s, x], argTypes := #[t, t] }) (v xv : Value) (hs : a.eval s = v) (hx : a.eval x = xv) (v' : Value) (w' : World)
    (hr : (Builtin.append_ #[t, t] o.type #[v, xv]).run P w = .ok v' w') (h : K (a.put o.dst v') w') :
    if Region.wanted o (yielded ops a.tmps) = true then Oper.wp P o a w K Q else E := by
  have hw : Region.wanted o (yielded ops a.tmps) = true := by simp [Region.wanted, hgd]
  rw [if_pos hw]
  unfold Oper.wp execOp
  simp only [ho, resolve, invoke, builtin, Sem.run_bind, Sem.run_pure, Result.andThen_ok, List.map_toArray, List.map_cons, List.map_nil, hs, hx, hr]
  exact h
def flatA : List (Int × Int) → List Value
  | [] => []
  | p :: l => .int .u8 p.1 :: .int .i64 p.2 :: flatA l
theorem flatA_len (l : List (Int × Int)) : (flatA l).length = l.length * 2 := by
  induction l with
  | nil => rfl
  | cons p l ih => simp only [flatA, List.length_cons, ih]; omega
theorem flatA_append (l m : List (Int × Int)) : flatA (l ++ m) = flatA l ++ flatA m := by
  induction l with
  | nil => rfl
  | cons p l ih => simp [flatA, ih]
theorem flatA_get (l : List (Int × Int)) : ∀ i, i < l.length → (flatA l)[i * 2]? = some (.int .u8 (l.getD i (0, 0)).1) ∧ (flatA l)[i * 2 + 1]? = some (.int .i64 (l.getD i (0, 0)).2) := by
  induction l with
  | nil => intro i h; simp at h
  | cons p l ih =>
    intro i h
    cases i with
    | zero => simp [flatA]
    | succ i =>
      have := ih i (by simpa using h)
      rw [show (i + 1) * 2 = i * 2 + 2 from by omega]
      simpa [flatA] using this
theorem flatA_one (l : List (Int × Int)) : ∀ u ∈ flatA l, u.oneCell' = true := by
  induction l with
  | nil => intro u hu; simp [flatA] at hu
  | cons p l ih =>
    intro u hu
    simp only [flatA, List.mem_cons] at hu
    rcases hu with rfl | rfl | h
    · rfl
    · rfl
    · exact ih u h
theorem info46 : (Try.prog.info? 46).map (fun i => (i.zero, i.size, i.bytes)) = some (some (.agg #[.int .u8 0, .int .i64 0]), 2, 16) := by kernel_rfl
/-- A reference more. -/
theorem push2 (base : Nat) (v : Value) (l : List (Int × Int)) (x1 x2 : Int) (w : World) (h : w.ownsRow base 46 2 v l.length (flatA l)) (hl : l.length ≤ 1000) (hb : base ≤ w.heap.size) :
    ∃ v' w', (Builtin.append_ #[48, 48] 48 #[v, .slice (some ⟨w.heap.size, 0, none⟩) 1 1]).run Try.prog (w.alloc (.cells #[.int .u8 x1, .int .i64 x2] 46)) = .ok v' w' ∧ w'.ownsRow base 46 2 v' (l.length + 1) (flatA (l ++ [(x1, x2)])) ∧ (w.alloc (.cells #[.int .u8 x1, .int .i64 x2] 46)).grownBy w' v.ownBlock := by
  obtain ⟨i0, hi0, hz0, hz1, hz2⟩ := info_parts info46
  have hc : ∀ j u, ([.int .u8 x1, .int .i64 x2] : List Value)[j]? = some u → (w.alloc (.cells #[.int .u8 x1, .int .i64 x2] 46)).cell? ((⟨w.heap.size, 0, none⟩ : Addr).add j) = some u := by
    intro j u hj
    rw [Go.WideShapes.add_plain, cell_of_row _ w.heap.size _ _ 46 (0, 0) (heap_alloc_new w _), Nat.zero_add]
    simpa using hj
  obtain ⟨v5, w5, hr5, hO5, hg5, _, _⟩ := run_append_own_at (P := Try.prog) (w.alloc (.cells #[.int .u8 x1, .int .i64 x2] 46)) base 48 48 46 i0 (.agg #[.int .u8 0, .int .i64 0]) 2 16 Try.underlying48 hi0 hz0 hz1 hz2 rfl (by decide) v l.length _ (h.alloc _) ⟨w.heap.size, 0, none⟩ 1 1 [.int .u8 x1, .int .i64 x2] rfl hc (by intro u hu; simp at hu; rcases hu with rfl | rfl <;> rfl) (by unfold maxLen; omega) (by omega) (by simp; omega)
  refine ⟨v5, w5, hr5, ?_, hg5⟩
  rw [flatA_append]; exact hO5
/-- A row of references of the call's own. -/
theorem own_args {w : World} {base n : Nat} {v : Value} {l : List (Int × Int)} (hn : l.length = n) (h : w.ownsRow base 46 2 v n (flatA l)) : ArgsS (fun k => base ≤ k) w v l := by
  subst hn
  rcases h.2 with ⟨rfl, h0⟩ | ⟨q, cap, cur, rfl, h2, hk, h3, h4, h5, h6⟩
  · exact ⟨none, 0, by rw [h0], fun hp => by omega⟩
  · refine ⟨_, _, rfl, fun hp => ⟨q, 0, rfl, h2, fun i hi => ?_⟩⟩
    have g : ∀ j u, (flatA l)[j]? = some u → w.cell? ⟨q, 0 + j, none⟩ = some u := by
      intro j u hj
      rw [cell_of_row w q _ cur 46 (0, 0) hk, Nat.zero_add, ← Array.getElem?_toList]
      rw [← h6] at hj
      rcases Nat.lt_or_ge j (l.length * 2) with h | h
      · rwa [List.getElem?_take_of_lt h] at hj
      · rw [List.getElem?_eq_none (by rw [List.length_take]; omega)] at hj; cases hj
    have := flatA_get l i hi
    exact ⟨g _ _ this.1, by have := g _ _ this.2; rwa [← Nat.add_assoc] at this⟩
theorem own_ne {w : World} {base n e size g t : Nat} {v : Value} {xs : List Value} {cs : Array Value} (h : w.ownsRow base e size v n xs) (hb : Blk w g t cs) (hne : e ≠ t) : some g ≠ v.ownBlock := by
  rcases h.2 with ⟨rfl, _⟩ | ⟨k, cap, cur, rfl, _, hk, _⟩
  · simp [Value.ownBlock]
  · intro he
    have : g = k := by simpa [Value.ownBlock] using he
    subst this
    unfold Blk at hb
    rw [hk] at hb
    injection hb with hb
    injection hb with _ ht
    exact hne ht
theorem own_blocks {w w' : World} {base e size n : Nat} {v : Value} {xs : List Value} (h : w.ownsRow base e size v n xs) (hk : ∀ k, some k = v.ownBlock → w'.heap[k]? = w.heap[k]?) : w'.ownsRow base e size v n xs := by
  refine ⟨h.1, ?_⟩
  rcases h.2 with h1 | ⟨k, cap, cur, hv, h2, hh, rest⟩
  · exact .inl h1
  · exact .inr ⟨k, cap, cur, hv, h2, (hk k (by rw [hv]; rfl)).trans hh, rest⟩
theorem set7_far {q k : Nat} {w : World} (v0 v1 v2 v3 v4 v5 v6 : Value) (h : k ≠ q) : (((((((w.setCell ⟨q, 0, none⟩ v0).setCell ⟨q, 1, none⟩ v1).setCell ⟨q, 2, none⟩ v2).setCell ⟨q, 3, none⟩ v3).setCell ⟨q, 4, none⟩ v4).setCell ⟨q, 5, none⟩ v5).setCell ⟨q, 6, none⟩ v6).heap[k]? = w.heap[k]? := by
  rw [Below.heap_setCell _ _ _ _ h, Below.heap_setCell _ _ _ _ h, Below.heap_setCell _ _ _ _ h, Below.heap_setCell _ _ _ _ h, Below.heap_setCell _ _ _ _ h, Below.heap_setCell _ _ _ _ h, Below.heap_setCell _ _ _ _ h]
def argF (nl ng A C n : Nat) : List (Int × Int) := (List.range n).map fun i => varF nl ng ((A + C + i) % 256)
theorem argF_len (nl ng A C n : Nat) : (argF nl ng A C n).length = n := by simp [argF]
theorem argF_succ (nl ng A C n : Nat) : argF nl ng A C (n + 1) = argF nl ng A C n ++ [varF nl ng ((A + C + n) % 256)] := by simp [argF, List.range_succ]
theorem wrapu8 (x : Int) (h : 0 ≤ x) : IntKind.u8.wrap x = x % 256 := by
  simp [IntKind.wrap, IntKind.bits, IntKind.signed]
/-- What the loop over the arguments keeps. -/
structure ArgLoop (w : World) (qs : Nat) (M F X Z : Array Value) (a1 a2 b1 b2 : Int) (va : Value) (l : List (Int × Int)) (wr : World) : Prop where
  own : wr.ownsRow w.heap.size 46 2 va l.length (flatA l)
  bs : Blk wr qs 50 #[.int .u8 5, .int .u8 a1, .int .i64 a2, .int .u8 b1, .int .i64 b2, va, .slice none 0 0]
  bm : Blk wr w.heap.size 30 M
  bf : Blk wr (w.heap.size + 1) 40 F
  bx : Blk wr (w.heap.size + 1 + 1) 77 X
  br : Blk wr (w.heap.size + 1 + 1 + 1) 50 Z
  bel : Below w.heap.size w wr
  qs : w.heap.size + 1 + 1 + 1 < qs
/-- One argument more: what the append and the store behind the call leave. -/
theorem ArgLoop.step {w : World} {qs : Nat} {M F X Z : Array Value} {a1 a2 b1 b2 : Int} {va : Value} {l : List (Int × Int)} {wr : World} (h : ArgLoop w qs M F X Z a1 a2 b1 b2 va l wr) (hl : l.length ≤ 1000) (x1 x2 : Int) (w3 : World) (hb : Below wr.heap.size wr w3) :
    ∃ A5 n5 c5 w5, (Builtin.append_ #[48, 48] 48 #[va, .slice (some ⟨w3.heap.size, 0, none⟩) 1 1]).run Try.prog (w3.alloc (.cells #[.int .u8 x1, .int .i64 x2] 46)) = .ok (.slice A5 n5 c5) w5 ∧ w3.cell? ⟨qs, 5, none⟩ = some va ∧ qs < w3.heap.size ∧ w5.cell? ⟨qs, 5, none⟩ = some va ∧ w5.frozen? ⟨qs, 5, none⟩ = false ∧ Hid (Blk w3 w.heap.size 30 M ∧ Blk w3 (w.heap.size + 1) 40 F ∧ Blk w3 (w.heap.size + 1 + 1) 77 X) ∧ Hid (Blk w5 w.heap.size 30 M ∧ Blk w5 (w.heap.size + 1) 40 F ∧ Blk w5 (w.heap.size + 1 + 1) 77 X) ∧ Hid (ArgLoop w qs M F X Z a1 a2 b1 b2 (.slice A5 n5 c5) (l ++ [(x1, x2)]) (w5.setCell ⟨qs, 5, none⟩ (.slice A5 n5 c5))) := by
  have hsz := h.bel.size
  obtain ⟨v5, w5, hr5, hO5, hg5⟩ := push2 w.heap.size va l x1 x2 w3 (own_old h.own hb) hl (Nat.le_trans hsz hb.size)
  obtain ⟨q5, c5, rfl⟩ : ∃ q5 c5, v5 = .slice (some ⟨q5, 0, none⟩) (l.length + 1) c5 := by
    rcases hO5.2 with ⟨_, h1⟩ | ⟨k, cap, cur, hv, _⟩
    · omega
    · exact ⟨k, cap, hv⟩
  have key : ∀ (g t : Nat) (cs : Array Value), t ≠ 46 → Blk wr g t cs → Blk w5 g t cs := fun g t cs ht hB =>
    ((hB.old hb).alloc _).grown hg5 (own_ne (own_old h.own hb) (hB.old hb) (fun e => ht e.symm))
  have bs5 := key _ _ _ (by decide) h.bs
  have hb3 := h.bel.trans (hb.mono hsz)
  have hb5 : Below w.heap.size w w5 := (hb3.alloc hb3.size _).grown hg5 (by have := hb3.size; simp; omega) (fun q hq => ((own_old h.own hb).lt q hq).1)
  have hq := h.qs
  refine ⟨_, _, _, w5, hr5, (h.bs.old hb).cell 5, (h.bs.old hb).lt, bs5.cell 5, bs5.frozen 5, ⟨h.bm.old hb, h.bf.old hb, h.bx.old hb⟩, ⟨key _ _ _ (by decide) h.bm, key _ _ _ (by decide) h.bf, key _ _ _ (by decide) h.bx⟩, ?_, ?_, ?_, ?_, ?_, ?_, ?_, hq⟩
  · rw [show (l ++ [(x1, x2)]).length = l.length + 1 from by simp]
    refine ⟨hO5.1, ?_⟩
    rcases hO5.2 with h1 | ⟨k, cap, cur, hv, h2, hk, rest⟩
    · exact .inl h1
    · have hne : k ≠ qs := by
        rintro rfl
        have := bs5
        unfold Blk at this
        rw [hk] at this
        injection this with this
        injection this with _ ht
        exact absurd ht (by decide)
      exact .inr ⟨k, cap, cur, hv, h2, (Below.heap_setCell w5 ⟨qs, 5, none⟩ _ k hne).trans hk, rest⟩
  · exact bs5.set_ 5 _
  · exact (key _ _ _ (by decide) h.bm).far (by show _ ≠ qs; omega) _
  · exact (key _ _ _ (by decide) h.bf).far (by show _ ≠ qs; omega) _
  · exact (key _ _ _ (by decide) h.bx).far (by show _ ≠ qs; omega) _
  · exact (key _ _ _ (by decide) h.br).far (by show _ ≠ qs; omega) _
  · exact hb5.setCell (p := ⟨qs, 5, none⟩) (by show _ ≤ qs; omega) _
set_option maxRecDepth 20000 in
set_option maxHeartbeats 1000000 in
theorem stm_call50 (m0 m3 f0 f1 f4 : Value) (Ag Af Al As : Option Addr) (ng cg nf cf nl cl ns cs K A B C : Nat) (par : Nat → Nat) (w : World) (hK : K < 256) (hA : A < 256) (hB : B < 256) (hC : C < 256) (hl : nl ≤ 1000000) (hg : ng ≤ 1000000) (hp : 0 < nl + ng) (h10 : K % 10 = 5) (hc3 : C % 3 = 0) :
    Calls Try.prog 33 #[.agg #[m0, .slice Ag ng cg, .slice Af nf cf, m3], .agg #[f0, f1, .slice Al nl cl, .slice As ns cs, f4], .agg #[.int .u8 (K : Int), .int .u8 (A : Int), .int .u8 (B : Int), .int .u8 (C : Int)]] w (StPost w (stm0 nl ng nf ns par K A B C)) := by
  have HS : Hid (stm0 nl ng nf ns par K A B C = ⟨5, (0, 0), varF nl ng B, argF nl ng A C (C / 4 % 4), .nil⟩) := by show _ = _; unfold stm0 argF; simp [h10, hc3]
  have hm : (K : Int) % 10 = 5 := by omega
  have hm3 : (C : Int) % 3 = 0 := by omega
  have HVj := Lib.hid (fun j w' => variables_any m0 (.slice Af nf cf) m3 f0 f1 (.slice As ns cs) f4 Ag Al ng cg nl cl ((A + C + j) % 256) w' (Nat.mod_lt _ (by decide)) hl hg hp)
  have HB0 : Hid (Below w.heap.size w ((((w.alloc (.cells #[m0, .slice Ag ng cg, .slice Af nf cf, m3] 30)).alloc (.cells #[f0, f1, .slice Al nl cl, .slice As ns cs, f4] 40)).alloc (.cells #[.int .u8 (K : Int), .int .u8 (A : Int), .int .u8 (B : Int), .int .u8 (C : Int)] 77)).alloc (.cells #[.int .u8 0, .int .u8 0, .int .i64 0, .int .u8 0, .int .i64 0, .slice none 0 0, .slice none 0 0] 50))) := ((((Below.refl _ _).alloc (Nat.le_refl _) _).alloc (by simp) _).alloc (by simp; omega) _).alloc (by simp; omega) _
  have HV1 := Lib.hid (fun w' => variables_any m0 (.slice Af nf cf) m3 f0 f1 (.slice As ns cs) f4 Ag Al ng cg nl cl A w' hA hl hg hp)
  have HV2 := Lib.hid (fun w' => variables_any m0 (.slice Af nf cf) m3 f0 f1 (.slice As ns cs) f4 Ag Al ng cg nl cl B w' hB hl hg hp)
  have hNe : ((C : Int) / 4 % 4) = ((C / 4 % 4 : Nat) : Int) := by omega
  have hpl : C / 4 % 4 ≤ 100 := by omega
  generalize C / 4 % 4 = N at *
  generalize varF nl ng A = va at *
  generalize varF nl ng B = vb at *
  generalize stm0 nl ng nf ns par K A B C = s at *
  obtain ⟨va1, va2⟩ := va
  obtain ⟨vb1, vb2⟩ := vb
  have KM : Hid (Blk ((((w.alloc (.cells #[m0, .slice Ag ng cg, .slice Af nf cf, m3] 30)).alloc (.cells #[f0, f1, .slice Al nl cl, .slice As ns cs, f4] 40)).alloc (.cells #[.int .u8 (K : Int), .int .u8 (A : Int), .int .u8 (B : Int), .int .u8 (C : Int)] 77)).alloc (.cells #[.int .u8 0, .int .u8 0, .int .i64 0, .int .u8 0, .int .i64 0, .slice none 0 0, .slice none 0 0] 50)) w.heap.size 30 #[m0, .slice Ag ng cg, .slice Af nf cf, m3]) := (((Blk.new w 30 _).alloc _).alloc _).alloc _
  have KF : Hid (Blk ((((w.alloc (.cells #[m0, .slice Ag ng cg, .slice Af nf cf, m3] 30)).alloc (.cells #[f0, f1, .slice Al nl cl, .slice As ns cs, f4] 40)).alloc (.cells #[.int .u8 (K : Int), .int .u8 (A : Int), .int .u8 (B : Int), .int .u8 (C : Int)] 77)).alloc (.cells #[.int .u8 0, .int .u8 0, .int .i64 0, .int .u8 0, .int .i64 0, .slice none 0 0, .slice none 0 0] 50)) (w.heap.size + 1) 40 #[f0, f1, .slice Al nl cl, .slice As ns cs, f4]) := ((Blk.new' _ 40 _ _ (by simp)).alloc _).alloc _
  have KX : Hid (Blk ((((w.alloc (.cells #[m0, .slice Ag ng cg, .slice Af nf cf, m3] 30)).alloc (.cells #[f0, f1, .slice Al nl cl, .slice As ns cs, f4] 40)).alloc (.cells #[.int .u8 (K : Int), .int .u8 (A : Int), .int .u8 (B : Int), .int .u8 (C : Int)] 77)).alloc (.cells #[.int .u8 0, .int .u8 0, .int .i64 0, .int .u8 0, .int .i64 0, .slice none 0 0, .slice none 0 0] 50)) (w.heap.size + 1 + 1) 77 #[.int .u8 (K : Int), .int .u8 (A : Int), .int .u8 (B : Int), .int .u8 (C : Int)]) := (Blk.new' _ 77 _ _ (by simp)).alloc _
  have KR : Hid (Blk ((((w.alloc (.cells #[m0, .slice Ag ng cg, .slice Af nf cf, m3] 30)).alloc (.cells #[f0, f1, .slice Al nl cl, .slice As ns cs, f4] 40)).alloc (.cells #[.int .u8 (K : Int), .int .u8 (A : Int), .int .u8 (B : Int), .int .u8 (C : Int)] 77)).alloc (.cells #[.int .u8 0, .int .u8 0, .int .i64 0, .int .u8 0, .int .i64 0, .slice none 0 0, .slice none 0 0] 50)) (w.heap.size + 1 + 1 + 1) 50 #[.int .u8 0, .int .u8 0, .int .i64 0, .int .u8 0, .int .i64 0, .slice none 0 0, .slice none 0 0]) := Blk.new' _ 50 _ _ (by simp)
  go_enter Try.func33, Try.ntmps33
  go_wp2_with fail
  refine (HV1.out _).mono ?_
  rintro e w1 ⟨rfl, hb1⟩
  have HB1 := Lib.hid (HB0.out.trans (hb1.mono HB0.out.size))
  have KM1 := Lib.hid (KM.out.old hb1)
  have KF1 := Lib.hid (KF.out.old hb1)
  have KX1 := Lib.hid (KX.out.old hb1)
  have KR1 := Lib.hid (KR.out.old hb1)
  have z1 : w.heap.size + 1 + 1 + 1 < w1.heap.size := KR1.out.lt
  have z2 : w.heap.size + 1 + 1 < w1.heap.size := by omega
  have z3 : w.heap.size + 1 < w1.heap.size := by omega
  have z4 : w.heap.size < w1.heap.size := by omega
  obtain ⟨m01, m11, m21, m31⟩ := KM1.out.c4
  obtain ⟨f01, f11, f21, f31, f41⟩ := KF1.out.c5
  obtain ⟨x01, x11, x21, x31⟩ := KX1.out.c4
  clear hb1
  go_wp2_with fail
  refine (HV2.out _).mono ?_
  rintro e w2 ⟨rfl, hb2⟩
  have HB2 := Lib.hid ((HB1.out.alloc HB1.out.size (.cells #[.int .u8 va1, .int .i64 va2] 46)).trans (hb2.mono (by have := HB1.out.size; simp; omega)))
  have KM2 := Lib.hid ((KM1.out.alloc (.cells #[.int .u8 va1, .int .i64 va2] 46)).old hb2)
  have KF2 := Lib.hid ((KF1.out.alloc (.cells #[.int .u8 va1, .int .i64 va2] 46)).old hb2)
  have KX2 := Lib.hid ((KX1.out.alloc (.cells #[.int .u8 va1, .int .i64 va2] 46)).old hb2)
  have KR2 := Lib.hid ((KR1.out.alloc (.cells #[.int .u8 va1, .int .i64 va2] 46)).old hb2)
  have KA2 := Lib.hid ((Blk.new w1 46 #[.int .u8 va1, .int .i64 va2]).old hb2)
  have y0 : w1.heap.size < w2.heap.size := KA2.out.lt
  have y1 : w.heap.size + 1 + 1 + 1 < w2.heap.size := by omega
  have y2 : w.heap.size + 1 + 1 < w2.heap.size := by omega
  have y3 : w.heap.size + 1 < w2.heap.size := by omega
  have y4 : w.heap.size < w2.heap.size := by omega
  clear m01 m11 m21 m31 f01 f11 f21 f31 f41 x01 x11 x21 x31 hb2
  obtain ⟨m02, m12, m22, m32⟩ := KM2.out.c4
  obtain ⟨f02, f12, f22, f32, f42⟩ := KF2.out.c5
  obtain ⟨x02, x12, x22, x32⟩ := KX2.out.c4
  obtain ⟨a02, a12⟩ := KA2.out.c2
  obtain ⟨r02, r12, r22, r32, r42, r52, r62⟩ := KR2.out.c7
  have q0 := KR2.out.frozen 0
  have q1 := KR2.out.frozen 1
  have q2 := KR2.out.frozen 2
  have q3 := KR2.out.frozen 3
  have q4 := KR2.out.frozen 4
  have q5 := KR2.out.frozen 5
  have q6 := KR2.out.frozen 6
  have u0 : w1.heap.size < w2.heap.size + 1 := by omega
  have u1 : w.heap.size + 1 + 1 + 1 < w2.heap.size + 1 := by omega
  have u2 : w.heap.size + 1 + 1 < w2.heap.size + 1 := by omega
  have u3 : w.heap.size + 1 < w2.heap.size + 1 := by omega
  have u4 : w.heap.size < w2.heap.size + 1 := by omega
  have HL0 : Hid (ArgLoop w (w2.heap.size + 1) #[m0, .slice Ag ng cg, .slice Af nf cf, m3] #[f0, f1, .slice Al nl cl, .slice As ns cs, f4] #[.int .u8 (K : Int), .int .u8 (A : Int), .int .u8 (B : Int), .int .u8 (C : Int)] #[.int .u8 0, .int .u8 0, .int .i64 0, .int .u8 0, .int .i64 0, .slice none 0 0, .slice none 0 0] 0 0 vb1 vb2 (.slice none 0 0) [] ((w2.alloc (.cells #[.int .u8 vb1, .int .i64 vb2] 46)).alloc (.cells #[.int .u8 5, .int .u8 0, .int .i64 0, .int .u8 vb1, .int .i64 vb2, .slice none 0 0, .slice none 0 0] 50))) :=
    ⟨⟨rfl, .inl ⟨rfl, rfl⟩⟩, Blk.new' _ 50 _ _ (by simp), (KM2.out.alloc _).alloc _, (KF2.out.alloc _).alloc _, (KX2.out.alloc _).alloc _, (KR2.out.alloc _).alloc _, (HB2.out.alloc HB2.out.size _).alloc (by have := HB2.out.size; simp; omega) _, by omega⟩
  go_wp2_with fail
  clear m02 m12 m22 m32 f02 f12 f22 f32 f42 x02 x12 x22 x32 a02 a12 r02 r12 r22 r32 r42 r52 r62 q0 q1 q2 q3 q4 q5 q6 KM KF KX KR KM1 KF1 KX1 KR1 KM2 KF2 KX2 KR2 KA2 HB0 HB1 hm hm3 
  simp only [hNe]
  clear hNe
  obtain ⟨qs, hqs⟩ : ∃ qs, qs = w2.heap.size + 1 := ⟨_, rfl⟩
  rw [← hqs] at HL0
  rw [← hqs]
  have HQS := Lib.hid hqs
  clear hqs
  go_loopw [12] (fun s12 wr => ∃ (j : Nat) (Ax : Option Addr) (nx cx : Nat), j ≤ N ∧ s12 = .int .i64 (j : Int) ∧ Hid (ArgLoop w qs #[m0, .slice Ag ng cg, .slice Af nf cf, m3] #[f0, f1, .slice Al nl cl, .slice As ns cs, f4] #[.int .u8 (K : Int), .int .u8 (A : Int), .int .u8 (B : Int), .int .u8 (C : Int)] #[.int .u8 0, .int .u8 0, .int .i64 0, .int .u8 0, .int .i64 0, .slice none 0 0, .slice none 0 0] 0 0 vb1 vb2 (.slice Ax nx cx) (argF nl ng A C j) wr)) (fun s12 _ => N - (intOf s12).toNat)
  case atStart => exact ⟨0, _, _, _, Nat.zero_le _, rfl, HL0⟩
  case round =>
    obtain ⟨j, Ax, nx, cx, hj, rfl, hL⟩ := hrel
    obtain ⟨g0, g1, g2, g3, g4, g5, g6⟩ := hL.out.bs.c7
    have hqlt := hL.out.bs.lt
    by_cases hlt : j < N
    · obtain ⟨m0', m1', m2', m3'⟩ := hL.out.bm.c4
      obtain ⟨f0', f1', f2', f3', f4'⟩ := hL.out.bf.c5
      obtain ⟨x0', x1', x2', x3'⟩ := hL.out.bx.c4
      have HX1 := hL.out.bel.size
      have e1 : IntKind.u8.wrap ((A : Int) + (C : Int)) = ((A : Int) + (C : Int)) % 256 := wrapu8 _ (by omega)
      have e2 : IntKind.u8.wrap (j : Int) = (j : Int) := by rw [wrapu8 _ (by omega)]; omega
      have e3 : IntKind.u8.wrap (((A : Int) + (C : Int)) % 256 + (j : Int)) = (((A + C + j) % 256 : Nat) : Int) := by rw [wrapu8 _ (by omega)]; omega
      have HArg := Lib.hid (argF_succ nl ng A C j)
      have HV := HVj.out j wr.drew
      generalize varF nl ng ((A + C + j) % 256) = vj at *
      obtain ⟨vj1, vj2⟩ := vj
      have H40 : Hid (Calls Try.prog 58 #[.agg #[m0, .slice Ag ng cg, .slice Af nf cf, m3], .agg #[f0, f1, .slice Al nl cl, .slice As ns cs, f4], .int .u8 (((A + C + j) % 256 : Nat) : Int)] wr.drew fun e w3 => e = .returned (.agg #[.int .u8 vj1, .int .i64 vj2]) ∧ _) :=
        HV.mono (fun e w3 ⟨he, hb3⟩ => ⟨he, hL.out.step (by rw [argF_len]; omega) vj1 vj2 w3 ((Below.refl _ wr).drew.trans hb3)⟩)
      clear HV
      generalize (A + C + j) % 256 = nj at *
      go_upto_region 30 with (fail)
      refine wp_region_held_drew (S := (fun W => Blk W w.heap.size 30 #[m0, .slice Ag ng cg, .slice Af nf cf, m3] ∧ Blk W (w.heap.size + 1) 40 #[f0, f1, .slice Al nl cl, .slice As ns cs, f4] ∧ Blk W (w.heap.size + 1 + 1) 77 #[.int .u8 (K : Int), .int .u8 (A : Int), .int .u8 (B : Int), .int .u8 (C : Int)])) (by kernel_rfl) ⟨hL.out.bm.drew, hL.out.bf.drew, hL.out.bx.drew⟩ (fun hHeld => ?_)
      refine wpAnyH_take (i := 0) (oi := ⟨_, _, _, _, _, _⟩) (v := ?_) rfl (by kernel_rfl) (by kernel_rfl) (by kernel_rfl) (fun _ _ _ h => h) (Or.inl ⟨by rfl, ?_⟩) (by assumption) ?_
      rotate_left
      · (intro W hSW; (try dsimp only at hSW); obtain ⟨s1, s2, s3⟩ := hSW; obtain ⟨p0, p1, p2, p3⟩ := s1.c4; obtain ⟨p4, p5, p6, p7, p8⟩ := s2.c5; obtain ⟨p9, p10, p11, p12⟩ := s3.c4; go_simp; first | done | with_reducible rfl)
      try simp only [Act.put, List.setIfInBounds_toArray, List.set_cons_zero, List.set_cons_succ]
      refine wpAnyH_take (i := 2) (oi := ⟨_, _, _, _, _, _⟩) (v := ?_) rfl (by kernel_rfl) (by kernel_rfl) (by kernel_rfl) (fun _ _ _ h => h) (Or.inl ⟨by rfl, ?_⟩) (by assumption) ?_
      rotate_left
      · (intro W hSW; (try dsimp only at hSW); obtain ⟨s1, s2, s3⟩ := hSW; obtain ⟨p0, p1, p2, p3⟩ := s1.c4; obtain ⟨p4, p5, p6, p7, p8⟩ := s2.c5; obtain ⟨p9, p10, p11, p12⟩ := s3.c4; go_simp; first | done | with_reducible rfl)
      try simp only [Act.put, List.setIfInBounds_toArray, List.set_cons_zero, List.set_cons_succ]
      refine wpAnyH_take (i := 3) (oi := ⟨_, _, _, _, _, _⟩) (v := ?_) rfl (by kernel_rfl) (by kernel_rfl) (by kernel_rfl) (fun _ _ _ h => h) (Or.inl ⟨by rfl, ?_⟩) (by assumption) ?_
      rotate_left
      · (intro W hSW; (try dsimp only at hSW); obtain ⟨s1, s2, s3⟩ := hSW; obtain ⟨p0, p1, p2, p3⟩ := s1.c4; obtain ⟨p4, p5, p6, p7, p8⟩ := s2.c5; obtain ⟨p9, p10, p11, p12⟩ := s3.c4; go_simp; first | done | with_reducible rfl)
      try simp only [Act.put, List.setIfInBounds_toArray, List.set_cons_zero, List.set_cons_succ]
      refine wpAnyH_take (i := 4) (oi := ⟨_, _, _, _, _, _⟩) (v := ?_) rfl (by kernel_rfl) (by kernel_rfl) (by kernel_rfl) (fun _ _ _ h => h) (Or.inl ⟨by rfl, ?_⟩) (by assumption) ?_
      rotate_left
      · (intro W hSW; (try dsimp only at hSW); obtain ⟨s1, s2, s3⟩ := hSW; obtain ⟨p0, p1, p2, p3⟩ := s1.c4; obtain ⟨p4, p5, p6, p7, p8⟩ := s2.c5; obtain ⟨p9, p10, p11, p12⟩ := s3.c4; go_simp; first | done | with_reducible rfl)
      try simp only [Act.put, List.setIfInBounds_toArray, List.set_cons_zero, List.set_cons_succ]
      refine wpAnyH_take (i := 5) (oi := ⟨_, _, _, _, _, _⟩) (v := ?_) rfl (by kernel_rfl) (by kernel_rfl) (by kernel_rfl) (fun _ _ _ h => h) (Or.inl ⟨by rfl, ?_⟩) (by assumption) ?_
      rotate_left
      · (intro W hSW; (try dsimp only at hSW); obtain ⟨s1, s2, s3⟩ := hSW; obtain ⟨p0, p1, p2, p3⟩ := s1.c4; obtain ⟨p4, p5, p6, p7, p8⟩ := s2.c5; obtain ⟨p9, p10, p11, p12⟩ := s3.c4; go_simp; first | done | with_reducible rfl)
      try simp only [Act.put, List.setIfInBounds_toArray, List.set_cons_zero, List.set_cons_succ]
      refine wpAnyH_take (i := 6) (oi := ⟨_, _, _, _, _, _⟩) (v := ?_) rfl (by kernel_rfl) (by kernel_rfl) (by kernel_rfl) (fun _ _ _ h => h) (Or.inl ⟨by rfl, ?_⟩) (by assumption) ?_
      rotate_left
      · (intro W hSW; (try dsimp only at hSW); obtain ⟨s1, s2, s3⟩ := hSW; obtain ⟨p0, p1, p2, p3⟩ := s1.c4; obtain ⟨p4, p5, p6, p7, p8⟩ := s2.c5; obtain ⟨p9, p10, p11, p12⟩ := s3.c4; go_simp; first | done | with_reducible rfl)
      try simp only [Act.put, List.setIfInBounds_toArray, List.set_cons_zero, List.set_cons_succ]
      refine wpAnyH_take (i := 7) (oi := ⟨_, _, _, _, _, _⟩) (v := ?_) rfl (by kernel_rfl) (by kernel_rfl) (by kernel_rfl) (fun _ _ _ h => h) (Or.inl ⟨by rfl, ?_⟩) (by assumption) ?_
      rotate_left
      · (intro W hSW; (try dsimp only at hSW); obtain ⟨s1, s2, s3⟩ := hSW; obtain ⟨p0, p1, p2, p3⟩ := s1.c4; obtain ⟨p4, p5, p6, p7, p8⟩ := s2.c5; obtain ⟨p9, p10, p11, p12⟩ := s3.c4; go_simp; first | done | with_reducible rfl)
      try simp only [Act.put, List.setIfInBounds_toArray, List.set_cons_zero, List.set_cons_succ]
      refine wpAnyH_take (i := 8) (oi := ⟨_, _, _, _, _, _⟩) (v := ?_) rfl (by kernel_rfl) (by kernel_rfl) (by kernel_rfl) (fun _ _ _ h => h) (Or.inl ⟨by rfl, ?_⟩) (by assumption) ?_
      rotate_left
      · (intro W hSW; (try dsimp only at hSW); obtain ⟨s1, s2, s3⟩ := hSW; obtain ⟨p0, p1, p2, p3⟩ := s1.c4; obtain ⟨p4, p5, p6, p7, p8⟩ := s2.c5; obtain ⟨p9, p10, p11, p12⟩ := s3.c4; go_simp; first | done | with_reducible rfl)
      try simp only [Act.put, List.setIfInBounds_toArray, List.set_cons_zero, List.set_cons_succ]
      refine wpAnyH_take (i := 9) (oi := ⟨_, _, _, _, _, _⟩) (v := ?_) rfl (by kernel_rfl) (by kernel_rfl) (by kernel_rfl) (fun _ _ _ h => h) (Or.inl ⟨by rfl, ?_⟩) (by assumption) ?_
      rotate_left
      · (intro W hSW; (try dsimp only at hSW); obtain ⟨s1, s2, s3⟩ := hSW; obtain ⟨p0, p1, p2, p3⟩ := s1.c4; obtain ⟨p4, p5, p6, p7, p8⟩ := s2.c5; obtain ⟨p9, p10, p11, p12⟩ := s3.c4; go_simp; first | done | with_reducible rfl)
      try simp only [Act.put, List.setIfInBounds_toArray, List.set_cons_zero, List.set_cons_succ]
      refine wpAnyH_take (i := 10) (oi := ⟨_, _, _, _, _, _⟩) (v := ?_) rfl (by kernel_rfl) (by kernel_rfl) (by kernel_rfl) (fun _ _ _ h => h) (Or.inl ⟨by rfl, ?_⟩) (by assumption) ?_
      rotate_left
      · (intro W hSW; (try dsimp only at hSW); obtain ⟨s1, s2, s3⟩ := hSW; obtain ⟨p0, p1, p2, p3⟩ := s1.c4; obtain ⟨p4, p5, p6, p7, p8⟩ := s2.c5; obtain ⟨p9, p10, p11, p12⟩ := s3.c4; go_simp; first | done | with_reducible rfl)
      try simp only [Act.put, List.setIfInBounds_toArray, List.set_cons_zero, List.set_cons_succ]
      refine wpAnyH_take (i := 11) (oi := ⟨_, _, _, _, _, _⟩) (v := ?_) rfl (by kernel_rfl) (by kernel_rfl) (by kernel_rfl) (fun _ _ _ h => h) (Or.inl ⟨by rfl, ?_⟩) (by assumption) ?_
      rotate_left
      · (intro W hSW; (try dsimp only at hSW); obtain ⟨s1, s2, s3⟩ := hSW; obtain ⟨p0, p1, p2, p3⟩ := s1.c4; obtain ⟨p4, p5, p6, p7, p8⟩ := s2.c5; obtain ⟨p9, p10, p11, p12⟩ := s3.c4; go_simp; first | done | with_reducible rfl)
      try simp only [Act.put, List.setIfInBounds_toArray, List.set_cons_zero, List.set_cons_succ]
      refine wpAnyH_ready (rs := [1, 12]) (by kernel_rfl) (by simp) ?_
      refine AllReadyH.cons (o := ⟨_, _, _, _, _, _⟩) rfl (fun KQ hKQ => ?_) (AllReadyH.cons (o := ⟨_, _, _, _, _, _⟩) rfl (fun KQ hKQ => ?_) AllReadyH.nil)
      · go_simp
        refine hKQ.out _ _ hHeld (fun _ => ?_)
        clear hKQ KQ
        try simp only [Act.put, List.setIfInBounds_toArray, List.set_cons_zero, List.set_cons_succ]
        refine wpAnyH_ready (rs := [12]) (by kernel_rfl) (by simp) ?_
        refine AllReadyH.cons (o := ⟨_, _, _, _, _, _⟩) rfl (fun KQ hKQ => ?_) AllReadyH.nil
        go_simp
        refine H40.out.mono ?_
        rintro e w3 ⟨rfl, A5, n5, c5, w5, hr5, k3, kz, k5, kf, HS3, HS5, HL5⟩
        have hS3 := (show (fun W => Blk W w.heap.size 30 #[m0, .slice Ag ng cg, .slice Af nf cf, m3] ∧ Blk W (w.heap.size + 1) 40 #[f0, f1, .slice Al nl cl, .slice As ns cs, f4] ∧ Blk W (w.heap.size + 1 + 1) 77 #[.int .u8 (K : Int), .int .u8 (A : Int), .int .u8 (B : Int), .int .u8 (C : Int)]) w3 from HS3.out)
        refine hKQ.out _ _ hS3 (fun _ => ?_)
        clear hKQ KQ
        try simp only [Act.put, List.setIfInBounds_toArray, List.set_cons_zero, List.set_cons_succ]
        refine wpAnyH_ready (rs := [13]) (by kernel_rfl) (by simp) ?_
        refine AllReadyH.cons (o := ⟨_, _, _, _, _, _⟩) rfl (fun KQ hKQ => ?_) AllReadyH.nil
        go_simp
        have hS4 := (show (fun W => Blk W w.heap.size 30 #[m0, .slice Ag ng cg, .slice Af nf cf, m3] ∧ Blk W (w.heap.size + 1) 40 #[f0, f1, .slice Al nl cl, .slice As ns cs, f4] ∧ Blk W (w.heap.size + 1 + 1) 77 #[.int .u8 (K : Int), .int .u8 (A : Int), .int .u8 (B : Int), .int .u8 (C : Int)]) (w3.alloc (.cells #[.int .u8 vj1, .int .i64 vj2] 46)) from ⟨HS3.out.1.alloc _, HS3.out.2.1.alloc _, HS3.out.2.2.alloc _⟩)
        refine hKQ.out _ _ hS4 (fun _ => ?_)
        clear hKQ KQ
        try simp only [Act.put, List.setIfInBounds_toArray, List.set_cons_zero, List.set_cons_succ]
        refine wpAnyH_ready (rs := [14]) (by kernel_rfl) (by simp) ?_
        refine AllReadyH.cons (o := ⟨_, _, _, _, _, _⟩) rfl (fun KQ hKQ => ?_) AllReadyH.nil
        refine step_append_run _ (by rfl) _ _ _ (by rfl) _ _ (by rfl) (by rfl) _ _ hr5 ?_
        have hS5 := (show (fun W => Blk W w.heap.size 30 #[m0, .slice Ag ng cg, .slice Af nf cf, m3] ∧ Blk W (w.heap.size + 1) 40 #[f0, f1, .slice Al nl cl, .slice As ns cs, f4] ∧ Blk W (w.heap.size + 1 + 1) 77 #[.int .u8 (K : Int), .int .u8 (A : Int), .int .u8 (B : Int), .int .u8 (C : Int)]) w5 from HS5.out)
        refine hKQ.out _ _ hS5 (fun _ => ?_)
        clear hKQ KQ
        try simp only [Act.put, List.setIfInBounds_toArray, List.set_cons_zero, List.set_cons_succ]
        refine wpAnyH_take (i := 15) (oi := ⟨_, _, _, _, _, _⟩) (v := ?_) rfl (by kernel_rfl) (by kernel_rfl) (by kernel_rfl) (fun _ _ _ h => h) (Or.inl ⟨by rfl, ?_⟩) (by assumption) ?_
        rotate_left
        · (intro W hSW; (try dsimp only at hSW); go_simp; first | done | with_reducible rfl)
        try simp only [Act.put, List.setIfInBounds_toArray, List.set_cons_zero, List.set_cons_succ]
        refine wpAnyH_ready (rs := [16]) (by kernel_rfl) (by simp) ?_
        refine AllReadyH.cons (o := ⟨_, _, _, _, _, _⟩) rfl (fun KQ hKQ => ?_) AllReadyH.nil
        go_simp
        refine hKQ.out _ _ (⟨HL5.out.bm, HL5.out.bf, HL5.out.bx⟩) (fun _ => ?_)
        clear hKQ KQ
        try simp only [Act.put, List.setIfInBounds_toArray, List.set_cons_zero, List.set_cons_succ]
        refine wpAnyH_done (by kernel_rfl) ?_ _
        clear hHeld hS3 hS4 hS5 g0 g1 g2 g3 g4 g5 g6 m0' m1' m2' m3' f0' f1' f2' f3' f4' x0' x1' x2' x3'
        go_wp2
        go_roundw
        case rel => exact ⟨j + 1, _, _, _, by omega, by go_num, by rw [HArg.out]; exact HL5⟩
        case measure => simp [intOf]; omega
      · go_simp
        refine H40.out.mono ?_
        rintro e w3 ⟨rfl, A5, n5, c5, w5, hr5, k3, kz, k5, kf, HS3, HS5, HL5⟩
        have hS3 := (show (fun W => Blk W w.heap.size 30 #[m0, .slice Ag ng cg, .slice Af nf cf, m3] ∧ Blk W (w.heap.size + 1) 40 #[f0, f1, .slice Al nl cl, .slice As ns cs, f4] ∧ Blk W (w.heap.size + 1 + 1) 77 #[.int .u8 (K : Int), .int .u8 (A : Int), .int .u8 (B : Int), .int .u8 (C : Int)]) w3 from HS3.out)
        refine hKQ.out _ _ hS3 (fun _ => ?_)
        clear hKQ KQ
        try simp only [Act.put, List.setIfInBounds_toArray, List.set_cons_zero, List.set_cons_succ]
        refine wpAnyH_ready (rs := [1, 13]) (by kernel_rfl) (by simp) ?_
        refine AllReadyH.cons (o := ⟨_, _, _, _, _, _⟩) rfl (fun KQ hKQ => ?_) (AllReadyH.cons (o := ⟨_, _, _, _, _, _⟩) rfl (fun KQ hKQ => ?_) AllReadyH.nil)
        · go_simp
          refine hKQ.out _ _ hS3 (fun _ => ?_)
          clear hKQ KQ
          try simp only [Act.put, List.setIfInBounds_toArray, List.set_cons_zero, List.set_cons_succ]
          refine wpAnyH_ready (rs := [13]) (by kernel_rfl) (by simp) ?_
          refine AllReadyH.cons (o := ⟨_, _, _, _, _, _⟩) rfl (fun KQ hKQ => ?_) AllReadyH.nil
          go_simp
          have hS4 := (show (fun W => Blk W w.heap.size 30 #[m0, .slice Ag ng cg, .slice Af nf cf, m3] ∧ Blk W (w.heap.size + 1) 40 #[f0, f1, .slice Al nl cl, .slice As ns cs, f4] ∧ Blk W (w.heap.size + 1 + 1) 77 #[.int .u8 (K : Int), .int .u8 (A : Int), .int .u8 (B : Int), .int .u8 (C : Int)]) (w3.alloc (.cells #[.int .u8 vj1, .int .i64 vj2] 46)) from ⟨HS3.out.1.alloc _, HS3.out.2.1.alloc _, HS3.out.2.2.alloc _⟩)
          refine hKQ.out _ _ hS4 (fun _ => ?_)
          clear hKQ KQ
          try simp only [Act.put, List.setIfInBounds_toArray, List.set_cons_zero, List.set_cons_succ]
          refine wpAnyH_ready (rs := [14]) (by kernel_rfl) (by simp) ?_
          refine AllReadyH.cons (o := ⟨_, _, _, _, _, _⟩) rfl (fun KQ hKQ => ?_) AllReadyH.nil
          refine step_append_run _ (by rfl) _ _ _ (by rfl) _ _ (by rfl) (by rfl) _ _ hr5 ?_
          have hS5 := (show (fun W => Blk W w.heap.size 30 #[m0, .slice Ag ng cg, .slice Af nf cf, m3] ∧ Blk W (w.heap.size + 1) 40 #[f0, f1, .slice Al nl cl, .slice As ns cs, f4] ∧ Blk W (w.heap.size + 1 + 1) 77 #[.int .u8 (K : Int), .int .u8 (A : Int), .int .u8 (B : Int), .int .u8 (C : Int)]) w5 from HS5.out)
          refine hKQ.out _ _ hS5 (fun _ => ?_)
          clear hKQ KQ
          try simp only [Act.put, List.setIfInBounds_toArray, List.set_cons_zero, List.set_cons_succ]
          refine wpAnyH_take (i := 15) (oi := ⟨_, _, _, _, _, _⟩) (v := ?_) rfl (by kernel_rfl) (by kernel_rfl) (by kernel_rfl) (fun _ _ _ h => h) (Or.inl ⟨by rfl, ?_⟩) (by assumption) ?_
          rotate_left
          · (intro W hSW; (try dsimp only at hSW); go_simp; first | done | with_reducible rfl)
          try simp only [Act.put, List.setIfInBounds_toArray, List.set_cons_zero, List.set_cons_succ]
          refine wpAnyH_ready (rs := [16]) (by kernel_rfl) (by simp) ?_
          refine AllReadyH.cons (o := ⟨_, _, _, _, _, _⟩) rfl (fun KQ hKQ => ?_) AllReadyH.nil
          go_simp
          refine hKQ.out _ _ (⟨HL5.out.bm, HL5.out.bf, HL5.out.bx⟩) (fun _ => ?_)
          clear hKQ KQ
          try simp only [Act.put, List.setIfInBounds_toArray, List.set_cons_zero, List.set_cons_succ]
          refine wpAnyH_done (by kernel_rfl) ?_ _
          clear hHeld hS3 hS4 hS5 g0 g1 g2 g3 g4 g5 g6 m0' m1' m2' m3' f0' f1' f2' f3' f4' x0' x1' x2' x3'
          go_wp2
          go_roundw
          case rel => exact ⟨j + 1, _, _, _, by omega, by go_num, by rw [HArg.out]; exact HL5⟩
          case measure => simp [intOf]; omega
        · go_simp
          have hS4 := (show (fun W => Blk W w.heap.size 30 #[m0, .slice Ag ng cg, .slice Af nf cf, m3] ∧ Blk W (w.heap.size + 1) 40 #[f0, f1, .slice Al nl cl, .slice As ns cs, f4] ∧ Blk W (w.heap.size + 1 + 1) 77 #[.int .u8 (K : Int), .int .u8 (A : Int), .int .u8 (B : Int), .int .u8 (C : Int)]) (w3.alloc (.cells #[.int .u8 vj1, .int .i64 vj2] 46)) from ⟨HS3.out.1.alloc _, HS3.out.2.1.alloc _, HS3.out.2.2.alloc _⟩)
          refine hKQ.out _ _ hS4 (fun _ => ?_)
          clear hKQ KQ
          try simp only [Act.put, List.setIfInBounds_toArray, List.set_cons_zero, List.set_cons_succ]
          refine wpAnyH_ready (rs := [1]) (by kernel_rfl) (by simp) ?_
          refine AllReadyH.cons (o := ⟨_, _, _, _, _, _⟩) rfl (fun KQ hKQ => ?_) AllReadyH.nil
          go_simp
          refine hKQ.out _ _ hS4 (fun _ => ?_)
          clear hKQ KQ
          try simp only [Act.put, List.setIfInBounds_toArray, List.set_cons_zero, List.set_cons_succ]
          refine wpAnyH_ready (rs := [14]) (by kernel_rfl) (by simp) ?_
          refine AllReadyH.cons (o := ⟨_, _, _, _, _, _⟩) rfl (fun KQ hKQ => ?_) AllReadyH.nil
          refine step_append_run _ (by rfl) _ _ _ (by rfl) _ _ (by rfl) (by rfl) _ _ hr5 ?_
          have hS5 := (show (fun W => Blk W w.heap.size 30 #[m0, .slice Ag ng cg, .slice Af nf cf, m3] ∧ Blk W (w.heap.size + 1) 40 #[f0, f1, .slice Al nl cl, .slice As ns cs, f4] ∧ Blk W (w.heap.size + 1 + 1) 77 #[.int .u8 (K : Int), .int .u8 (A : Int), .int .u8 (B : Int), .int .u8 (C : Int)]) w5 from HS5.out)
          refine hKQ.out _ _ hS5 (fun _ => ?_)
          clear hKQ KQ
          try simp only [Act.put, List.setIfInBounds_toArray, List.set_cons_zero, List.set_cons_succ]
          refine wpAnyH_take (i := 15) (oi := ⟨_, _, _, _, _, _⟩) (v := ?_) rfl (by kernel_rfl) (by kernel_rfl) (by kernel_rfl) (fun _ _ _ h => h) (Or.inl ⟨by rfl, ?_⟩) (by assumption) ?_
          rotate_left
          · (intro W hSW; (try dsimp only at hSW); go_simp; first | done | with_reducible rfl)
          try simp only [Act.put, List.setIfInBounds_toArray, List.set_cons_zero, List.set_cons_succ]
          refine wpAnyH_ready (rs := [16]) (by kernel_rfl) (by simp) ?_
          refine AllReadyH.cons (o := ⟨_, _, _, _, _, _⟩) rfl (fun KQ hKQ => ?_) AllReadyH.nil
          go_simp
          refine hKQ.out _ _ (⟨HL5.out.bm, HL5.out.bf, HL5.out.bx⟩) (fun _ => ?_)
          clear hKQ KQ
          try simp only [Act.put, List.setIfInBounds_toArray, List.set_cons_zero, List.set_cons_succ]
          refine wpAnyH_done (by kernel_rfl) ?_ _
          clear hHeld hS3 hS4 hS5 g0 g1 g2 g3 g4 g5 g6 m0' m1' m2' m3' f0' f1' f2' f3' f4' x0' x1' x2' x3'
          go_wp2
          go_roundw
          case rel => exact ⟨j + 1, _, _, _, by omega, by go_num, by rw [HArg.out]; exact HL5⟩
          case measure => simp [intOf]; omega
    · obtain rfl : j = N := by omega
      obtain ⟨r0, r1, r2, r3, r4, r5, r6⟩ := hL.out.br.c7
      have p0 := hL.out.br.frozen 0
      have p1 := hL.out.br.frozen 1
      have p2 := hL.out.br.frozen 2
      have p3 := hL.out.br.frozen 3
      have p4 := hL.out.br.frozen 4
      have p5 := hL.out.br.frozen 5
      have p6 := hL.out.br.frozen 6
      have hq3 : w.heap.size + 1 + 1 + 1 < qs := hL.out.qs
      go_wp2
      refine bodyPost_ret (v := .agg #[.int .u8 5, .int .u8 0, .int .i64 0, .int .u8 vb1, .int .i64 vb2, .slice Ax nx cx, .slice none 0 0]) (by simp [results, Try.results33, go_sem, r0, r1, r2, r3, r4, r5, r6]) rfl ?_
      rw [HS.out]
      refine ⟨.slice Ax nx cx, none, 0, rfl, own_args (argF_len ..) (own_blocks (by have := hL.out.own; rwa [argF_len] at this) (fun k hk => ?_)), noBody _ _ _, set7 hL.out.bel (by omega) _ _ _ _ _ _ _⟩
      exact set7_far _ _ _ _ _ _ _ (fun e => own_ne hL.out.own hL.out.br (by decide) (by rw [← e]; exact hk))
set_option maxRecDepth 20000 in
set_option maxHeartbeats 1000000 in
theorem stm_call51 (m0 m3 f0 f1 f4 : Value) (Ag Af Al As : Option Addr) (ng cg nf cf nl cl ns cs K A B C : Nat) (par : Nat → Nat) (w : World) (hK : K < 256) (hA : A < 256) (hB : B < 256) (hC : C < 256) (hl : nl ≤ 1000000) (hg : ng ≤ 1000000) (hp : 0 < nl + ng) (h10 : K % 10 = 5) (hc3 : C % 3 ≠ 0) :
    Calls Try.prog 33 #[.agg #[m0, .slice Ag ng cg, .slice Af nf cf, m3], .agg #[f0, f1, .slice Al nl cl, .slice As ns cs, f4], .agg #[.int .u8 (K : Int), .int .u8 (A : Int), .int .u8 (B : Int), .int .u8 (C : Int)]] w (StPost w (stm0 nl ng nf ns par K A B C)) := by
  have HS : Hid (stm0 nl ng nf ns par K A B C = ⟨5, varF nl ng A, varF nl ng B, argF nl ng A C (C / 4 % 4), .nil⟩) := by show _ = _; unfold stm0 argF; simp [h10, hc3]
  have hm : (K : Int) % 10 = 5 := by omega
  have hm3 : ((C : Int) % 3 == 0) = false := by simp; omega
  have HVj := Lib.hid (fun j w' => variables_any m0 (.slice Af nf cf) m3 f0 f1 (.slice As ns cs) f4 Ag Al ng cg nl cl ((A + C + j) % 256) w' (Nat.mod_lt _ (by decide)) hl hg hp)
  have HB0 : Hid (Below w.heap.size w ((((w.alloc (.cells #[m0, .slice Ag ng cg, .slice Af nf cf, m3] 30)).alloc (.cells #[f0, f1, .slice Al nl cl, .slice As ns cs, f4] 40)).alloc (.cells #[.int .u8 (K : Int), .int .u8 (A : Int), .int .u8 (B : Int), .int .u8 (C : Int)] 77)).alloc (.cells #[.int .u8 0, .int .u8 0, .int .i64 0, .int .u8 0, .int .i64 0, .slice none 0 0, .slice none 0 0] 50))) := ((((Below.refl _ _).alloc (Nat.le_refl _) _).alloc (by simp) _).alloc (by simp; omega) _).alloc (by simp; omega) _
  have HV1 := Lib.hid (fun w' => variables_any m0 (.slice Af nf cf) m3 f0 f1 (.slice As ns cs) f4 Ag Al ng cg nl cl A w' hA hl hg hp)
  have HV2 := Lib.hid (fun w' => variables_any m0 (.slice Af nf cf) m3 f0 f1 (.slice As ns cs) f4 Ag Al ng cg nl cl B w' hB hl hg hp)
  have hNe : ((C : Int) / 4 % 4) = ((C / 4 % 4 : Nat) : Int) := by omega
  have hpl : C / 4 % 4 ≤ 100 := by omega
  generalize C / 4 % 4 = N at *
  generalize varF nl ng A = va at *
  generalize varF nl ng B = vb at *
  generalize stm0 nl ng nf ns par K A B C = s at *
  obtain ⟨va1, va2⟩ := va
  obtain ⟨vb1, vb2⟩ := vb
  have KM : Hid (Blk ((((w.alloc (.cells #[m0, .slice Ag ng cg, .slice Af nf cf, m3] 30)).alloc (.cells #[f0, f1, .slice Al nl cl, .slice As ns cs, f4] 40)).alloc (.cells #[.int .u8 (K : Int), .int .u8 (A : Int), .int .u8 (B : Int), .int .u8 (C : Int)] 77)).alloc (.cells #[.int .u8 0, .int .u8 0, .int .i64 0, .int .u8 0, .int .i64 0, .slice none 0 0, .slice none 0 0] 50)) w.heap.size 30 #[m0, .slice Ag ng cg, .slice Af nf cf, m3]) := (((Blk.new w 30 _).alloc _).alloc _).alloc _
  have KF : Hid (Blk ((((w.alloc (.cells #[m0, .slice Ag ng cg, .slice Af nf cf, m3] 30)).alloc (.cells #[f0, f1, .slice Al nl cl, .slice As ns cs, f4] 40)).alloc (.cells #[.int .u8 (K : Int), .int .u8 (A : Int), .int .u8 (B : Int), .int .u8 (C : Int)] 77)).alloc (.cells #[.int .u8 0, .int .u8 0, .int .i64 0, .int .u8 0, .int .i64 0, .slice none 0 0, .slice none 0 0] 50)) (w.heap.size + 1) 40 #[f0, f1, .slice Al nl cl, .slice As ns cs, f4]) := ((Blk.new' _ 40 _ _ (by simp)).alloc _).alloc _
  have KX : Hid (Blk ((((w.alloc (.cells #[m0, .slice Ag ng cg, .slice Af nf cf, m3] 30)).alloc (.cells #[f0, f1, .slice Al nl cl, .slice As ns cs, f4] 40)).alloc (.cells #[.int .u8 (K : Int), .int .u8 (A : Int), .int .u8 (B : Int), .int .u8 (C : Int)] 77)).alloc (.cells #[.int .u8 0, .int .u8 0, .int .i64 0, .int .u8 0, .int .i64 0, .slice none 0 0, .slice none 0 0] 50)) (w.heap.size + 1 + 1) 77 #[.int .u8 (K : Int), .int .u8 (A : Int), .int .u8 (B : Int), .int .u8 (C : Int)]) := (Blk.new' _ 77 _ _ (by simp)).alloc _
  have KR : Hid (Blk ((((w.alloc (.cells #[m0, .slice Ag ng cg, .slice Af nf cf, m3] 30)).alloc (.cells #[f0, f1, .slice Al nl cl, .slice As ns cs, f4] 40)).alloc (.cells #[.int .u8 (K : Int), .int .u8 (A : Int), .int .u8 (B : Int), .int .u8 (C : Int)] 77)).alloc (.cells #[.int .u8 0, .int .u8 0, .int .i64 0, .int .u8 0, .int .i64 0, .slice none 0 0, .slice none 0 0] 50)) (w.heap.size + 1 + 1 + 1) 50 #[.int .u8 0, .int .u8 0, .int .i64 0, .int .u8 0, .int .i64 0, .slice none 0 0, .slice none 0 0]) := Blk.new' _ 50 _ _ (by simp)
  go_enter Try.func33, Try.ntmps33
  go_wp2_with fail
  refine (HV1.out _).mono ?_
  rintro e w1 ⟨rfl, hb1⟩
  have HB1 := Lib.hid (HB0.out.trans (hb1.mono HB0.out.size))
  have KM1 := Lib.hid (KM.out.old hb1)
  have KF1 := Lib.hid (KF.out.old hb1)
  have KX1 := Lib.hid (KX.out.old hb1)
  have KR1 := Lib.hid (KR.out.old hb1)
  have z1 : w.heap.size + 1 + 1 + 1 < w1.heap.size := KR1.out.lt
  have z2 : w.heap.size + 1 + 1 < w1.heap.size := by omega
  have z3 : w.heap.size + 1 < w1.heap.size := by omega
  have z4 : w.heap.size < w1.heap.size := by omega
  obtain ⟨m01, m11, m21, m31⟩ := KM1.out.c4
  obtain ⟨f01, f11, f21, f31, f41⟩ := KF1.out.c5
  obtain ⟨x01, x11, x21, x31⟩ := KX1.out.c4
  clear hb1
  go_wp2_with fail
  refine (HV2.out _).mono ?_
  rintro e w2 ⟨rfl, hb2⟩
  have HB2 := Lib.hid ((HB1.out.alloc HB1.out.size (.cells #[.int .u8 va1, .int .i64 va2] 46)).trans (hb2.mono (by have := HB1.out.size; simp; omega)))
  have KM2 := Lib.hid ((KM1.out.alloc (.cells #[.int .u8 va1, .int .i64 va2] 46)).old hb2)
  have KF2 := Lib.hid ((KF1.out.alloc (.cells #[.int .u8 va1, .int .i64 va2] 46)).old hb2)
  have KX2 := Lib.hid ((KX1.out.alloc (.cells #[.int .u8 va1, .int .i64 va2] 46)).old hb2)
  have KR2 := Lib.hid ((KR1.out.alloc (.cells #[.int .u8 va1, .int .i64 va2] 46)).old hb2)
  have KA2 := Lib.hid ((Blk.new w1 46 #[.int .u8 va1, .int .i64 va2]).old hb2)
  have y0 : w1.heap.size < w2.heap.size := KA2.out.lt
  have y1 : w.heap.size + 1 + 1 + 1 < w2.heap.size := by omega
  have y2 : w.heap.size + 1 + 1 < w2.heap.size := by omega
  have y3 : w.heap.size + 1 < w2.heap.size := by omega
  have y4 : w.heap.size < w2.heap.size := by omega
  clear m01 m11 m21 m31 f01 f11 f21 f31 f41 x01 x11 x21 x31 hb2
  obtain ⟨m02, m12, m22, m32⟩ := KM2.out.c4
  obtain ⟨f02, f12, f22, f32, f42⟩ := KF2.out.c5
  obtain ⟨x02, x12, x22, x32⟩ := KX2.out.c4
  obtain ⟨a02, a12⟩ := KA2.out.c2
  obtain ⟨r02, r12, r22, r32, r42, r52, r62⟩ := KR2.out.c7
  have q0 := KR2.out.frozen 0
  have q1 := KR2.out.frozen 1
  have q2 := KR2.out.frozen 2
  have q3 := KR2.out.frozen 3
  have q4 := KR2.out.frozen 4
  have q5 := KR2.out.frozen 5
  have q6 := KR2.out.frozen 6
  have u0 : w1.heap.size < w2.heap.size + 1 := by omega
  have u1 : w.heap.size + 1 + 1 + 1 < w2.heap.size + 1 := by omega
  have u2 : w.heap.size + 1 + 1 < w2.heap.size + 1 := by omega
  have u3 : w.heap.size + 1 < w2.heap.size + 1 := by omega
  have u4 : w.heap.size < w2.heap.size + 1 := by omega
  have HL0 : Hid (ArgLoop w (w2.heap.size + 1) #[m0, .slice Ag ng cg, .slice Af nf cf, m3] #[f0, f1, .slice Al nl cl, .slice As ns cs, f4] #[.int .u8 (K : Int), .int .u8 (A : Int), .int .u8 (B : Int), .int .u8 (C : Int)] #[.int .u8 0, .int .u8 0, .int .i64 0, .int .u8 0, .int .i64 0, .slice none 0 0, .slice none 0 0] va1 va2 vb1 vb2 (.slice none 0 0) [] ((w2.alloc (.cells #[.int .u8 vb1, .int .i64 vb2] 46)).alloc (.cells #[.int .u8 5, .int .u8 va1, .int .i64 va2, .int .u8 vb1, .int .i64 vb2, .slice none 0 0, .slice none 0 0] 50))) :=
    ⟨⟨rfl, .inl ⟨rfl, rfl⟩⟩, Blk.new' _ 50 _ _ (by simp), (KM2.out.alloc _).alloc _, (KF2.out.alloc _).alloc _, (KX2.out.alloc _).alloc _, (KR2.out.alloc _).alloc _, (HB2.out.alloc HB2.out.size _).alloc (by have := HB2.out.size; simp; omega) _, by omega⟩
  go_wp2_with fail
  clear m02 m12 m22 m32 f02 f12 f22 f32 f42 x02 x12 x22 x32 a02 a12 r02 r12 r22 r32 r42 r52 r62 q0 q1 q2 q3 q4 q5 q6 KM KF KX KR KM1 KF1 KX1 KR1 KM2 KF2 KX2 KR2 KA2 HB0 HB1 hm hm3 
  simp only [hNe]
  clear hNe
  obtain ⟨qs, hqs⟩ : ∃ qs, qs = w2.heap.size + 1 := ⟨_, rfl⟩
  rw [← hqs] at HL0
  rw [← hqs]
  have HQS := Lib.hid hqs
  clear hqs
  go_loopw [12] (fun s12 wr => ∃ (j : Nat) (Ax : Option Addr) (nx cx : Nat), j ≤ N ∧ s12 = .int .i64 (j : Int) ∧ Hid (ArgLoop w qs #[m0, .slice Ag ng cg, .slice Af nf cf, m3] #[f0, f1, .slice Al nl cl, .slice As ns cs, f4] #[.int .u8 (K : Int), .int .u8 (A : Int), .int .u8 (B : Int), .int .u8 (C : Int)] #[.int .u8 0, .int .u8 0, .int .i64 0, .int .u8 0, .int .i64 0, .slice none 0 0, .slice none 0 0] va1 va2 vb1 vb2 (.slice Ax nx cx) (argF nl ng A C j) wr)) (fun s12 _ => N - (intOf s12).toNat)
  case atStart => exact ⟨0, _, _, _, Nat.zero_le _, rfl, HL0⟩
  case round =>
    obtain ⟨j, Ax, nx, cx, hj, rfl, hL⟩ := hrel
    obtain ⟨g0, g1, g2, g3, g4, g5, g6⟩ := hL.out.bs.c7
    have hqlt := hL.out.bs.lt
    by_cases hlt : j < N
    · obtain ⟨m0', m1', m2', m3'⟩ := hL.out.bm.c4
      obtain ⟨f0', f1', f2', f3', f4'⟩ := hL.out.bf.c5
      obtain ⟨x0', x1', x2', x3'⟩ := hL.out.bx.c4
      have HX1 := hL.out.bel.size
      have e1 : IntKind.u8.wrap ((A : Int) + (C : Int)) = ((A : Int) + (C : Int)) % 256 := wrapu8 _ (by omega)
      have e2 : IntKind.u8.wrap (j : Int) = (j : Int) := by rw [wrapu8 _ (by omega)]; omega
      have e3 : IntKind.u8.wrap (((A : Int) + (C : Int)) % 256 + (j : Int)) = (((A + C + j) % 256 : Nat) : Int) := by rw [wrapu8 _ (by omega)]; omega
      have HArg := Lib.hid (argF_succ nl ng A C j)
      have HV := HVj.out j wr.drew
      generalize varF nl ng ((A + C + j) % 256) = vj at *
      obtain ⟨vj1, vj2⟩ := vj
      have H40 : Hid (Calls Try.prog 58 #[.agg #[m0, .slice Ag ng cg, .slice Af nf cf, m3], .agg #[f0, f1, .slice Al nl cl, .slice As ns cs, f4], .int .u8 (((A + C + j) % 256 : Nat) : Int)] wr.drew fun e w3 => e = .returned (.agg #[.int .u8 vj1, .int .i64 vj2]) ∧ _) :=
        HV.mono (fun e w3 ⟨he, hb3⟩ => ⟨he, hL.out.step (by rw [argF_len]; omega) vj1 vj2 w3 ((Below.refl _ wr).drew.trans hb3)⟩)
      clear HV
      generalize (A + C + j) % 256 = nj at *
      go_upto_region 30 with (fail)
      refine wp_region_held_drew (S := (fun W => Blk W w.heap.size 30 #[m0, .slice Ag ng cg, .slice Af nf cf, m3] ∧ Blk W (w.heap.size + 1) 40 #[f0, f1, .slice Al nl cl, .slice As ns cs, f4] ∧ Blk W (w.heap.size + 1 + 1) 77 #[.int .u8 (K : Int), .int .u8 (A : Int), .int .u8 (B : Int), .int .u8 (C : Int)])) (by kernel_rfl) ⟨hL.out.bm.drew, hL.out.bf.drew, hL.out.bx.drew⟩ (fun hHeld => ?_)
      refine wpAnyH_take (i := 0) (oi := ⟨_, _, _, _, _, _⟩) (v := ?_) rfl (by kernel_rfl) (by kernel_rfl) (by kernel_rfl) (fun _ _ _ h => h) (Or.inl ⟨by rfl, ?_⟩) (by assumption) ?_
      rotate_left
      · (intro W hSW; (try dsimp only at hSW); obtain ⟨s1, s2, s3⟩ := hSW; obtain ⟨p0, p1, p2, p3⟩ := s1.c4; obtain ⟨p4, p5, p6, p7, p8⟩ := s2.c5; obtain ⟨p9, p10, p11, p12⟩ := s3.c4; go_simp; first | done | with_reducible rfl)
      try simp only [Act.put, List.setIfInBounds_toArray, List.set_cons_zero, List.set_cons_succ]
      refine wpAnyH_take (i := 2) (oi := ⟨_, _, _, _, _, _⟩) (v := ?_) rfl (by kernel_rfl) (by kernel_rfl) (by kernel_rfl) (fun _ _ _ h => h) (Or.inl ⟨by rfl, ?_⟩) (by assumption) ?_
      rotate_left
      · (intro W hSW; (try dsimp only at hSW); obtain ⟨s1, s2, s3⟩ := hSW; obtain ⟨p0, p1, p2, p3⟩ := s1.c4; obtain ⟨p4, p5, p6, p7, p8⟩ := s2.c5; obtain ⟨p9, p10, p11, p12⟩ := s3.c4; go_simp; first | done | with_reducible rfl)
      try simp only [Act.put, List.setIfInBounds_toArray, List.set_cons_zero, List.set_cons_succ]
      refine wpAnyH_take (i := 3) (oi := ⟨_, _, _, _, _, _⟩) (v := ?_) rfl (by kernel_rfl) (by kernel_rfl) (by kernel_rfl) (fun _ _ _ h => h) (Or.inl ⟨by rfl, ?_⟩) (by assumption) ?_
      rotate_left
      · (intro W hSW; (try dsimp only at hSW); obtain ⟨s1, s2, s3⟩ := hSW; obtain ⟨p0, p1, p2, p3⟩ := s1.c4; obtain ⟨p4, p5, p6, p7, p8⟩ := s2.c5; obtain ⟨p9, p10, p11, p12⟩ := s3.c4; go_simp; first | done | with_reducible rfl)
      try simp only [Act.put, List.setIfInBounds_toArray, List.set_cons_zero, List.set_cons_succ]
      refine wpAnyH_take (i := 4) (oi := ⟨_, _, _, _, _, _⟩) (v := ?_) rfl (by kernel_rfl) (by kernel_rfl) (by kernel_rfl) (fun _ _ _ h => h) (Or.inl ⟨by rfl, ?_⟩) (by assumption) ?_
      rotate_left
      · (intro W hSW; (try dsimp only at hSW); obtain ⟨s1, s2, s3⟩ := hSW; obtain ⟨p0, p1, p2, p3⟩ := s1.c4; obtain ⟨p4, p5, p6, p7, p8⟩ := s2.c5; obtain ⟨p9, p10, p11, p12⟩ := s3.c4; go_simp; first | done | with_reducible rfl)
      try simp only [Act.put, List.setIfInBounds_toArray, List.set_cons_zero, List.set_cons_succ]
      refine wpAnyH_take (i := 5) (oi := ⟨_, _, _, _, _, _⟩) (v := ?_) rfl (by kernel_rfl) (by kernel_rfl) (by kernel_rfl) (fun _ _ _ h => h) (Or.inl ⟨by rfl, ?_⟩) (by assumption) ?_
      rotate_left
      · (intro W hSW; (try dsimp only at hSW); obtain ⟨s1, s2, s3⟩ := hSW; obtain ⟨p0, p1, p2, p3⟩ := s1.c4; obtain ⟨p4, p5, p6, p7, p8⟩ := s2.c5; obtain ⟨p9, p10, p11, p12⟩ := s3.c4; go_simp; first | done | with_reducible rfl)
      try simp only [Act.put, List.setIfInBounds_toArray, List.set_cons_zero, List.set_cons_succ]
      refine wpAnyH_take (i := 6) (oi := ⟨_, _, _, _, _, _⟩) (v := ?_) rfl (by kernel_rfl) (by kernel_rfl) (by kernel_rfl) (fun _ _ _ h => h) (Or.inl ⟨by rfl, ?_⟩) (by assumption) ?_
      rotate_left
      · (intro W hSW; (try dsimp only at hSW); obtain ⟨s1, s2, s3⟩ := hSW; obtain ⟨p0, p1, p2, p3⟩ := s1.c4; obtain ⟨p4, p5, p6, p7, p8⟩ := s2.c5; obtain ⟨p9, p10, p11, p12⟩ := s3.c4; go_simp; first | done | with_reducible rfl)
      try simp only [Act.put, List.setIfInBounds_toArray, List.set_cons_zero, List.set_cons_succ]
      refine wpAnyH_take (i := 7) (oi := ⟨_, _, _, _, _, _⟩) (v := ?_) rfl (by kernel_rfl) (by kernel_rfl) (by kernel_rfl) (fun _ _ _ h => h) (Or.inl ⟨by rfl, ?_⟩) (by assumption) ?_
      rotate_left
      · (intro W hSW; (try dsimp only at hSW); obtain ⟨s1, s2, s3⟩ := hSW; obtain ⟨p0, p1, p2, p3⟩ := s1.c4; obtain ⟨p4, p5, p6, p7, p8⟩ := s2.c5; obtain ⟨p9, p10, p11, p12⟩ := s3.c4; go_simp; first | done | with_reducible rfl)
      try simp only [Act.put, List.setIfInBounds_toArray, List.set_cons_zero, List.set_cons_succ]
      refine wpAnyH_take (i := 8) (oi := ⟨_, _, _, _, _, _⟩) (v := ?_) rfl (by kernel_rfl) (by kernel_rfl) (by kernel_rfl) (fun _ _ _ h => h) (Or.inl ⟨by rfl, ?_⟩) (by assumption) ?_
      rotate_left
      · (intro W hSW; (try dsimp only at hSW); obtain ⟨s1, s2, s3⟩ := hSW; obtain ⟨p0, p1, p2, p3⟩ := s1.c4; obtain ⟨p4, p5, p6, p7, p8⟩ := s2.c5; obtain ⟨p9, p10, p11, p12⟩ := s3.c4; go_simp; first | done | with_reducible rfl)
      try simp only [Act.put, List.setIfInBounds_toArray, List.set_cons_zero, List.set_cons_succ]
      refine wpAnyH_take (i := 9) (oi := ⟨_, _, _, _, _, _⟩) (v := ?_) rfl (by kernel_rfl) (by kernel_rfl) (by kernel_rfl) (fun _ _ _ h => h) (Or.inl ⟨by rfl, ?_⟩) (by assumption) ?_
      rotate_left
      · (intro W hSW; (try dsimp only at hSW); obtain ⟨s1, s2, s3⟩ := hSW; obtain ⟨p0, p1, p2, p3⟩ := s1.c4; obtain ⟨p4, p5, p6, p7, p8⟩ := s2.c5; obtain ⟨p9, p10, p11, p12⟩ := s3.c4; go_simp; first | done | with_reducible rfl)
      try simp only [Act.put, List.setIfInBounds_toArray, List.set_cons_zero, List.set_cons_succ]
      refine wpAnyH_take (i := 10) (oi := ⟨_, _, _, _, _, _⟩) (v := ?_) rfl (by kernel_rfl) (by kernel_rfl) (by kernel_rfl) (fun _ _ _ h => h) (Or.inl ⟨by rfl, ?_⟩) (by assumption) ?_
      rotate_left
      · (intro W hSW; (try dsimp only at hSW); obtain ⟨s1, s2, s3⟩ := hSW; obtain ⟨p0, p1, p2, p3⟩ := s1.c4; obtain ⟨p4, p5, p6, p7, p8⟩ := s2.c5; obtain ⟨p9, p10, p11, p12⟩ := s3.c4; go_simp; first | done | with_reducible rfl)
      try simp only [Act.put, List.setIfInBounds_toArray, List.set_cons_zero, List.set_cons_succ]
      refine wpAnyH_take (i := 11) (oi := ⟨_, _, _, _, _, _⟩) (v := ?_) rfl (by kernel_rfl) (by kernel_rfl) (by kernel_rfl) (fun _ _ _ h => h) (Or.inl ⟨by rfl, ?_⟩) (by assumption) ?_
      rotate_left
      · (intro W hSW; (try dsimp only at hSW); obtain ⟨s1, s2, s3⟩ := hSW; obtain ⟨p0, p1, p2, p3⟩ := s1.c4; obtain ⟨p4, p5, p6, p7, p8⟩ := s2.c5; obtain ⟨p9, p10, p11, p12⟩ := s3.c4; go_simp; first | done | with_reducible rfl)
      try simp only [Act.put, List.setIfInBounds_toArray, List.set_cons_zero, List.set_cons_succ]
      refine wpAnyH_ready (rs := [1, 12]) (by kernel_rfl) (by simp) ?_
      refine AllReadyH.cons (o := ⟨_, _, _, _, _, _⟩) rfl (fun KQ hKQ => ?_) (AllReadyH.cons (o := ⟨_, _, _, _, _, _⟩) rfl (fun KQ hKQ => ?_) AllReadyH.nil)
      · go_simp
        refine hKQ.out _ _ hHeld (fun _ => ?_)
        clear hKQ KQ
        try simp only [Act.put, List.setIfInBounds_toArray, List.set_cons_zero, List.set_cons_succ]
        refine wpAnyH_ready (rs := [12]) (by kernel_rfl) (by simp) ?_
        refine AllReadyH.cons (o := ⟨_, _, _, _, _, _⟩) rfl (fun KQ hKQ => ?_) AllReadyH.nil
        go_simp
        refine H40.out.mono ?_
        rintro e w3 ⟨rfl, A5, n5, c5, w5, hr5, k3, kz, k5, kf, HS3, HS5, HL5⟩
        have hS3 := (show (fun W => Blk W w.heap.size 30 #[m0, .slice Ag ng cg, .slice Af nf cf, m3] ∧ Blk W (w.heap.size + 1) 40 #[f0, f1, .slice Al nl cl, .slice As ns cs, f4] ∧ Blk W (w.heap.size + 1 + 1) 77 #[.int .u8 (K : Int), .int .u8 (A : Int), .int .u8 (B : Int), .int .u8 (C : Int)]) w3 from HS3.out)
        refine hKQ.out _ _ hS3 (fun _ => ?_)
        clear hKQ KQ
        try simp only [Act.put, List.setIfInBounds_toArray, List.set_cons_zero, List.set_cons_succ]
        refine wpAnyH_ready (rs := [13]) (by kernel_rfl) (by simp) ?_
        refine AllReadyH.cons (o := ⟨_, _, _, _, _, _⟩) rfl (fun KQ hKQ => ?_) AllReadyH.nil
        go_simp
        have hS4 := (show (fun W => Blk W w.heap.size 30 #[m0, .slice Ag ng cg, .slice Af nf cf, m3] ∧ Blk W (w.heap.size + 1) 40 #[f0, f1, .slice Al nl cl, .slice As ns cs, f4] ∧ Blk W (w.heap.size + 1 + 1) 77 #[.int .u8 (K : Int), .int .u8 (A : Int), .int .u8 (B : Int), .int .u8 (C : Int)]) (w3.alloc (.cells #[.int .u8 vj1, .int .i64 vj2] 46)) from ⟨HS3.out.1.alloc _, HS3.out.2.1.alloc _, HS3.out.2.2.alloc _⟩)
        refine hKQ.out _ _ hS4 (fun _ => ?_)
        clear hKQ KQ
        try simp only [Act.put, List.setIfInBounds_toArray, List.set_cons_zero, List.set_cons_succ]
        refine wpAnyH_ready (rs := [14]) (by kernel_rfl) (by simp) ?_
        refine AllReadyH.cons (o := ⟨_, _, _, _, _, _⟩) rfl (fun KQ hKQ => ?_) AllReadyH.nil
        refine step_append_run _ (by rfl) _ _ _ (by rfl) _ _ (by rfl) (by rfl) _ _ hr5 ?_
        have hS5 := (show (fun W => Blk W w.heap.size 30 #[m0, .slice Ag ng cg, .slice Af nf cf, m3] ∧ Blk W (w.heap.size + 1) 40 #[f0, f1, .slice Al nl cl, .slice As ns cs, f4] ∧ Blk W (w.heap.size + 1 + 1) 77 #[.int .u8 (K : Int), .int .u8 (A : Int), .int .u8 (B : Int), .int .u8 (C : Int)]) w5 from HS5.out)
        refine hKQ.out _ _ hS5 (fun _ => ?_)
        clear hKQ KQ
        try simp only [Act.put, List.setIfInBounds_toArray, List.set_cons_zero, List.set_cons_succ]
        refine wpAnyH_take (i := 15) (oi := ⟨_, _, _, _, _, _⟩) (v := ?_) rfl (by kernel_rfl) (by kernel_rfl) (by kernel_rfl) (fun _ _ _ h => h) (Or.inl ⟨by rfl, ?_⟩) (by assumption) ?_
        rotate_left
        · (intro W hSW; (try dsimp only at hSW); go_simp; first | done | with_reducible rfl)
        try simp only [Act.put, List.setIfInBounds_toArray, List.set_cons_zero, List.set_cons_succ]
        refine wpAnyH_ready (rs := [16]) (by kernel_rfl) (by simp) ?_
        refine AllReadyH.cons (o := ⟨_, _, _, _, _, _⟩) rfl (fun KQ hKQ => ?_) AllReadyH.nil
        go_simp
        refine hKQ.out _ _ (⟨HL5.out.bm, HL5.out.bf, HL5.out.bx⟩) (fun _ => ?_)
        clear hKQ KQ
        try simp only [Act.put, List.setIfInBounds_toArray, List.set_cons_zero, List.set_cons_succ]
        refine wpAnyH_done (by kernel_rfl) ?_ _
        clear hHeld hS3 hS4 hS5 g0 g1 g2 g3 g4 g5 g6 m0' m1' m2' m3' f0' f1' f2' f3' f4' x0' x1' x2' x3'
        go_wp2
        go_roundw
        case rel => exact ⟨j + 1, _, _, _, by omega, by go_num, by rw [HArg.out]; exact HL5⟩
        case measure => simp [intOf]; omega
      · go_simp
        refine H40.out.mono ?_
        rintro e w3 ⟨rfl, A5, n5, c5, w5, hr5, k3, kz, k5, kf, HS3, HS5, HL5⟩
        have hS3 := (show (fun W => Blk W w.heap.size 30 #[m0, .slice Ag ng cg, .slice Af nf cf, m3] ∧ Blk W (w.heap.size + 1) 40 #[f0, f1, .slice Al nl cl, .slice As ns cs, f4] ∧ Blk W (w.heap.size + 1 + 1) 77 #[.int .u8 (K : Int), .int .u8 (A : Int), .int .u8 (B : Int), .int .u8 (C : Int)]) w3 from HS3.out)
        refine hKQ.out _ _ hS3 (fun _ => ?_)
        clear hKQ KQ
        try simp only [Act.put, List.setIfInBounds_toArray, List.set_cons_zero, List.set_cons_succ]
        refine wpAnyH_ready (rs := [1, 13]) (by kernel_rfl) (by simp) ?_
        refine AllReadyH.cons (o := ⟨_, _, _, _, _, _⟩) rfl (fun KQ hKQ => ?_) (AllReadyH.cons (o := ⟨_, _, _, _, _, _⟩) rfl (fun KQ hKQ => ?_) AllReadyH.nil)
        · go_simp
          refine hKQ.out _ _ hS3 (fun _ => ?_)
          clear hKQ KQ
          try simp only [Act.put, List.setIfInBounds_toArray, List.set_cons_zero, List.set_cons_succ]
          refine wpAnyH_ready (rs := [13]) (by kernel_rfl) (by simp) ?_
          refine AllReadyH.cons (o := ⟨_, _, _, _, _, _⟩) rfl (fun KQ hKQ => ?_) AllReadyH.nil
          go_simp
          have hS4 := (show (fun W => Blk W w.heap.size 30 #[m0, .slice Ag ng cg, .slice Af nf cf, m3] ∧ Blk W (w.heap.size + 1) 40 #[f0, f1, .slice Al nl cl, .slice As ns cs, f4] ∧ Blk W (w.heap.size + 1 + 1) 77 #[.int .u8 (K : Int), .int .u8 (A : Int), .int .u8 (B : Int), .int .u8 (C : Int)]) (w3.alloc (.cells #[.int .u8 vj1, .int .i64 vj2] 46)) from ⟨HS3.out.1.alloc _, HS3.out.2.1.alloc _, HS3.out.2.2.alloc _⟩)
          refine hKQ.out _ _ hS4 (fun _ => ?_)
          clear hKQ KQ
          try simp only [Act.put, List.setIfInBounds_toArray, List.set_cons_zero, List.set_cons_succ]
          refine wpAnyH_ready (rs := [14]) (by kernel_rfl) (by simp) ?_
          refine AllReadyH.cons (o := ⟨_, _, _, _, _, _⟩) rfl (fun KQ hKQ => ?_) AllReadyH.nil
          refine step_append_run _ (by rfl) _ _ _ (by rfl) _ _ (by rfl) (by rfl) _ _ hr5 ?_
          have hS5 := (show (fun W => Blk W w.heap.size 30 #[m0, .slice Ag ng cg, .slice Af nf cf, m3] ∧ Blk W (w.heap.size + 1) 40 #[f0, f1, .slice Al nl cl, .slice As ns cs, f4] ∧ Blk W (w.heap.size + 1 + 1) 77 #[.int .u8 (K : Int), .int .u8 (A : Int), .int .u8 (B : Int), .int .u8 (C : Int)]) w5 from HS5.out)
          refine hKQ.out _ _ hS5 (fun _ => ?_)
          clear hKQ KQ
          try simp only [Act.put, List.setIfInBounds_toArray, List.set_cons_zero, List.set_cons_succ]
          refine wpAnyH_take (i := 15) (oi := ⟨_, _, _, _, _, _⟩) (v := ?_) rfl (by kernel_rfl) (by kernel_rfl) (by kernel_rfl) (fun _ _ _ h => h) (Or.inl ⟨by rfl, ?_⟩) (by assumption) ?_
          rotate_left
          · (intro W hSW; (try dsimp only at hSW); go_simp; first | done | with_reducible rfl)
          try simp only [Act.put, List.setIfInBounds_toArray, List.set_cons_zero, List.set_cons_succ]
          refine wpAnyH_ready (rs := [16]) (by kernel_rfl) (by simp) ?_
          refine AllReadyH.cons (o := ⟨_, _, _, _, _, _⟩) rfl (fun KQ hKQ => ?_) AllReadyH.nil
          go_simp
          refine hKQ.out _ _ (⟨HL5.out.bm, HL5.out.bf, HL5.out.bx⟩) (fun _ => ?_)
          clear hKQ KQ
          try simp only [Act.put, List.setIfInBounds_toArray, List.set_cons_zero, List.set_cons_succ]
          refine wpAnyH_done (by kernel_rfl) ?_ _
          clear hHeld hS3 hS4 hS5 g0 g1 g2 g3 g4 g5 g6 m0' m1' m2' m3' f0' f1' f2' f3' f4' x0' x1' x2' x3'
          go_wp2
          go_roundw
          case rel => exact ⟨j + 1, _, _, _, by omega, by go_num, by rw [HArg.out]; exact HL5⟩
          case measure => simp [intOf]; omega
        · go_simp
          have hS4 := (show (fun W => Blk W w.heap.size 30 #[m0, .slice Ag ng cg, .slice Af nf cf, m3] ∧ Blk W (w.heap.size + 1) 40 #[f0, f1, .slice Al nl cl, .slice As ns cs, f4] ∧ Blk W (w.heap.size + 1 + 1) 77 #[.int .u8 (K : Int), .int .u8 (A : Int), .int .u8 (B : Int), .int .u8 (C : Int)]) (w3.alloc (.cells #[.int .u8 vj1, .int .i64 vj2] 46)) from ⟨HS3.out.1.alloc _, HS3.out.2.1.alloc _, HS3.out.2.2.alloc _⟩)
          refine hKQ.out _ _ hS4 (fun _ => ?_)
          clear hKQ KQ
          try simp only [Act.put, List.setIfInBounds_toArray, List.set_cons_zero, List.set_cons_succ]
          refine wpAnyH_ready (rs := [1]) (by kernel_rfl) (by simp) ?_
          refine AllReadyH.cons (o := ⟨_, _, _, _, _, _⟩) rfl (fun KQ hKQ => ?_) AllReadyH.nil
          go_simp
          refine hKQ.out _ _ hS4 (fun _ => ?_)
          clear hKQ KQ
          try simp only [Act.put, List.setIfInBounds_toArray, List.set_cons_zero, List.set_cons_succ]
          refine wpAnyH_ready (rs := [14]) (by kernel_rfl) (by simp) ?_
          refine AllReadyH.cons (o := ⟨_, _, _, _, _, _⟩) rfl (fun KQ hKQ => ?_) AllReadyH.nil
          refine step_append_run _ (by rfl) _ _ _ (by rfl) _ _ (by rfl) (by rfl) _ _ hr5 ?_
          have hS5 := (show (fun W => Blk W w.heap.size 30 #[m0, .slice Ag ng cg, .slice Af nf cf, m3] ∧ Blk W (w.heap.size + 1) 40 #[f0, f1, .slice Al nl cl, .slice As ns cs, f4] ∧ Blk W (w.heap.size + 1 + 1) 77 #[.int .u8 (K : Int), .int .u8 (A : Int), .int .u8 (B : Int), .int .u8 (C : Int)]) w5 from HS5.out)
          refine hKQ.out _ _ hS5 (fun _ => ?_)
          clear hKQ KQ
          try simp only [Act.put, List.setIfInBounds_toArray, List.set_cons_zero, List.set_cons_succ]
          refine wpAnyH_take (i := 15) (oi := ⟨_, _, _, _, _, _⟩) (v := ?_) rfl (by kernel_rfl) (by kernel_rfl) (by kernel_rfl) (fun _ _ _ h => h) (Or.inl ⟨by rfl, ?_⟩) (by assumption) ?_
          rotate_left
          · (intro W hSW; (try dsimp only at hSW); go_simp; first | done | with_reducible rfl)
          try simp only [Act.put, List.setIfInBounds_toArray, List.set_cons_zero, List.set_cons_succ]
          refine wpAnyH_ready (rs := [16]) (by kernel_rfl) (by simp) ?_
          refine AllReadyH.cons (o := ⟨_, _, _, _, _, _⟩) rfl (fun KQ hKQ => ?_) AllReadyH.nil
          go_simp
          refine hKQ.out _ _ (⟨HL5.out.bm, HL5.out.bf, HL5.out.bx⟩) (fun _ => ?_)
          clear hKQ KQ
          try simp only [Act.put, List.setIfInBounds_toArray, List.set_cons_zero, List.set_cons_succ]
          refine wpAnyH_done (by kernel_rfl) ?_ _
          clear hHeld hS3 hS4 hS5 g0 g1 g2 g3 g4 g5 g6 m0' m1' m2' m3' f0' f1' f2' f3' f4' x0' x1' x2' x3'
          go_wp2
          go_roundw
          case rel => exact ⟨j + 1, _, _, _, by omega, by go_num, by rw [HArg.out]; exact HL5⟩
          case measure => simp [intOf]; omega
    · obtain rfl : j = N := by omega
      obtain ⟨r0, r1, r2, r3, r4, r5, r6⟩ := hL.out.br.c7
      have p0 := hL.out.br.frozen 0
      have p1 := hL.out.br.frozen 1
      have p2 := hL.out.br.frozen 2
      have p3 := hL.out.br.frozen 3
      have p4 := hL.out.br.frozen 4
      have p5 := hL.out.br.frozen 5
      have p6 := hL.out.br.frozen 6
      have hq3 : w.heap.size + 1 + 1 + 1 < qs := hL.out.qs
      go_wp2
      refine bodyPost_ret (v := .agg #[.int .u8 5, .int .u8 va1, .int .i64 va2, .int .u8 vb1, .int .i64 vb2, .slice Ax nx cx, .slice none 0 0]) (by simp [results, Try.results33, go_sem, r0, r1, r2, r3, r4, r5, r6]) rfl ?_
      rw [HS.out]
      refine ⟨.slice Ax nx cx, none, 0, rfl, own_args (argF_len ..) (own_blocks (by have := hL.out.own; rwa [argF_len] at this) (fun k hk => ?_)), noBody _ _ _, set7 hL.out.bel (by omega) _ _ _ _ _ _ _⟩
      exact set7_far _ _ _ _ _ _ _ (fun e => own_ne hL.out.own hL.out.br (by decide) (by rw [← e]; exact hk))
set_option maxRecDepth 20000 in
set_option maxHeartbeats 1000000 in
theorem stm_call40 (m0 m3 f0 f1 f4 : Value) (Ag Af Al As : Option Addr) (ng cg nf cf nl cl ns cs K A B C : Nat) (par : Nat → Nat) (w : World) (hK : K < 256) (hA : A < 256) (hB : B < 256) (hC : C < 256) (hl : nl ≤ 1000000) (hg : ng ≤ 1000000) (hp : 0 < nl + ng) (h10 : K % 10 = 4) (hc3 : C % 3 = 0) (hnf : 0 < nf) (hnf2 : nf ≤ 1000000) (hpar : ∀ i, i < nf → par i ≤ 100 ∧ ∃ b o, Af = some ⟨b, o, none⟩ ∧ w.cell? ⟨b, o + i * 5 + 1, none⟩ = some (.int .i64 ((par i : Nat) : Int))) :
    Calls Try.prog 33 #[.agg #[m0, .slice Ag ng cg, .slice Af nf cf, m3], .agg #[f0, f1, .slice Al nl cl, .slice As ns cs, f4], .agg #[.int .u8 (K : Int), .int .u8 (A : Int), .int .u8 (B : Int), .int .u8 (C : Int)]] w (StPost w (stm0 nl ng nf ns par K A B C)) := by
  have HS : Hid (stm0 nl ng nf ns par K A B C = ⟨5, (0, 0), (3, ((B % nf : Nat) : Int)), argF nl ng A C (par (B % nf)), .nil⟩) := by show _ = _; unfold stm0 argF; simp [h10, hc3]
  have hm : (K : Int) % 10 = 4 := by omega
  have hm3 : (C : Int) % 3 = 0 := by omega
  have hk : ((B : Int).tmod (nf : Int)) = ((B % nf : Nat) : Int) := u8mod B nf hnf
  have hk0 : ((nf : Int) == 0) = false := by simp; omega
  have hkl : B % nf < nf := Nat.mod_lt _ hnf
  obtain ⟨hpl, bF, oF, rfl, hpc⟩ := hpar _ hkl
  clear hpar
  have hbF := World.block_lt_of_cell? w ⟨bF, oF + B % nf * 5 + 1, none⟩ hpc
  have HVj := Lib.hid (fun j w' => variables_any m0 (.slice (some ⟨bF, oF, none⟩) nf cf) m3 f0 f1 (.slice As ns cs) f4 Ag Al ng cg nl cl ((A + C + j) % 256) w' (Nat.mod_lt _ (by decide)) hl hg hp)
  have HB0 : Hid (Below w.heap.size w ((((w.alloc (.cells #[m0, .slice Ag ng cg, .slice (some ⟨bF, oF, none⟩) nf cf, m3] 30)).alloc (.cells #[f0, f1, .slice Al nl cl, .slice As ns cs, f4] 40)).alloc (.cells #[.int .u8 (K : Int), .int .u8 (A : Int), .int .u8 (B : Int), .int .u8 (C : Int)] 77)).alloc (.cells #[.int .u8 0, .int .u8 0, .int .i64 0, .int .u8 0, .int .i64 0, .slice none 0 0, .slice none 0 0] 50))) := ((((Below.refl _ _).alloc (Nat.le_refl _) _).alloc (by simp) _).alloc (by simp; omega) _).alloc (by simp; omega) _
  have HV1 := Lib.hid (fun w' => variables_any m0 (.slice (some ⟨bF, oF, none⟩) nf cf) m3 f0 f1 (.slice As ns cs) f4 Ag Al ng cg nl cl A w' hA hl hg hp)
  have HV2 := Lib.hid (fun w' => variables_any m0 (.slice (some ⟨bF, oF, none⟩) nf cf) m3 f0 f1 (.slice As ns cs) f4 Ag Al ng cg nl cl B w' hB hl hg hp)
  have HPC := Lib.hid hpc
  clear hpc
  obtain ⟨N, hN⟩ : ∃ N, N = par (B % nf) := ⟨_, rfl⟩
  rw [← hN] at hpl HS HPC
  clear hN
  generalize B % nf = bn at *
  generalize varF nl ng A = va at *
  generalize varF nl ng B = vb at *
  generalize stm0 nl ng nf ns par K A B C = s at *
  obtain ⟨va1, va2⟩ := va
  obtain ⟨vb1, vb2⟩ := vb
  have KM : Hid (Blk ((((w.alloc (.cells #[m0, .slice Ag ng cg, .slice (some ⟨bF, oF, none⟩) nf cf, m3] 30)).alloc (.cells #[f0, f1, .slice Al nl cl, .slice As ns cs, f4] 40)).alloc (.cells #[.int .u8 (K : Int), .int .u8 (A : Int), .int .u8 (B : Int), .int .u8 (C : Int)] 77)).alloc (.cells #[.int .u8 0, .int .u8 0, .int .i64 0, .int .u8 0, .int .i64 0, .slice none 0 0, .slice none 0 0] 50)) w.heap.size 30 #[m0, .slice Ag ng cg, .slice (some ⟨bF, oF, none⟩) nf cf, m3]) := (((Blk.new w 30 _).alloc _).alloc _).alloc _
  have KF : Hid (Blk ((((w.alloc (.cells #[m0, .slice Ag ng cg, .slice (some ⟨bF, oF, none⟩) nf cf, m3] 30)).alloc (.cells #[f0, f1, .slice Al nl cl, .slice As ns cs, f4] 40)).alloc (.cells #[.int .u8 (K : Int), .int .u8 (A : Int), .int .u8 (B : Int), .int .u8 (C : Int)] 77)).alloc (.cells #[.int .u8 0, .int .u8 0, .int .i64 0, .int .u8 0, .int .i64 0, .slice none 0 0, .slice none 0 0] 50)) (w.heap.size + 1) 40 #[f0, f1, .slice Al nl cl, .slice As ns cs, f4]) := ((Blk.new' _ 40 _ _ (by simp)).alloc _).alloc _
  have KX : Hid (Blk ((((w.alloc (.cells #[m0, .slice Ag ng cg, .slice (some ⟨bF, oF, none⟩) nf cf, m3] 30)).alloc (.cells #[f0, f1, .slice Al nl cl, .slice As ns cs, f4] 40)).alloc (.cells #[.int .u8 (K : Int), .int .u8 (A : Int), .int .u8 (B : Int), .int .u8 (C : Int)] 77)).alloc (.cells #[.int .u8 0, .int .u8 0, .int .i64 0, .int .u8 0, .int .i64 0, .slice none 0 0, .slice none 0 0] 50)) (w.heap.size + 1 + 1) 77 #[.int .u8 (K : Int), .int .u8 (A : Int), .int .u8 (B : Int), .int .u8 (C : Int)]) := (Blk.new' _ 77 _ _ (by simp)).alloc _
  have KR : Hid (Blk ((((w.alloc (.cells #[m0, .slice Ag ng cg, .slice (some ⟨bF, oF, none⟩) nf cf, m3] 30)).alloc (.cells #[f0, f1, .slice Al nl cl, .slice As ns cs, f4] 40)).alloc (.cells #[.int .u8 (K : Int), .int .u8 (A : Int), .int .u8 (B : Int), .int .u8 (C : Int)] 77)).alloc (.cells #[.int .u8 0, .int .u8 0, .int .i64 0, .int .u8 0, .int .i64 0, .slice none 0 0, .slice none 0 0] 50)) (w.heap.size + 1 + 1 + 1) 50 #[.int .u8 0, .int .u8 0, .int .i64 0, .int .u8 0, .int .i64 0, .slice none 0 0, .slice none 0 0]) := Blk.new' _ 50 _ _ (by simp)
  go_enter Try.func33, Try.ntmps33
  go_wp2_with fail
  refine (HV1.out _).mono ?_
  rintro e w1 ⟨rfl, hb1⟩
  have HB1 := Lib.hid (HB0.out.trans (hb1.mono HB0.out.size))
  have KM1 := Lib.hid (KM.out.old hb1)
  have KF1 := Lib.hid (KF.out.old hb1)
  have KX1 := Lib.hid (KX.out.old hb1)
  have KR1 := Lib.hid (KR.out.old hb1)
  have z1 : w.heap.size + 1 + 1 + 1 < w1.heap.size := KR1.out.lt
  have z2 : w.heap.size + 1 + 1 < w1.heap.size := by omega
  have z3 : w.heap.size + 1 < w1.heap.size := by omega
  have z4 : w.heap.size < w1.heap.size := by omega
  obtain ⟨m01, m11, m21, m31⟩ := KM1.out.c4
  obtain ⟨f01, f11, f21, f31, f41⟩ := KF1.out.c5
  obtain ⟨x01, x11, x21, x31⟩ := KX1.out.c4
  clear hb1
  go_wp2_with fail
  refine (HV2.out _).mono ?_
  rintro e w2 ⟨rfl, hb2⟩
  have HB2 := Lib.hid ((HB1.out.alloc HB1.out.size (.cells #[.int .u8 va1, .int .i64 va2] 46)).trans (hb2.mono (by have := HB1.out.size; simp; omega)))
  have KM2 := Lib.hid ((KM1.out.alloc (.cells #[.int .u8 va1, .int .i64 va2] 46)).old hb2)
  have KF2 := Lib.hid ((KF1.out.alloc (.cells #[.int .u8 va1, .int .i64 va2] 46)).old hb2)
  have KX2 := Lib.hid ((KX1.out.alloc (.cells #[.int .u8 va1, .int .i64 va2] 46)).old hb2)
  have KR2 := Lib.hid ((KR1.out.alloc (.cells #[.int .u8 va1, .int .i64 va2] 46)).old hb2)
  have KA2 := Lib.hid ((Blk.new w1 46 #[.int .u8 va1, .int .i64 va2]).old hb2)
  have y0 : w1.heap.size < w2.heap.size := KA2.out.lt
  have y1 : w.heap.size + 1 + 1 + 1 < w2.heap.size := by omega
  have y2 : w.heap.size + 1 + 1 < w2.heap.size := by omega
  have y3 : w.heap.size + 1 < w2.heap.size := by omega
  have y4 : w.heap.size < w2.heap.size := by omega
  clear m01 m11 m21 m31 f01 f11 f21 f31 f41 x01 x11 x21 x31 hb2
  obtain ⟨m02, m12, m22, m32⟩ := KM2.out.c4
  obtain ⟨f02, f12, f22, f32, f42⟩ := KF2.out.c5
  obtain ⟨x02, x12, x22, x32⟩ := KX2.out.c4
  obtain ⟨a02, a12⟩ := KA2.out.c2
  obtain ⟨r02, r12, r22, r32, r42, r52, r62⟩ := KR2.out.c7
  have q0 := KR2.out.frozen 0
  have q1 := KR2.out.frozen 1
  have q2 := KR2.out.frozen 2
  have q3 := KR2.out.frozen 3
  have q4 := KR2.out.frozen 4
  have q5 := KR2.out.frozen 5
  have q6 := KR2.out.frozen 6
  have hpc2 : w2.cell? ⟨bF, oF + bn * 5 + 1, none⟩ = some (.int .i64 (N : Int)) := (World.cell?_of_block (HB2.out.block bF hbF)).trans HPC.out
  have hbF2 : bF < w2.heap.size := by have := HB2.out.size; omega
  have hbF3 : bF < w2.heap.size + 1 := by omega
  have u0 : w1.heap.size < w2.heap.size + 1 := by omega
  have u1 : w.heap.size + 1 + 1 + 1 < w2.heap.size + 1 := by omega
  have u2 : w.heap.size + 1 + 1 < w2.heap.size + 1 := by omega
  have u3 : w.heap.size + 1 < w2.heap.size + 1 := by omega
  have u4 : w.heap.size < w2.heap.size + 1 := by omega
  have HL0 : Hid (ArgLoop w (w2.heap.size + 1) #[m0, .slice Ag ng cg, .slice (some ⟨bF, oF, none⟩) nf cf, m3] #[f0, f1, .slice Al nl cl, .slice As ns cs, f4] #[.int .u8 (K : Int), .int .u8 (A : Int), .int .u8 (B : Int), .int .u8 (C : Int)] #[.int .u8 0, .int .u8 0, .int .i64 0, .int .u8 0, .int .i64 0, .slice none 0 0, .slice none 0 0] 0 0 3 (bn : Int) (.slice none 0 0) [] ((w2.alloc (.cells #[.int .u8 vb1, .int .i64 vb2] 46)).alloc (.cells #[.int .u8 5, .int .u8 0, .int .i64 0, .int .u8 3, .int .i64 (bn : Int), .slice none 0 0, .slice none 0 0] 50))) :=
    ⟨⟨rfl, .inl ⟨rfl, rfl⟩⟩, Blk.new' _ 50 _ _ (by simp), (KM2.out.alloc _).alloc _, (KF2.out.alloc _).alloc _, (KX2.out.alloc _).alloc _, (KR2.out.alloc _).alloc _, (HB2.out.alloc HB2.out.size _).alloc (by have := HB2.out.size; simp; omega) _, by omega⟩
  go_wp2_with fail
  clear m02 m12 m22 m32 f02 f12 f22 f32 f42 x02 x12 x22 x32 a02 a12 r02 r12 r22 r32 r42 r52 r62 q0 q1 q2 q3 q4 q5 q6 KM KF KX KR KM1 KF1 KX1 KR1 KM2 KF2 KX2 KR2 KA2 HB0 HB1 hm hm3 hk hk0
  obtain ⟨qs, hqs⟩ : ∃ qs, qs = w2.heap.size + 1 := ⟨_, rfl⟩
  rw [← hqs] at HL0
  rw [← hqs]
  have HQS := Lib.hid hqs
  clear hqs
  go_loopw [12] (fun s12 wr => ∃ (j : Nat) (Ax : Option Addr) (nx cx : Nat), j ≤ N ∧ s12 = .int .i64 (j : Int) ∧ Hid (ArgLoop w qs #[m0, .slice Ag ng cg, .slice (some ⟨bF, oF, none⟩) nf cf, m3] #[f0, f1, .slice Al nl cl, .slice As ns cs, f4] #[.int .u8 (K : Int), .int .u8 (A : Int), .int .u8 (B : Int), .int .u8 (C : Int)] #[.int .u8 0, .int .u8 0, .int .i64 0, .int .u8 0, .int .i64 0, .slice none 0 0, .slice none 0 0] 0 0 3 (bn : Int) (.slice Ax nx cx) (argF nl ng A C j) wr)) (fun s12 _ => N - (intOf s12).toNat)
  case atStart => exact ⟨0, _, _, _, Nat.zero_le _, rfl, HL0⟩
  case round =>
    obtain ⟨j, Ax, nx, cx, hj, rfl, hL⟩ := hrel
    obtain ⟨g0, g1, g2, g3, g4, g5, g6⟩ := hL.out.bs.c7
    have hqlt := hL.out.bs.lt
    by_cases hlt : j < N
    · obtain ⟨m0', m1', m2', m3'⟩ := hL.out.bm.c4
      obtain ⟨f0', f1', f2', f3', f4'⟩ := hL.out.bf.c5
      obtain ⟨x0', x1', x2', x3'⟩ := hL.out.bx.c4
      have HX1 := hL.out.bel.size
      have e1 : IntKind.u8.wrap ((A : Int) + (C : Int)) = ((A : Int) + (C : Int)) % 256 := wrapu8 _ (by omega)
      have e2 : IntKind.u8.wrap (j : Int) = (j : Int) := by rw [wrapu8 _ (by omega)]; omega
      have e3 : IntKind.u8.wrap (((A : Int) + (C : Int)) % 256 + (j : Int)) = (((A + C + j) % 256 : Nat) : Int) := by rw [wrapu8 _ (by omega)]; omega
      have HArg := Lib.hid (argF_succ nl ng A C j)
      have HV := HVj.out j wr.drew
      generalize varF nl ng ((A + C + j) % 256) = vj at *
      obtain ⟨vj1, vj2⟩ := vj
      have H40 : Hid (Calls Try.prog 58 #[.agg #[m0, .slice Ag ng cg, .slice (some ⟨bF, oF, none⟩) nf cf, m3], .agg #[f0, f1, .slice Al nl cl, .slice As ns cs, f4], .int .u8 (((A + C + j) % 256 : Nat) : Int)] wr.drew fun e w3 => e = .returned (.agg #[.int .u8 vj1, .int .i64 vj2]) ∧ _) :=
        HV.mono (fun e w3 ⟨he, hb3⟩ => ⟨he, hL.out.step (by rw [argF_len]; omega) vj1 vj2 w3 ((Below.refl _ wr).drew.trans hb3)⟩)
      clear HV
      generalize (A + C + j) % 256 = nj at *
      go_upto_region 30 with (fail)
      refine wp_region_held_drew (S := (fun W => Blk W w.heap.size 30 #[m0, .slice Ag ng cg, .slice (some ⟨bF, oF, none⟩) nf cf, m3] ∧ Blk W (w.heap.size + 1) 40 #[f0, f1, .slice Al nl cl, .slice As ns cs, f4] ∧ Blk W (w.heap.size + 1 + 1) 77 #[.int .u8 (K : Int), .int .u8 (A : Int), .int .u8 (B : Int), .int .u8 (C : Int)])) (by kernel_rfl) ⟨hL.out.bm.drew, hL.out.bf.drew, hL.out.bx.drew⟩ (fun hHeld => ?_)
      refine wpAnyH_take (i := 0) (oi := ⟨_, _, _, _, _, _⟩) (v := ?_) rfl (by kernel_rfl) (by kernel_rfl) (by kernel_rfl) (fun _ _ _ h => h) (Or.inl ⟨by rfl, ?_⟩) (by assumption) ?_
      rotate_left
      · (intro W hSW; (try dsimp only at hSW); obtain ⟨s1, s2, s3⟩ := hSW; obtain ⟨p0, p1, p2, p3⟩ := s1.c4; obtain ⟨p4, p5, p6, p7, p8⟩ := s2.c5; obtain ⟨p9, p10, p11, p12⟩ := s3.c4; go_simp; first | done | with_reducible rfl)
      try simp only [Act.put, List.setIfInBounds_toArray, List.set_cons_zero, List.set_cons_succ]
      refine wpAnyH_take (i := 2) (oi := ⟨_, _, _, _, _, _⟩) (v := ?_) rfl (by kernel_rfl) (by kernel_rfl) (by kernel_rfl) (fun _ _ _ h => h) (Or.inl ⟨by rfl, ?_⟩) (by assumption) ?_
      rotate_left
      · (intro W hSW; (try dsimp only at hSW); obtain ⟨s1, s2, s3⟩ := hSW; obtain ⟨p0, p1, p2, p3⟩ := s1.c4; obtain ⟨p4, p5, p6, p7, p8⟩ := s2.c5; obtain ⟨p9, p10, p11, p12⟩ := s3.c4; go_simp; first | done | with_reducible rfl)
      try simp only [Act.put, List.setIfInBounds_toArray, List.set_cons_zero, List.set_cons_succ]
      refine wpAnyH_take (i := 3) (oi := ⟨_, _, _, _, _, _⟩) (v := ?_) rfl (by kernel_rfl) (by kernel_rfl) (by kernel_rfl) (fun _ _ _ h => h) (Or.inl ⟨by rfl, ?_⟩) (by assumption) ?_
      rotate_left
      · (intro W hSW; (try dsimp only at hSW); obtain ⟨s1, s2, s3⟩ := hSW; obtain ⟨p0, p1, p2, p3⟩ := s1.c4; obtain ⟨p4, p5, p6, p7, p8⟩ := s2.c5; obtain ⟨p9, p10, p11, p12⟩ := s3.c4; go_simp; first | done | with_reducible rfl)
      try simp only [Act.put, List.setIfInBounds_toArray, List.set_cons_zero, List.set_cons_succ]
      refine wpAnyH_take (i := 4) (oi := ⟨_, _, _, _, _, _⟩) (v := ?_) rfl (by kernel_rfl) (by kernel_rfl) (by kernel_rfl) (fun _ _ _ h => h) (Or.inl ⟨by rfl, ?_⟩) (by assumption) ?_
      rotate_left
      · (intro W hSW; (try dsimp only at hSW); obtain ⟨s1, s2, s3⟩ := hSW; obtain ⟨p0, p1, p2, p3⟩ := s1.c4; obtain ⟨p4, p5, p6, p7, p8⟩ := s2.c5; obtain ⟨p9, p10, p11, p12⟩ := s3.c4; go_simp; first | done | with_reducible rfl)
      try simp only [Act.put, List.setIfInBounds_toArray, List.set_cons_zero, List.set_cons_succ]
      refine wpAnyH_take (i := 5) (oi := ⟨_, _, _, _, _, _⟩) (v := ?_) rfl (by kernel_rfl) (by kernel_rfl) (by kernel_rfl) (fun _ _ _ h => h) (Or.inl ⟨by rfl, ?_⟩) (by assumption) ?_
      rotate_left
      · (intro W hSW; (try dsimp only at hSW); obtain ⟨s1, s2, s3⟩ := hSW; obtain ⟨p0, p1, p2, p3⟩ := s1.c4; obtain ⟨p4, p5, p6, p7, p8⟩ := s2.c5; obtain ⟨p9, p10, p11, p12⟩ := s3.c4; go_simp; first | done | with_reducible rfl)
      try simp only [Act.put, List.setIfInBounds_toArray, List.set_cons_zero, List.set_cons_succ]
      refine wpAnyH_take (i := 6) (oi := ⟨_, _, _, _, _, _⟩) (v := ?_) rfl (by kernel_rfl) (by kernel_rfl) (by kernel_rfl) (fun _ _ _ h => h) (Or.inl ⟨by rfl, ?_⟩) (by assumption) ?_
      rotate_left
      · (intro W hSW; (try dsimp only at hSW); obtain ⟨s1, s2, s3⟩ := hSW; obtain ⟨p0, p1, p2, p3⟩ := s1.c4; obtain ⟨p4, p5, p6, p7, p8⟩ := s2.c5; obtain ⟨p9, p10, p11, p12⟩ := s3.c4; go_simp; first | done | with_reducible rfl)
      try simp only [Act.put, List.setIfInBounds_toArray, List.set_cons_zero, List.set_cons_succ]
      refine wpAnyH_take (i := 7) (oi := ⟨_, _, _, _, _, _⟩) (v := ?_) rfl (by kernel_rfl) (by kernel_rfl) (by kernel_rfl) (fun _ _ _ h => h) (Or.inl ⟨by rfl, ?_⟩) (by assumption) ?_
      rotate_left
      · (intro W hSW; (try dsimp only at hSW); obtain ⟨s1, s2, s3⟩ := hSW; obtain ⟨p0, p1, p2, p3⟩ := s1.c4; obtain ⟨p4, p5, p6, p7, p8⟩ := s2.c5; obtain ⟨p9, p10, p11, p12⟩ := s3.c4; go_simp; first | done | with_reducible rfl)
      try simp only [Act.put, List.setIfInBounds_toArray, List.set_cons_zero, List.set_cons_succ]
      refine wpAnyH_take (i := 8) (oi := ⟨_, _, _, _, _, _⟩) (v := ?_) rfl (by kernel_rfl) (by kernel_rfl) (by kernel_rfl) (fun _ _ _ h => h) (Or.inl ⟨by rfl, ?_⟩) (by assumption) ?_
      rotate_left
      · (intro W hSW; (try dsimp only at hSW); obtain ⟨s1, s2, s3⟩ := hSW; obtain ⟨p0, p1, p2, p3⟩ := s1.c4; obtain ⟨p4, p5, p6, p7, p8⟩ := s2.c5; obtain ⟨p9, p10, p11, p12⟩ := s3.c4; go_simp; first | done | with_reducible rfl)
      try simp only [Act.put, List.setIfInBounds_toArray, List.set_cons_zero, List.set_cons_succ]
      refine wpAnyH_take (i := 9) (oi := ⟨_, _, _, _, _, _⟩) (v := ?_) rfl (by kernel_rfl) (by kernel_rfl) (by kernel_rfl) (fun _ _ _ h => h) (Or.inl ⟨by rfl, ?_⟩) (by assumption) ?_
      rotate_left
      · (intro W hSW; (try dsimp only at hSW); obtain ⟨s1, s2, s3⟩ := hSW; obtain ⟨p0, p1, p2, p3⟩ := s1.c4; obtain ⟨p4, p5, p6, p7, p8⟩ := s2.c5; obtain ⟨p9, p10, p11, p12⟩ := s3.c4; go_simp; first | done | with_reducible rfl)
      try simp only [Act.put, List.setIfInBounds_toArray, List.set_cons_zero, List.set_cons_succ]
      refine wpAnyH_take (i := 10) (oi := ⟨_, _, _, _, _, _⟩) (v := ?_) rfl (by kernel_rfl) (by kernel_rfl) (by kernel_rfl) (fun _ _ _ h => h) (Or.inl ⟨by rfl, ?_⟩) (by assumption) ?_
      rotate_left
      · (intro W hSW; (try dsimp only at hSW); obtain ⟨s1, s2, s3⟩ := hSW; obtain ⟨p0, p1, p2, p3⟩ := s1.c4; obtain ⟨p4, p5, p6, p7, p8⟩ := s2.c5; obtain ⟨p9, p10, p11, p12⟩ := s3.c4; go_simp; first | done | with_reducible rfl)
      try simp only [Act.put, List.setIfInBounds_toArray, List.set_cons_zero, List.set_cons_succ]
      refine wpAnyH_take (i := 11) (oi := ⟨_, _, _, _, _, _⟩) (v := ?_) rfl (by kernel_rfl) (by kernel_rfl) (by kernel_rfl) (fun _ _ _ h => h) (Or.inl ⟨by rfl, ?_⟩) (by assumption) ?_
      rotate_left
      · (intro W hSW; (try dsimp only at hSW); obtain ⟨s1, s2, s3⟩ := hSW; obtain ⟨p0, p1, p2, p3⟩ := s1.c4; obtain ⟨p4, p5, p6, p7, p8⟩ := s2.c5; obtain ⟨p9, p10, p11, p12⟩ := s3.c4; go_simp; first | done | with_reducible rfl)
      try simp only [Act.put, List.setIfInBounds_toArray, List.set_cons_zero, List.set_cons_succ]
      refine wpAnyH_ready (rs := [1, 12]) (by kernel_rfl) (by simp) ?_
      refine AllReadyH.cons (o := ⟨_, _, _, _, _, _⟩) rfl (fun KQ hKQ => ?_) (AllReadyH.cons (o := ⟨_, _, _, _, _, _⟩) rfl (fun KQ hKQ => ?_) AllReadyH.nil)
      · go_simp
        refine hKQ.out _ _ hHeld (fun _ => ?_)
        clear hKQ KQ
        try simp only [Act.put, List.setIfInBounds_toArray, List.set_cons_zero, List.set_cons_succ]
        refine wpAnyH_ready (rs := [12]) (by kernel_rfl) (by simp) ?_
        refine AllReadyH.cons (o := ⟨_, _, _, _, _, _⟩) rfl (fun KQ hKQ => ?_) AllReadyH.nil
        go_simp
        refine H40.out.mono ?_
        rintro e w3 ⟨rfl, A5, n5, c5, w5, hr5, k3, kz, k5, kf, HS3, HS5, HL5⟩
        have hS3 := (show (fun W => Blk W w.heap.size 30 #[m0, .slice Ag ng cg, .slice (some ⟨bF, oF, none⟩) nf cf, m3] ∧ Blk W (w.heap.size + 1) 40 #[f0, f1, .slice Al nl cl, .slice As ns cs, f4] ∧ Blk W (w.heap.size + 1 + 1) 77 #[.int .u8 (K : Int), .int .u8 (A : Int), .int .u8 (B : Int), .int .u8 (C : Int)]) w3 from HS3.out)
        refine hKQ.out _ _ hS3 (fun _ => ?_)
        clear hKQ KQ
        try simp only [Act.put, List.setIfInBounds_toArray, List.set_cons_zero, List.set_cons_succ]
        refine wpAnyH_ready (rs := [13]) (by kernel_rfl) (by simp) ?_
        refine AllReadyH.cons (o := ⟨_, _, _, _, _, _⟩) rfl (fun KQ hKQ => ?_) AllReadyH.nil
        go_simp
        have hS4 := (show (fun W => Blk W w.heap.size 30 #[m0, .slice Ag ng cg, .slice (some ⟨bF, oF, none⟩) nf cf, m3] ∧ Blk W (w.heap.size + 1) 40 #[f0, f1, .slice Al nl cl, .slice As ns cs, f4] ∧ Blk W (w.heap.size + 1 + 1) 77 #[.int .u8 (K : Int), .int .u8 (A : Int), .int .u8 (B : Int), .int .u8 (C : Int)]) (w3.alloc (.cells #[.int .u8 vj1, .int .i64 vj2] 46)) from ⟨HS3.out.1.alloc _, HS3.out.2.1.alloc _, HS3.out.2.2.alloc _⟩)
        refine hKQ.out _ _ hS4 (fun _ => ?_)
        clear hKQ KQ
        try simp only [Act.put, List.setIfInBounds_toArray, List.set_cons_zero, List.set_cons_succ]
        refine wpAnyH_ready (rs := [14]) (by kernel_rfl) (by simp) ?_
        refine AllReadyH.cons (o := ⟨_, _, _, _, _, _⟩) rfl (fun KQ hKQ => ?_) AllReadyH.nil
        refine step_append_run _ (by rfl) _ _ _ (by rfl) _ _ (by rfl) (by rfl) _ _ hr5 ?_
        have hS5 := (show (fun W => Blk W w.heap.size 30 #[m0, .slice Ag ng cg, .slice (some ⟨bF, oF, none⟩) nf cf, m3] ∧ Blk W (w.heap.size + 1) 40 #[f0, f1, .slice Al nl cl, .slice As ns cs, f4] ∧ Blk W (w.heap.size + 1 + 1) 77 #[.int .u8 (K : Int), .int .u8 (A : Int), .int .u8 (B : Int), .int .u8 (C : Int)]) w5 from HS5.out)
        refine hKQ.out _ _ hS5 (fun _ => ?_)
        clear hKQ KQ
        try simp only [Act.put, List.setIfInBounds_toArray, List.set_cons_zero, List.set_cons_succ]
        refine wpAnyH_take (i := 15) (oi := ⟨_, _, _, _, _, _⟩) (v := ?_) rfl (by kernel_rfl) (by kernel_rfl) (by kernel_rfl) (fun _ _ _ h => h) (Or.inl ⟨by rfl, ?_⟩) (by assumption) ?_
        rotate_left
        · (intro W hSW; (try dsimp only at hSW); go_simp; first | done | with_reducible rfl)
        try simp only [Act.put, List.setIfInBounds_toArray, List.set_cons_zero, List.set_cons_succ]
        refine wpAnyH_ready (rs := [16]) (by kernel_rfl) (by simp) ?_
        refine AllReadyH.cons (o := ⟨_, _, _, _, _, _⟩) rfl (fun KQ hKQ => ?_) AllReadyH.nil
        go_simp
        refine hKQ.out _ _ (⟨HL5.out.bm, HL5.out.bf, HL5.out.bx⟩) (fun _ => ?_)
        clear hKQ KQ
        try simp only [Act.put, List.setIfInBounds_toArray, List.set_cons_zero, List.set_cons_succ]
        refine wpAnyH_done (by kernel_rfl) ?_ _
        clear hHeld hS3 hS4 hS5 g0 g1 g2 g3 g4 g5 g6 m0' m1' m2' m3' f0' f1' f2' f3' f4' x0' x1' x2' x3'
        go_wp2
        go_roundw
        case rel => exact ⟨j + 1, _, _, _, by omega, by go_num, by rw [HArg.out]; exact HL5⟩
        case measure => simp [intOf]; omega
      · go_simp
        refine H40.out.mono ?_
        rintro e w3 ⟨rfl, A5, n5, c5, w5, hr5, k3, kz, k5, kf, HS3, HS5, HL5⟩
        have hS3 := (show (fun W => Blk W w.heap.size 30 #[m0, .slice Ag ng cg, .slice (some ⟨bF, oF, none⟩) nf cf, m3] ∧ Blk W (w.heap.size + 1) 40 #[f0, f1, .slice Al nl cl, .slice As ns cs, f4] ∧ Blk W (w.heap.size + 1 + 1) 77 #[.int .u8 (K : Int), .int .u8 (A : Int), .int .u8 (B : Int), .int .u8 (C : Int)]) w3 from HS3.out)
        refine hKQ.out _ _ hS3 (fun _ => ?_)
        clear hKQ KQ
        try simp only [Act.put, List.setIfInBounds_toArray, List.set_cons_zero, List.set_cons_succ]
        refine wpAnyH_ready (rs := [1, 13]) (by kernel_rfl) (by simp) ?_
        refine AllReadyH.cons (o := ⟨_, _, _, _, _, _⟩) rfl (fun KQ hKQ => ?_) (AllReadyH.cons (o := ⟨_, _, _, _, _, _⟩) rfl (fun KQ hKQ => ?_) AllReadyH.nil)
        · go_simp
          refine hKQ.out _ _ hS3 (fun _ => ?_)
          clear hKQ KQ
          try simp only [Act.put, List.setIfInBounds_toArray, List.set_cons_zero, List.set_cons_succ]
          refine wpAnyH_ready (rs := [13]) (by kernel_rfl) (by simp) ?_
          refine AllReadyH.cons (o := ⟨_, _, _, _, _, _⟩) rfl (fun KQ hKQ => ?_) AllReadyH.nil
          go_simp
          have hS4 := (show (fun W => Blk W w.heap.size 30 #[m0, .slice Ag ng cg, .slice (some ⟨bF, oF, none⟩) nf cf, m3] ∧ Blk W (w.heap.size + 1) 40 #[f0, f1, .slice Al nl cl, .slice As ns cs, f4] ∧ Blk W (w.heap.size + 1 + 1) 77 #[.int .u8 (K : Int), .int .u8 (A : Int), .int .u8 (B : Int), .int .u8 (C : Int)]) (w3.alloc (.cells #[.int .u8 vj1, .int .i64 vj2] 46)) from ⟨HS3.out.1.alloc _, HS3.out.2.1.alloc _, HS3.out.2.2.alloc _⟩)
          refine hKQ.out _ _ hS4 (fun _ => ?_)
          clear hKQ KQ
          try simp only [Act.put, List.setIfInBounds_toArray, List.set_cons_zero, List.set_cons_succ]
          refine wpAnyH_ready (rs := [14]) (by kernel_rfl) (by simp) ?_
          refine AllReadyH.cons (o := ⟨_, _, _, _, _, _⟩) rfl (fun KQ hKQ => ?_) AllReadyH.nil
          refine step_append_run _ (by rfl) _ _ _ (by rfl) _ _ (by rfl) (by rfl) _ _ hr5 ?_
          have hS5 := (show (fun W => Blk W w.heap.size 30 #[m0, .slice Ag ng cg, .slice (some ⟨bF, oF, none⟩) nf cf, m3] ∧ Blk W (w.heap.size + 1) 40 #[f0, f1, .slice Al nl cl, .slice As ns cs, f4] ∧ Blk W (w.heap.size + 1 + 1) 77 #[.int .u8 (K : Int), .int .u8 (A : Int), .int .u8 (B : Int), .int .u8 (C : Int)]) w5 from HS5.out)
          refine hKQ.out _ _ hS5 (fun _ => ?_)
          clear hKQ KQ
          try simp only [Act.put, List.setIfInBounds_toArray, List.set_cons_zero, List.set_cons_succ]
          refine wpAnyH_take (i := 15) (oi := ⟨_, _, _, _, _, _⟩) (v := ?_) rfl (by kernel_rfl) (by kernel_rfl) (by kernel_rfl) (fun _ _ _ h => h) (Or.inl ⟨by rfl, ?_⟩) (by assumption) ?_
          rotate_left
          · (intro W hSW; (try dsimp only at hSW); go_simp; first | done | with_reducible rfl)
          try simp only [Act.put, List.setIfInBounds_toArray, List.set_cons_zero, List.set_cons_succ]
          refine wpAnyH_ready (rs := [16]) (by kernel_rfl) (by simp) ?_
          refine AllReadyH.cons (o := ⟨_, _, _, _, _, _⟩) rfl (fun KQ hKQ => ?_) AllReadyH.nil
          go_simp
          refine hKQ.out _ _ (⟨HL5.out.bm, HL5.out.bf, HL5.out.bx⟩) (fun _ => ?_)
          clear hKQ KQ
          try simp only [Act.put, List.setIfInBounds_toArray, List.set_cons_zero, List.set_cons_succ]
          refine wpAnyH_done (by kernel_rfl) ?_ _
          clear hHeld hS3 hS4 hS5 g0 g1 g2 g3 g4 g5 g6 m0' m1' m2' m3' f0' f1' f2' f3' f4' x0' x1' x2' x3'
          go_wp2
          go_roundw
          case rel => exact ⟨j + 1, _, _, _, by omega, by go_num, by rw [HArg.out]; exact HL5⟩
          case measure => simp [intOf]; omega
        · go_simp
          have hS4 := (show (fun W => Blk W w.heap.size 30 #[m0, .slice Ag ng cg, .slice (some ⟨bF, oF, none⟩) nf cf, m3] ∧ Blk W (w.heap.size + 1) 40 #[f0, f1, .slice Al nl cl, .slice As ns cs, f4] ∧ Blk W (w.heap.size + 1 + 1) 77 #[.int .u8 (K : Int), .int .u8 (A : Int), .int .u8 (B : Int), .int .u8 (C : Int)]) (w3.alloc (.cells #[.int .u8 vj1, .int .i64 vj2] 46)) from ⟨HS3.out.1.alloc _, HS3.out.2.1.alloc _, HS3.out.2.2.alloc _⟩)
          refine hKQ.out _ _ hS4 (fun _ => ?_)
          clear hKQ KQ
          try simp only [Act.put, List.setIfInBounds_toArray, List.set_cons_zero, List.set_cons_succ]
          refine wpAnyH_ready (rs := [1]) (by kernel_rfl) (by simp) ?_
          refine AllReadyH.cons (o := ⟨_, _, _, _, _, _⟩) rfl (fun KQ hKQ => ?_) AllReadyH.nil
          go_simp
          refine hKQ.out _ _ hS4 (fun _ => ?_)
          clear hKQ KQ
          try simp only [Act.put, List.setIfInBounds_toArray, List.set_cons_zero, List.set_cons_succ]
          refine wpAnyH_ready (rs := [14]) (by kernel_rfl) (by simp) ?_
          refine AllReadyH.cons (o := ⟨_, _, _, _, _, _⟩) rfl (fun KQ hKQ => ?_) AllReadyH.nil
          refine step_append_run _ (by rfl) _ _ _ (by rfl) _ _ (by rfl) (by rfl) _ _ hr5 ?_
          have hS5 := (show (fun W => Blk W w.heap.size 30 #[m0, .slice Ag ng cg, .slice (some ⟨bF, oF, none⟩) nf cf, m3] ∧ Blk W (w.heap.size + 1) 40 #[f0, f1, .slice Al nl cl, .slice As ns cs, f4] ∧ Blk W (w.heap.size + 1 + 1) 77 #[.int .u8 (K : Int), .int .u8 (A : Int), .int .u8 (B : Int), .int .u8 (C : Int)]) w5 from HS5.out)
          refine hKQ.out _ _ hS5 (fun _ => ?_)
          clear hKQ KQ
          try simp only [Act.put, List.setIfInBounds_toArray, List.set_cons_zero, List.set_cons_succ]
          refine wpAnyH_take (i := 15) (oi := ⟨_, _, _, _, _, _⟩) (v := ?_) rfl (by kernel_rfl) (by kernel_rfl) (by kernel_rfl) (fun _ _ _ h => h) (Or.inl ⟨by rfl, ?_⟩) (by assumption) ?_
          rotate_left
          · (intro W hSW; (try dsimp only at hSW); go_simp; first | done | with_reducible rfl)
          try simp only [Act.put, List.setIfInBounds_toArray, List.set_cons_zero, List.set_cons_succ]
          refine wpAnyH_ready (rs := [16]) (by kernel_rfl) (by simp) ?_
          refine AllReadyH.cons (o := ⟨_, _, _, _, _, _⟩) rfl (fun KQ hKQ => ?_) AllReadyH.nil
          go_simp
          refine hKQ.out _ _ (⟨HL5.out.bm, HL5.out.bf, HL5.out.bx⟩) (fun _ => ?_)
          clear hKQ KQ
          try simp only [Act.put, List.setIfInBounds_toArray, List.set_cons_zero, List.set_cons_succ]
          refine wpAnyH_done (by kernel_rfl) ?_ _
          clear hHeld hS3 hS4 hS5 g0 g1 g2 g3 g4 g5 g6 m0' m1' m2' m3' f0' f1' f2' f3' f4' x0' x1' x2' x3'
          go_wp2
          go_roundw
          case rel => exact ⟨j + 1, _, _, _, by omega, by go_num, by rw [HArg.out]; exact HL5⟩
          case measure => simp [intOf]; omega
    · obtain rfl : j = N := by omega
      obtain ⟨r0, r1, r2, r3, r4, r5, r6⟩ := hL.out.br.c7
      have p0 := hL.out.br.frozen 0
      have p1 := hL.out.br.frozen 1
      have p2 := hL.out.br.frozen 2
      have p3 := hL.out.br.frozen 3
      have p4 := hL.out.br.frozen 4
      have p5 := hL.out.br.frozen 5
      have p6 := hL.out.br.frozen 6
      have hq3 : w.heap.size + 1 + 1 + 1 < qs := hL.out.qs
      go_wp2
      refine bodyPost_ret (v := .agg #[.int .u8 5, .int .u8 0, .int .i64 0, .int .u8 3, .int .i64 (bn : Int), .slice Ax nx cx, .slice none 0 0]) (by simp [results, Try.results33, go_sem, r0, r1, r2, r3, r4, r5, r6]) rfl ?_
      rw [HS.out]
      refine ⟨.slice Ax nx cx, none, 0, rfl, own_args (argF_len ..) (own_blocks (by have := hL.out.own; rwa [argF_len] at this) (fun k hk => ?_)), noBody _ _ _, set7 hL.out.bel (by omega) _ _ _ _ _ _ _⟩
      exact set7_far _ _ _ _ _ _ _ (fun e => own_ne hL.out.own hL.out.br (by decide) (by rw [← e]; exact hk))
set_option maxRecDepth 20000 in
set_option maxHeartbeats 1000000 in
theorem stm_call41 (m0 m3 f0 f1 f4 : Value) (Ag Af Al As : Option Addr) (ng cg nf cf nl cl ns cs K A B C : Nat) (par : Nat → Nat) (w : World) (hK : K < 256) (hA : A < 256) (hB : B < 256) (hC : C < 256) (hl : nl ≤ 1000000) (hg : ng ≤ 1000000) (hp : 0 < nl + ng) (h10 : K % 10 = 4) (hc3 : C % 3 ≠ 0) (hnf : 0 < nf) (hnf2 : nf ≤ 1000000) (hpar : ∀ i, i < nf → par i ≤ 100 ∧ ∃ b o, Af = some ⟨b, o, none⟩ ∧ w.cell? ⟨b, o + i * 5 + 1, none⟩ = some (.int .i64 ((par i : Nat) : Int))) :
    Calls Try.prog 33 #[.agg #[m0, .slice Ag ng cg, .slice Af nf cf, m3], .agg #[f0, f1, .slice Al nl cl, .slice As ns cs, f4], .agg #[.int .u8 (K : Int), .int .u8 (A : Int), .int .u8 (B : Int), .int .u8 (C : Int)]] w (StPost w (stm0 nl ng nf ns par K A B C)) := by
  have HS : Hid (stm0 nl ng nf ns par K A B C = ⟨5, varF nl ng A, (3, ((B % nf : Nat) : Int)), argF nl ng A C (par (B % nf)), .nil⟩) := by show _ = _; unfold stm0 argF; simp [h10, hc3]
  have hm : (K : Int) % 10 = 4 := by omega
  have hm3 : ((C : Int) % 3 == 0) = false := by simp; omega
  have hk : ((B : Int).tmod (nf : Int)) = ((B % nf : Nat) : Int) := u8mod B nf hnf
  have hk0 : ((nf : Int) == 0) = false := by simp; omega
  have hkl : B % nf < nf := Nat.mod_lt _ hnf
  obtain ⟨hpl, bF, oF, rfl, hpc⟩ := hpar _ hkl
  clear hpar
  have hbF := World.block_lt_of_cell? w ⟨bF, oF + B % nf * 5 + 1, none⟩ hpc
  have HVj := Lib.hid (fun j w' => variables_any m0 (.slice (some ⟨bF, oF, none⟩) nf cf) m3 f0 f1 (.slice As ns cs) f4 Ag Al ng cg nl cl ((A + C + j) % 256) w' (Nat.mod_lt _ (by decide)) hl hg hp)
  have HB0 : Hid (Below w.heap.size w ((((w.alloc (.cells #[m0, .slice Ag ng cg, .slice (some ⟨bF, oF, none⟩) nf cf, m3] 30)).alloc (.cells #[f0, f1, .slice Al nl cl, .slice As ns cs, f4] 40)).alloc (.cells #[.int .u8 (K : Int), .int .u8 (A : Int), .int .u8 (B : Int), .int .u8 (C : Int)] 77)).alloc (.cells #[.int .u8 0, .int .u8 0, .int .i64 0, .int .u8 0, .int .i64 0, .slice none 0 0, .slice none 0 0] 50))) := ((((Below.refl _ _).alloc (Nat.le_refl _) _).alloc (by simp) _).alloc (by simp; omega) _).alloc (by simp; omega) _
  have HV1 := Lib.hid (fun w' => variables_any m0 (.slice (some ⟨bF, oF, none⟩) nf cf) m3 f0 f1 (.slice As ns cs) f4 Ag Al ng cg nl cl A w' hA hl hg hp)
  have HV2 := Lib.hid (fun w' => variables_any m0 (.slice (some ⟨bF, oF, none⟩) nf cf) m3 f0 f1 (.slice As ns cs) f4 Ag Al ng cg nl cl B w' hB hl hg hp)
  have HPC := Lib.hid hpc
  clear hpc
  obtain ⟨N, hN⟩ : ∃ N, N = par (B % nf) := ⟨_, rfl⟩
  rw [← hN] at hpl HS HPC
  clear hN
  generalize B % nf = bn at *
  generalize varF nl ng A = va at *
  generalize varF nl ng B = vb at *
  generalize stm0 nl ng nf ns par K A B C = s at *
  obtain ⟨va1, va2⟩ := va
  obtain ⟨vb1, vb2⟩ := vb
  have KM : Hid (Blk ((((w.alloc (.cells #[m0, .slice Ag ng cg, .slice (some ⟨bF, oF, none⟩) nf cf, m3] 30)).alloc (.cells #[f0, f1, .slice Al nl cl, .slice As ns cs, f4] 40)).alloc (.cells #[.int .u8 (K : Int), .int .u8 (A : Int), .int .u8 (B : Int), .int .u8 (C : Int)] 77)).alloc (.cells #[.int .u8 0, .int .u8 0, .int .i64 0, .int .u8 0, .int .i64 0, .slice none 0 0, .slice none 0 0] 50)) w.heap.size 30 #[m0, .slice Ag ng cg, .slice (some ⟨bF, oF, none⟩) nf cf, m3]) := (((Blk.new w 30 _).alloc _).alloc _).alloc _
  have KF : Hid (Blk ((((w.alloc (.cells #[m0, .slice Ag ng cg, .slice (some ⟨bF, oF, none⟩) nf cf, m3] 30)).alloc (.cells #[f0, f1, .slice Al nl cl, .slice As ns cs, f4] 40)).alloc (.cells #[.int .u8 (K : Int), .int .u8 (A : Int), .int .u8 (B : Int), .int .u8 (C : Int)] 77)).alloc (.cells #[.int .u8 0, .int .u8 0, .int .i64 0, .int .u8 0, .int .i64 0, .slice none 0 0, .slice none 0 0] 50)) (w.heap.size + 1) 40 #[f0, f1, .slice Al nl cl, .slice As ns cs, f4]) := ((Blk.new' _ 40 _ _ (by simp)).alloc _).alloc _
  have KX : Hid (Blk ((((w.alloc (.cells #[m0, .slice Ag ng cg, .slice (some ⟨bF, oF, none⟩) nf cf, m3] 30)).alloc (.cells #[f0, f1, .slice Al nl cl, .slice As ns cs, f4] 40)).alloc (.cells #[.int .u8 (K : Int), .int .u8 (A : Int), .int .u8 (B : Int), .int .u8 (C : Int)] 77)).alloc (.cells #[.int .u8 0, .int .u8 0, .int .i64 0, .int .u8 0, .int .i64 0, .slice none 0 0, .slice none 0 0] 50)) (w.heap.size + 1 + 1) 77 #[.int .u8 (K : Int), .int .u8 (A : Int), .int .u8 (B : Int), .int .u8 (C : Int)]) := (Blk.new' _ 77 _ _ (by simp)).alloc _
  have KR : Hid (Blk ((((w.alloc (.cells #[m0, .slice Ag ng cg, .slice (some ⟨bF, oF, none⟩) nf cf, m3] 30)).alloc (.cells #[f0, f1, .slice Al nl cl, .slice As ns cs, f4] 40)).alloc (.cells #[.int .u8 (K : Int), .int .u8 (A : Int), .int .u8 (B : Int), .int .u8 (C : Int)] 77)).alloc (.cells #[.int .u8 0, .int .u8 0, .int .i64 0, .int .u8 0, .int .i64 0, .slice none 0 0, .slice none 0 0] 50)) (w.heap.size + 1 + 1 + 1) 50 #[.int .u8 0, .int .u8 0, .int .i64 0, .int .u8 0, .int .i64 0, .slice none 0 0, .slice none 0 0]) := Blk.new' _ 50 _ _ (by simp)
  go_enter Try.func33, Try.ntmps33
  go_wp2_with fail
  refine (HV1.out _).mono ?_
  rintro e w1 ⟨rfl, hb1⟩
  have HB1 := Lib.hid (HB0.out.trans (hb1.mono HB0.out.size))
  have KM1 := Lib.hid (KM.out.old hb1)
  have KF1 := Lib.hid (KF.out.old hb1)
  have KX1 := Lib.hid (KX.out.old hb1)
  have KR1 := Lib.hid (KR.out.old hb1)
  have z1 : w.heap.size + 1 + 1 + 1 < w1.heap.size := KR1.out.lt
  have z2 : w.heap.size + 1 + 1 < w1.heap.size := by omega
  have z3 : w.heap.size + 1 < w1.heap.size := by omega
  have z4 : w.heap.size < w1.heap.size := by omega
  obtain ⟨m01, m11, m21, m31⟩ := KM1.out.c4
  obtain ⟨f01, f11, f21, f31, f41⟩ := KF1.out.c5
  obtain ⟨x01, x11, x21, x31⟩ := KX1.out.c4
  clear hb1
  go_wp2_with fail
  refine (HV2.out _).mono ?_
  rintro e w2 ⟨rfl, hb2⟩
  have HB2 := Lib.hid ((HB1.out.alloc HB1.out.size (.cells #[.int .u8 va1, .int .i64 va2] 46)).trans (hb2.mono (by have := HB1.out.size; simp; omega)))
  have KM2 := Lib.hid ((KM1.out.alloc (.cells #[.int .u8 va1, .int .i64 va2] 46)).old hb2)
  have KF2 := Lib.hid ((KF1.out.alloc (.cells #[.int .u8 va1, .int .i64 va2] 46)).old hb2)
  have KX2 := Lib.hid ((KX1.out.alloc (.cells #[.int .u8 va1, .int .i64 va2] 46)).old hb2)
  have KR2 := Lib.hid ((KR1.out.alloc (.cells #[.int .u8 va1, .int .i64 va2] 46)).old hb2)
  have KA2 := Lib.hid ((Blk.new w1 46 #[.int .u8 va1, .int .i64 va2]).old hb2)
  have y0 : w1.heap.size < w2.heap.size := KA2.out.lt
  have y1 : w.heap.size + 1 + 1 + 1 < w2.heap.size := by omega
  have y2 : w.heap.size + 1 + 1 < w2.heap.size := by omega
  have y3 : w.heap.size + 1 < w2.heap.size := by omega
  have y4 : w.heap.size < w2.heap.size := by omega
  clear m01 m11 m21 m31 f01 f11 f21 f31 f41 x01 x11 x21 x31 hb2
  obtain ⟨m02, m12, m22, m32⟩ := KM2.out.c4
  obtain ⟨f02, f12, f22, f32, f42⟩ := KF2.out.c5
  obtain ⟨x02, x12, x22, x32⟩ := KX2.out.c4
  obtain ⟨a02, a12⟩ := KA2.out.c2
  obtain ⟨r02, r12, r22, r32, r42, r52, r62⟩ := KR2.out.c7
  have q0 := KR2.out.frozen 0
  have q1 := KR2.out.frozen 1
  have q2 := KR2.out.frozen 2
  have q3 := KR2.out.frozen 3
  have q4 := KR2.out.frozen 4
  have q5 := KR2.out.frozen 5
  have q6 := KR2.out.frozen 6
  have hpc2 : w2.cell? ⟨bF, oF + bn * 5 + 1, none⟩ = some (.int .i64 (N : Int)) := (World.cell?_of_block (HB2.out.block bF hbF)).trans HPC.out
  have hbF2 : bF < w2.heap.size := by have := HB2.out.size; omega
  have hbF3 : bF < w2.heap.size + 1 := by omega
  have u0 : w1.heap.size < w2.heap.size + 1 := by omega
  have u1 : w.heap.size + 1 + 1 + 1 < w2.heap.size + 1 := by omega
  have u2 : w.heap.size + 1 + 1 < w2.heap.size + 1 := by omega
  have u3 : w.heap.size + 1 < w2.heap.size + 1 := by omega
  have u4 : w.heap.size < w2.heap.size + 1 := by omega
  have HL0 : Hid (ArgLoop w (w2.heap.size + 1) #[m0, .slice Ag ng cg, .slice (some ⟨bF, oF, none⟩) nf cf, m3] #[f0, f1, .slice Al nl cl, .slice As ns cs, f4] #[.int .u8 (K : Int), .int .u8 (A : Int), .int .u8 (B : Int), .int .u8 (C : Int)] #[.int .u8 0, .int .u8 0, .int .i64 0, .int .u8 0, .int .i64 0, .slice none 0 0, .slice none 0 0] va1 va2 3 (bn : Int) (.slice none 0 0) [] ((w2.alloc (.cells #[.int .u8 vb1, .int .i64 vb2] 46)).alloc (.cells #[.int .u8 5, .int .u8 va1, .int .i64 va2, .int .u8 3, .int .i64 (bn : Int), .slice none 0 0, .slice none 0 0] 50))) :=
    ⟨⟨rfl, .inl ⟨rfl, rfl⟩⟩, Blk.new' _ 50 _ _ (by simp), (KM2.out.alloc _).alloc _, (KF2.out.alloc _).alloc _, (KX2.out.alloc _).alloc _, (KR2.out.alloc _).alloc _, (HB2.out.alloc HB2.out.size _).alloc (by have := HB2.out.size; simp; omega) _, by omega⟩
  go_wp2_with fail
  clear m02 m12 m22 m32 f02 f12 f22 f32 f42 x02 x12 x22 x32 a02 a12 r02 r12 r22 r32 r42 r52 r62 q0 q1 q2 q3 q4 q5 q6 KM KF KX KR KM1 KF1 KX1 KR1 KM2 KF2 KX2 KR2 KA2 HB0 HB1 hm hm3 hk hk0
  obtain ⟨qs, hqs⟩ : ∃ qs, qs = w2.heap.size + 1 := ⟨_, rfl⟩
  rw [← hqs] at HL0
  rw [← hqs]
  have HQS := Lib.hid hqs
  clear hqs
  go_loopw [12] (fun s12 wr => ∃ (j : Nat) (Ax : Option Addr) (nx cx : Nat), j ≤ N ∧ s12 = .int .i64 (j : Int) ∧ Hid (ArgLoop w qs #[m0, .slice Ag ng cg, .slice (some ⟨bF, oF, none⟩) nf cf, m3] #[f0, f1, .slice Al nl cl, .slice As ns cs, f4] #[.int .u8 (K : Int), .int .u8 (A : Int), .int .u8 (B : Int), .int .u8 (C : Int)] #[.int .u8 0, .int .u8 0, .int .i64 0, .int .u8 0, .int .i64 0, .slice none 0 0, .slice none 0 0] va1 va2 3 (bn : Int) (.slice Ax nx cx) (argF nl ng A C j) wr)) (fun s12 _ => N - (intOf s12).toNat)
  case atStart => exact ⟨0, _, _, _, Nat.zero_le _, rfl, HL0⟩
  case round =>
    obtain ⟨j, Ax, nx, cx, hj, rfl, hL⟩ := hrel
    obtain ⟨g0, g1, g2, g3, g4, g5, g6⟩ := hL.out.bs.c7
    have hqlt := hL.out.bs.lt
    by_cases hlt : j < N
    · obtain ⟨m0', m1', m2', m3'⟩ := hL.out.bm.c4
      obtain ⟨f0', f1', f2', f3', f4'⟩ := hL.out.bf.c5
      obtain ⟨x0', x1', x2', x3'⟩ := hL.out.bx.c4
      have HX1 := hL.out.bel.size
      have e1 : IntKind.u8.wrap ((A : Int) + (C : Int)) = ((A : Int) + (C : Int)) % 256 := wrapu8 _ (by omega)
      have e2 : IntKind.u8.wrap (j : Int) = (j : Int) := by rw [wrapu8 _ (by omega)]; omega
      have e3 : IntKind.u8.wrap (((A : Int) + (C : Int)) % 256 + (j : Int)) = (((A + C + j) % 256 : Nat) : Int) := by rw [wrapu8 _ (by omega)]; omega
      have HArg := Lib.hid (argF_succ nl ng A C j)
      have HV := HVj.out j wr.drew
      generalize varF nl ng ((A + C + j) % 256) = vj at *
      obtain ⟨vj1, vj2⟩ := vj
      have H40 : Hid (Calls Try.prog 58 #[.agg #[m0, .slice Ag ng cg, .slice (some ⟨bF, oF, none⟩) nf cf, m3], .agg #[f0, f1, .slice Al nl cl, .slice As ns cs, f4], .int .u8 (((A + C + j) % 256 : Nat) : Int)] wr.drew fun e w3 => e = .returned (.agg #[.int .u8 vj1, .int .i64 vj2]) ∧ _) :=
        HV.mono (fun e w3 ⟨he, hb3⟩ => ⟨he, hL.out.step (by rw [argF_len]; omega) vj1 vj2 w3 ((Below.refl _ wr).drew.trans hb3)⟩)
      clear HV
      generalize (A + C + j) % 256 = nj at *
      go_upto_region 30 with (fail)
      refine wp_region_held_drew (S := (fun W => Blk W w.heap.size 30 #[m0, .slice Ag ng cg, .slice (some ⟨bF, oF, none⟩) nf cf, m3] ∧ Blk W (w.heap.size + 1) 40 #[f0, f1, .slice Al nl cl, .slice As ns cs, f4] ∧ Blk W (w.heap.size + 1 + 1) 77 #[.int .u8 (K : Int), .int .u8 (A : Int), .int .u8 (B : Int), .int .u8 (C : Int)])) (by kernel_rfl) ⟨hL.out.bm.drew, hL.out.bf.drew, hL.out.bx.drew⟩ (fun hHeld => ?_)
      refine wpAnyH_take (i := 0) (oi := ⟨_, _, _, _, _, _⟩) (v := ?_) rfl (by kernel_rfl) (by kernel_rfl) (by kernel_rfl) (fun _ _ _ h => h) (Or.inl ⟨by rfl, ?_⟩) (by assumption) ?_
      rotate_left
      · (intro W hSW; (try dsimp only at hSW); obtain ⟨s1, s2, s3⟩ := hSW; obtain ⟨p0, p1, p2, p3⟩ := s1.c4; obtain ⟨p4, p5, p6, p7, p8⟩ := s2.c5; obtain ⟨p9, p10, p11, p12⟩ := s3.c4; go_simp; first | done | with_reducible rfl)
      try simp only [Act.put, List.setIfInBounds_toArray, List.set_cons_zero, List.set_cons_succ]
      refine wpAnyH_take (i := 2) (oi := ⟨_, _, _, _, _, _⟩) (v := ?_) rfl (by kernel_rfl) (by kernel_rfl) (by kernel_rfl) (fun _ _ _ h => h) (Or.inl ⟨by rfl, ?_⟩) (by assumption) ?_
      rotate_left
      · (intro W hSW; (try dsimp only at hSW); obtain ⟨s1, s2, s3⟩ := hSW; obtain ⟨p0, p1, p2, p3⟩ := s1.c4; obtain ⟨p4, p5, p6, p7, p8⟩ := s2.c5; obtain ⟨p9, p10, p11, p12⟩ := s3.c4; go_simp; first | done | with_reducible rfl)
      try simp only [Act.put, List.setIfInBounds_toArray, List.set_cons_zero, List.set_cons_succ]
      refine wpAnyH_take (i := 3) (oi := ⟨_, _, _, _, _, _⟩) (v := ?_) rfl (by kernel_rfl) (by kernel_rfl) (by kernel_rfl) (fun _ _ _ h => h) (Or.inl ⟨by rfl, ?_⟩) (by assumption) ?_
      rotate_left
      · (intro W hSW; (try dsimp only at hSW); obtain ⟨s1, s2, s3⟩ := hSW; obtain ⟨p0, p1, p2, p3⟩ := s1.c4; obtain ⟨p4, p5, p6, p7, p8⟩ := s2.c5; obtain ⟨p9, p10, p11, p12⟩ := s3.c4; go_simp; first | done | with_reducible rfl)
      try simp only [Act.put, List.setIfInBounds_toArray, List.set_cons_zero, List.set_cons_succ]
      refine wpAnyH_take (i := 4) (oi := ⟨_, _, _, _, _, _⟩) (v := ?_) rfl (by kernel_rfl) (by kernel_rfl) (by kernel_rfl) (fun _ _ _ h => h) (Or.inl ⟨by rfl, ?_⟩) (by assumption) ?_
      rotate_left
      · (intro W hSW; (try dsimp only at hSW); obtain ⟨s1, s2, s3⟩ := hSW; obtain ⟨p0, p1, p2, p3⟩ := s1.c4; obtain ⟨p4, p5, p6, p7, p8⟩ := s2.c5; obtain ⟨p9, p10, p11, p12⟩ := s3.c4; go_simp; first | done | with_reducible rfl)
      try simp only [Act.put, List.setIfInBounds_toArray, List.set_cons_zero, List.set_cons_succ]
      refine wpAnyH_take (i := 5) (oi := ⟨_, _, _, _, _, _⟩) (v := ?_) rfl (by kernel_rfl) (by kernel_rfl) (by kernel_rfl) (fun _ _ _ h => h) (Or.inl ⟨by rfl, ?_⟩) (by assumption) ?_
      rotate_left
      · (intro W hSW; (try dsimp only at hSW); obtain ⟨s1, s2, s3⟩ := hSW; obtain ⟨p0, p1, p2, p3⟩ := s1.c4; obtain ⟨p4, p5, p6, p7, p8⟩ := s2.c5; obtain ⟨p9, p10, p11, p12⟩ := s3.c4; go_simp; first | done | with_reducible rfl)
      try simp only [Act.put, List.setIfInBounds_toArray, List.set_cons_zero, List.set_cons_succ]
      refine wpAnyH_take (i := 6) (oi := ⟨_, _, _, _, _, _⟩) (v := ?_) rfl (by kernel_rfl) (by kernel_rfl) (by kernel_rfl) (fun _ _ _ h => h) (Or.inl ⟨by rfl, ?_⟩) (by assumption) ?_
      rotate_left
      · (intro W hSW; (try dsimp only at hSW); obtain ⟨s1, s2, s3⟩ := hSW; obtain ⟨p0, p1, p2, p3⟩ := s1.c4; obtain ⟨p4, p5, p6, p7, p8⟩ := s2.c5; obtain ⟨p9, p10, p11, p12⟩ := s3.c4; go_simp; first | done | with_reducible rfl)
      try simp only [Act.put, List.setIfInBounds_toArray, List.set_cons_zero, List.set_cons_succ]
      refine wpAnyH_take (i := 7) (oi := ⟨_, _, _, _, _, _⟩) (v := ?_) rfl (by kernel_rfl) (by kernel_rfl) (by kernel_rfl) (fun _ _ _ h => h) (Or.inl ⟨by rfl, ?_⟩) (by assumption) ?_
      rotate_left
      · (intro W hSW; (try dsimp only at hSW); obtain ⟨s1, s2, s3⟩ := hSW; obtain ⟨p0, p1, p2, p3⟩ := s1.c4; obtain ⟨p4, p5, p6, p7, p8⟩ := s2.c5; obtain ⟨p9, p10, p11, p12⟩ := s3.c4; go_simp; first | done | with_reducible rfl)
      try simp only [Act.put, List.setIfInBounds_toArray, List.set_cons_zero, List.set_cons_succ]
      refine wpAnyH_take (i := 8) (oi := ⟨_, _, _, _, _, _⟩) (v := ?_) rfl (by kernel_rfl) (by kernel_rfl) (by kernel_rfl) (fun _ _ _ h => h) (Or.inl ⟨by rfl, ?_⟩) (by assumption) ?_
      rotate_left
      · (intro W hSW; (try dsimp only at hSW); obtain ⟨s1, s2, s3⟩ := hSW; obtain ⟨p0, p1, p2, p3⟩ := s1.c4; obtain ⟨p4, p5, p6, p7, p8⟩ := s2.c5; obtain ⟨p9, p10, p11, p12⟩ := s3.c4; go_simp; first | done | with_reducible rfl)
      try simp only [Act.put, List.setIfInBounds_toArray, List.set_cons_zero, List.set_cons_succ]
      refine wpAnyH_take (i := 9) (oi := ⟨_, _, _, _, _, _⟩) (v := ?_) rfl (by kernel_rfl) (by kernel_rfl) (by kernel_rfl) (fun _ _ _ h => h) (Or.inl ⟨by rfl, ?_⟩) (by assumption) ?_
      rotate_left
      · (intro W hSW; (try dsimp only at hSW); obtain ⟨s1, s2, s3⟩ := hSW; obtain ⟨p0, p1, p2, p3⟩ := s1.c4; obtain ⟨p4, p5, p6, p7, p8⟩ := s2.c5; obtain ⟨p9, p10, p11, p12⟩ := s3.c4; go_simp; first | done | with_reducible rfl)
      try simp only [Act.put, List.setIfInBounds_toArray, List.set_cons_zero, List.set_cons_succ]
      refine wpAnyH_take (i := 10) (oi := ⟨_, _, _, _, _, _⟩) (v := ?_) rfl (by kernel_rfl) (by kernel_rfl) (by kernel_rfl) (fun _ _ _ h => h) (Or.inl ⟨by rfl, ?_⟩) (by assumption) ?_
      rotate_left
      · (intro W hSW; (try dsimp only at hSW); obtain ⟨s1, s2, s3⟩ := hSW; obtain ⟨p0, p1, p2, p3⟩ := s1.c4; obtain ⟨p4, p5, p6, p7, p8⟩ := s2.c5; obtain ⟨p9, p10, p11, p12⟩ := s3.c4; go_simp; first | done | with_reducible rfl)
      try simp only [Act.put, List.setIfInBounds_toArray, List.set_cons_zero, List.set_cons_succ]
      refine wpAnyH_take (i := 11) (oi := ⟨_, _, _, _, _, _⟩) (v := ?_) rfl (by kernel_rfl) (by kernel_rfl) (by kernel_rfl) (fun _ _ _ h => h) (Or.inl ⟨by rfl, ?_⟩) (by assumption) ?_
      rotate_left
      · (intro W hSW; (try dsimp only at hSW); obtain ⟨s1, s2, s3⟩ := hSW; obtain ⟨p0, p1, p2, p3⟩ := s1.c4; obtain ⟨p4, p5, p6, p7, p8⟩ := s2.c5; obtain ⟨p9, p10, p11, p12⟩ := s3.c4; go_simp; first | done | with_reducible rfl)
      try simp only [Act.put, List.setIfInBounds_toArray, List.set_cons_zero, List.set_cons_succ]
      refine wpAnyH_ready (rs := [1, 12]) (by kernel_rfl) (by simp) ?_
      refine AllReadyH.cons (o := ⟨_, _, _, _, _, _⟩) rfl (fun KQ hKQ => ?_) (AllReadyH.cons (o := ⟨_, _, _, _, _, _⟩) rfl (fun KQ hKQ => ?_) AllReadyH.nil)
      · go_simp
        refine hKQ.out _ _ hHeld (fun _ => ?_)
        clear hKQ KQ
        try simp only [Act.put, List.setIfInBounds_toArray, List.set_cons_zero, List.set_cons_succ]
        refine wpAnyH_ready (rs := [12]) (by kernel_rfl) (by simp) ?_
        refine AllReadyH.cons (o := ⟨_, _, _, _, _, _⟩) rfl (fun KQ hKQ => ?_) AllReadyH.nil
        go_simp
        refine H40.out.mono ?_
        rintro e w3 ⟨rfl, A5, n5, c5, w5, hr5, k3, kz, k5, kf, HS3, HS5, HL5⟩
        have hS3 := (show (fun W => Blk W w.heap.size 30 #[m0, .slice Ag ng cg, .slice (some ⟨bF, oF, none⟩) nf cf, m3] ∧ Blk W (w.heap.size + 1) 40 #[f0, f1, .slice Al nl cl, .slice As ns cs, f4] ∧ Blk W (w.heap.size + 1 + 1) 77 #[.int .u8 (K : Int), .int .u8 (A : Int), .int .u8 (B : Int), .int .u8 (C : Int)]) w3 from HS3.out)
        refine hKQ.out _ _ hS3 (fun _ => ?_)
        clear hKQ KQ
        try simp only [Act.put, List.setIfInBounds_toArray, List.set_cons_zero, List.set_cons_succ]
        refine wpAnyH_ready (rs := [13]) (by kernel_rfl) (by simp) ?_
        refine AllReadyH.cons (o := ⟨_, _, _, _, _, _⟩) rfl (fun KQ hKQ => ?_) AllReadyH.nil
        go_simp
        have hS4 := (show (fun W => Blk W w.heap.size 30 #[m0, .slice Ag ng cg, .slice (some ⟨bF, oF, none⟩) nf cf, m3] ∧ Blk W (w.heap.size + 1) 40 #[f0, f1, .slice Al nl cl, .slice As ns cs, f4] ∧ Blk W (w.heap.size + 1 + 1) 77 #[.int .u8 (K : Int), .int .u8 (A : Int), .int .u8 (B : Int), .int .u8 (C : Int)]) (w3.alloc (.cells #[.int .u8 vj1, .int .i64 vj2] 46)) from ⟨HS3.out.1.alloc _, HS3.out.2.1.alloc _, HS3.out.2.2.alloc _⟩)
        refine hKQ.out _ _ hS4 (fun _ => ?_)
        clear hKQ KQ
        try simp only [Act.put, List.setIfInBounds_toArray, List.set_cons_zero, List.set_cons_succ]
        refine wpAnyH_ready (rs := [14]) (by kernel_rfl) (by simp) ?_
        refine AllReadyH.cons (o := ⟨_, _, _, _, _, _⟩) rfl (fun KQ hKQ => ?_) AllReadyH.nil
        refine step_append_run _ (by rfl) _ _ _ (by rfl) _ _ (by rfl) (by rfl) _ _ hr5 ?_
        have hS5 := (show (fun W => Blk W w.heap.size 30 #[m0, .slice Ag ng cg, .slice (some ⟨bF, oF, none⟩) nf cf, m3] ∧ Blk W (w.heap.size + 1) 40 #[f0, f1, .slice Al nl cl, .slice As ns cs, f4] ∧ Blk W (w.heap.size + 1 + 1) 77 #[.int .u8 (K : Int), .int .u8 (A : Int), .int .u8 (B : Int), .int .u8 (C : Int)]) w5 from HS5.out)
        refine hKQ.out _ _ hS5 (fun _ => ?_)
        clear hKQ KQ
        try simp only [Act.put, List.setIfInBounds_toArray, List.set_cons_zero, List.set_cons_succ]
        refine wpAnyH_take (i := 15) (oi := ⟨_, _, _, _, _, _⟩) (v := ?_) rfl (by kernel_rfl) (by kernel_rfl) (by kernel_rfl) (fun _ _ _ h => h) (Or.inl ⟨by rfl, ?_⟩) (by assumption) ?_
        rotate_left
        · (intro W hSW; (try dsimp only at hSW); go_simp; first | done | with_reducible rfl)
        try simp only [Act.put, List.setIfInBounds_toArray, List.set_cons_zero, List.set_cons_succ]
        refine wpAnyH_ready (rs := [16]) (by kernel_rfl) (by simp) ?_
        refine AllReadyH.cons (o := ⟨_, _, _, _, _, _⟩) rfl (fun KQ hKQ => ?_) AllReadyH.nil
        go_simp
        refine hKQ.out _ _ (⟨HL5.out.bm, HL5.out.bf, HL5.out.bx⟩) (fun _ => ?_)
        clear hKQ KQ
        try simp only [Act.put, List.setIfInBounds_toArray, List.set_cons_zero, List.set_cons_succ]
        refine wpAnyH_done (by kernel_rfl) ?_ _
        clear hHeld hS3 hS4 hS5 g0 g1 g2 g3 g4 g5 g6 m0' m1' m2' m3' f0' f1' f2' f3' f4' x0' x1' x2' x3'
        go_wp2
        go_roundw
        case rel => exact ⟨j + 1, _, _, _, by omega, by go_num, by rw [HArg.out]; exact HL5⟩
        case measure => simp [intOf]; omega
      · go_simp
        refine H40.out.mono ?_
        rintro e w3 ⟨rfl, A5, n5, c5, w5, hr5, k3, kz, k5, kf, HS3, HS5, HL5⟩
        have hS3 := (show (fun W => Blk W w.heap.size 30 #[m0, .slice Ag ng cg, .slice (some ⟨bF, oF, none⟩) nf cf, m3] ∧ Blk W (w.heap.size + 1) 40 #[f0, f1, .slice Al nl cl, .slice As ns cs, f4] ∧ Blk W (w.heap.size + 1 + 1) 77 #[.int .u8 (K : Int), .int .u8 (A : Int), .int .u8 (B : Int), .int .u8 (C : Int)]) w3 from HS3.out)
        refine hKQ.out _ _ hS3 (fun _ => ?_)
        clear hKQ KQ
        try simp only [Act.put, List.setIfInBounds_toArray, List.set_cons_zero, List.set_cons_succ]
        refine wpAnyH_ready (rs := [1, 13]) (by kernel_rfl) (by simp) ?_
        refine AllReadyH.cons (o := ⟨_, _, _, _, _, _⟩) rfl (fun KQ hKQ => ?_) (AllReadyH.cons (o := ⟨_, _, _, _, _, _⟩) rfl (fun KQ hKQ => ?_) AllReadyH.nil)
        · go_simp
          refine hKQ.out _ _ hS3 (fun _ => ?_)
          clear hKQ KQ
          try simp only [Act.put, List.setIfInBounds_toArray, List.set_cons_zero, List.set_cons_succ]
          refine wpAnyH_ready (rs := [13]) (by kernel_rfl) (by simp) ?_
          refine AllReadyH.cons (o := ⟨_, _, _, _, _, _⟩) rfl (fun KQ hKQ => ?_) AllReadyH.nil
          go_simp
          have hS4 := (show (fun W => Blk W w.heap.size 30 #[m0, .slice Ag ng cg, .slice (some ⟨bF, oF, none⟩) nf cf, m3] ∧ Blk W (w.heap.size + 1) 40 #[f0, f1, .slice Al nl cl, .slice As ns cs, f4] ∧ Blk W (w.heap.size + 1 + 1) 77 #[.int .u8 (K : Int), .int .u8 (A : Int), .int .u8 (B : Int), .int .u8 (C : Int)]) (w3.alloc (.cells #[.int .u8 vj1, .int .i64 vj2] 46)) from ⟨HS3.out.1.alloc _, HS3.out.2.1.alloc _, HS3.out.2.2.alloc _⟩)
          refine hKQ.out _ _ hS4 (fun _ => ?_)
          clear hKQ KQ
          try simp only [Act.put, List.setIfInBounds_toArray, List.set_cons_zero, List.set_cons_succ]
          refine wpAnyH_ready (rs := [14]) (by kernel_rfl) (by simp) ?_
          refine AllReadyH.cons (o := ⟨_, _, _, _, _, _⟩) rfl (fun KQ hKQ => ?_) AllReadyH.nil
          refine step_append_run _ (by rfl) _ _ _ (by rfl) _ _ (by rfl) (by rfl) _ _ hr5 ?_
          have hS5 := (show (fun W => Blk W w.heap.size 30 #[m0, .slice Ag ng cg, .slice (some ⟨bF, oF, none⟩) nf cf, m3] ∧ Blk W (w.heap.size + 1) 40 #[f0, f1, .slice Al nl cl, .slice As ns cs, f4] ∧ Blk W (w.heap.size + 1 + 1) 77 #[.int .u8 (K : Int), .int .u8 (A : Int), .int .u8 (B : Int), .int .u8 (C : Int)]) w5 from HS5.out)
          refine hKQ.out _ _ hS5 (fun _ => ?_)
          clear hKQ KQ
          try simp only [Act.put, List.setIfInBounds_toArray, List.set_cons_zero, List.set_cons_succ]
          refine wpAnyH_take (i := 15) (oi := ⟨_, _, _, _, _, _⟩) (v := ?_) rfl (by kernel_rfl) (by kernel_rfl) (by kernel_rfl) (fun _ _ _ h => h) (Or.inl ⟨by rfl, ?_⟩) (by assumption) ?_
          rotate_left
          · (intro W hSW; (try dsimp only at hSW); go_simp; first | done | with_reducible rfl)
          try simp only [Act.put, List.setIfInBounds_toArray, List.set_cons_zero, List.set_cons_succ]
          refine wpAnyH_ready (rs := [16]) (by kernel_rfl) (by simp) ?_
          refine AllReadyH.cons (o := ⟨_, _, _, _, _, _⟩) rfl (fun KQ hKQ => ?_) AllReadyH.nil
          go_simp
          refine hKQ.out _ _ (⟨HL5.out.bm, HL5.out.bf, HL5.out.bx⟩) (fun _ => ?_)
          clear hKQ KQ
          try simp only [Act.put, List.setIfInBounds_toArray, List.set_cons_zero, List.set_cons_succ]
          refine wpAnyH_done (by kernel_rfl) ?_ _
          clear hHeld hS3 hS4 hS5 g0 g1 g2 g3 g4 g5 g6 m0' m1' m2' m3' f0' f1' f2' f3' f4' x0' x1' x2' x3'
          go_wp2
          go_roundw
          case rel => exact ⟨j + 1, _, _, _, by omega, by go_num, by rw [HArg.out]; exact HL5⟩
          case measure => simp [intOf]; omega
        · go_simp
          have hS4 := (show (fun W => Blk W w.heap.size 30 #[m0, .slice Ag ng cg, .slice (some ⟨bF, oF, none⟩) nf cf, m3] ∧ Blk W (w.heap.size + 1) 40 #[f0, f1, .slice Al nl cl, .slice As ns cs, f4] ∧ Blk W (w.heap.size + 1 + 1) 77 #[.int .u8 (K : Int), .int .u8 (A : Int), .int .u8 (B : Int), .int .u8 (C : Int)]) (w3.alloc (.cells #[.int .u8 vj1, .int .i64 vj2] 46)) from ⟨HS3.out.1.alloc _, HS3.out.2.1.alloc _, HS3.out.2.2.alloc _⟩)
          refine hKQ.out _ _ hS4 (fun _ => ?_)
          clear hKQ KQ
          try simp only [Act.put, List.setIfInBounds_toArray, List.set_cons_zero, List.set_cons_succ]
          refine wpAnyH_ready (rs := [1]) (by kernel_rfl) (by simp) ?_
          refine AllReadyH.cons (o := ⟨_, _, _, _, _, _⟩) rfl (fun KQ hKQ => ?_) AllReadyH.nil
          go_simp
          refine hKQ.out _ _ hS4 (fun _ => ?_)
          clear hKQ KQ
          try simp only [Act.put, List.setIfInBounds_toArray, List.set_cons_zero, List.set_cons_succ]
          refine wpAnyH_ready (rs := [14]) (by kernel_rfl) (by simp) ?_
          refine AllReadyH.cons (o := ⟨_, _, _, _, _, _⟩) rfl (fun KQ hKQ => ?_) AllReadyH.nil
          refine step_append_run _ (by rfl) _ _ _ (by rfl) _ _ (by rfl) (by rfl) _ _ hr5 ?_
          have hS5 := (show (fun W => Blk W w.heap.size 30 #[m0, .slice Ag ng cg, .slice (some ⟨bF, oF, none⟩) nf cf, m3] ∧ Blk W (w.heap.size + 1) 40 #[f0, f1, .slice Al nl cl, .slice As ns cs, f4] ∧ Blk W (w.heap.size + 1 + 1) 77 #[.int .u8 (K : Int), .int .u8 (A : Int), .int .u8 (B : Int), .int .u8 (C : Int)]) w5 from HS5.out)
          refine hKQ.out _ _ hS5 (fun _ => ?_)
          clear hKQ KQ
          try simp only [Act.put, List.setIfInBounds_toArray, List.set_cons_zero, List.set_cons_succ]
          refine wpAnyH_take (i := 15) (oi := ⟨_, _, _, _, _, _⟩) (v := ?_) rfl (by kernel_rfl) (by kernel_rfl) (by kernel_rfl) (fun _ _ _ h => h) (Or.inl ⟨by rfl, ?_⟩) (by assumption) ?_
          rotate_left
          · (intro W hSW; (try dsimp only at hSW); go_simp; first | done | with_reducible rfl)
          try simp only [Act.put, List.setIfInBounds_toArray, List.set_cons_zero, List.set_cons_succ]
          refine wpAnyH_ready (rs := [16]) (by kernel_rfl) (by simp) ?_
          refine AllReadyH.cons (o := ⟨_, _, _, _, _, _⟩) rfl (fun KQ hKQ => ?_) AllReadyH.nil
          go_simp
          refine hKQ.out _ _ (⟨HL5.out.bm, HL5.out.bf, HL5.out.bx⟩) (fun _ => ?_)
          clear hKQ KQ
          try simp only [Act.put, List.setIfInBounds_toArray, List.set_cons_zero, List.set_cons_succ]
          refine wpAnyH_done (by kernel_rfl) ?_ _
          clear hHeld hS3 hS4 hS5 g0 g1 g2 g3 g4 g5 g6 m0' m1' m2' m3' f0' f1' f2' f3' f4' x0' x1' x2' x3'
          go_wp2
          go_roundw
          case rel => exact ⟨j + 1, _, _, _, by omega, by go_num, by rw [HArg.out]; exact HL5⟩
          case measure => simp [intOf]; omega
    · obtain rfl : j = N := by omega
      obtain ⟨r0, r1, r2, r3, r4, r5, r6⟩ := hL.out.br.c7
      have p0 := hL.out.br.frozen 0
      have p1 := hL.out.br.frozen 1
      have p2 := hL.out.br.frozen 2
      have p3 := hL.out.br.frozen 3
      have p4 := hL.out.br.frozen 4
      have p5 := hL.out.br.frozen 5
      have p6 := hL.out.br.frozen 6
      have hq3 : w.heap.size + 1 + 1 + 1 < qs := hL.out.qs
      go_wp2
      refine bodyPost_ret (v := .agg #[.int .u8 5, .int .u8 va1, .int .i64 va2, .int .u8 3, .int .i64 (bn : Int), .slice Ax nx cx, .slice none 0 0]) (by simp [results, Try.results33, go_sem, r0, r1, r2, r3, r4, r5, r6]) rfl ?_
      rw [HS.out]
      refine ⟨.slice Ax nx cx, none, 0, rfl, own_args (argF_len ..) (own_blocks (by have := hL.out.own; rwa [argF_len] at this) (fun k hk => ?_)), noBody _ _ _, set7 hL.out.bel (by omega) _ _ _ _ _ _ _⟩
      exact set7_far _ _ _ _ _ _ _ (fun e => own_ne hL.out.own hL.out.br (by decide) (by rw [← e]; exact hk))
end Go.Proofs.Ytpdebnecfknohaa
