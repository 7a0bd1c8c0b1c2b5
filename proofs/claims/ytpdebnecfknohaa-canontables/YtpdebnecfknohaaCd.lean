
/-
  One round of copyBody's inner loop, plainly.
-/
import Derived.Test.YtpdebnecfknohaaCb
namespace Go.Proofs.Ytpdebnecfknohaa
open Go.RowKit
set_option linter.unusedVariables false
set_option maxRecDepth 20000

theorem BdS.drop {S : Nat → Prop} {w : World} : ∀ (t : Bd) (b o i : Nat), BdS S w b o t → BdS S w b (o + i * 7) (t.drop i)
  | t, b, o, 0, h => by simpa [Bd.drop] using h
  | .nil, b, o, i + 1, h => by simp [Bd.drop, BdS]
  | .cons _ _ _ _ _ _ _ rest, b, o, i + 1, h => by
    have := BdS.drop rest b (o + 7) i h.2.2.2.2
    rw [show o + (i + 1) * 7 = o + 7 + i * 7 from by omega]
    exact this
theorem loose_step {base : Nat} {wr W' : World} {A Ap : Option Addr} {c cp : Nat} {t tp : Bd} {dn : Nat → Nat} {qp i : Nat} {S S' : Nat → Prop} (hAp : Ap = some ⟨qp, 0, none⟩) (hi : i < tp.len)
    (hd : (dn = id ∧ (⟨Ap, cp, tp⟩ : Ln) = ⟨A, c, t⟩) ∨ ((∀ i, dn i = t.len) ∧ (0 < tp.len → 0 < t.len → Ap ≠ A))) (h : ∀ q, A = some ⟨q, 0, none⟩ → ∀ k, k < dn i → LooseAt base wr q k) (hs : SwapS S S' wr W' qp (i * 7)) (hst : Stay wr W') (hn : LooseAt base W' qp i) :
    ∀ q, A = some ⟨q, 0, none⟩ → ∀ k, k < dn (i + 1) → LooseAt base W' q k := by
  intro q hA k hk
  rcases hd with ⟨rfl, he⟩ | ⟨h1, h2⟩
  · have e1 : Ap = A := congrArg Ln.A he
    have e2 : q = qp := by
      rw [hAp, hA] at e1
      injection e1 with e1
      injection e1 with e1
      exact e1.symm
    subst e2
    simp only [id_eq] at hk
    by_cases hki : k = i
    · subst hki; exact hn
    · exact (h q hA k (by simp only [id_eq]; omega)).swap hs hst (by omega) (by omega)
  · rw [h1] at hk
    have hne : q ≠ qp := fun e => by
      subst e
      exact h2 (by omega) (by omega) (hAp.trans hA.symm)
    exact (h q hA k (by rw [h1]; exact hk)).swap hs hst (fun e => hne e.1) (fun e => hne e.1)

/-- What one round leaves. -/
structure Round (S0 : Nat → Prop) (base : Nat) (wr W' : World) (qp i : Nat) (A4 : Option Addr) (c4 : Nat) (sub : Bd) : Prop where
  swap : SwapS (NR S0 base wr) (NR S0 base W') wr W' qp (i * 7)
  stay : Stay wr W'
  loose : LooseAt base W' qp i
  sub : ∀ (Ap : Option Addr) (cp : Nat) (tp : Bd) (k a1 a2 b1 b2 : Int) (xs : List (Int × Int)) (rest : Bd), Ap = some ⟨qp, 0, none⟩ → i < tp.len → tp.drop i = .cons k a1 a2 b1 b2 xs sub rest → OKl S0 base wr ⟨Ap, cp, tp⟩ → OKl S0 base W' ⟨A4, c4, sub⟩
  bel : ∀ w : World, base = w.heap.size → Below w.heap.size w wr → Below w.heap.size w W'
  own : ∀ (v : Value) (n : Nat) (xs : List Value), wr.ownsRow base 38 1 v n xs → W'.ownsRow base 38 1 v n xs

theorem round_all {S0 : Nat → Prop} {base Bo i qp : Nat} {wr w5 w3 : World} {k a1 a2 b1 b2 : Int} {Aa As A1 A4 : Option Addr} {ca cs c1 c4 lx lsb : Nat} {xs : List (Int × Int)} {sub : Bd} {csp : Array Value} {csb : List Value} {S : Nat → Prop} (hbase : base ≤ qp)
    (hb5 : Below wr.heap.size wr w5) (hb3 : Below wr.heap.size wr w3) (hBp : Blk wr qp 50 csp)
    (hx : wr.cell? ⟨qp, i * 7, none⟩ = some (.int .u8 k) ∧ wr.cell? ⟨qp, i * 7 + 1, none⟩ = some (.int .u8 a1) ∧ wr.cell? ⟨qp, i * 7 + 2, none⟩ = some (.int .i64 a2) ∧ wr.cell? ⟨qp, i * 7 + 3, none⟩ = some (.int .u8 b1) ∧ wr.cell? ⟨qp, i * 7 + 4, none⟩ = some (.int .i64 b2) ∧ wr.cell? ⟨qp, i * 7 + 5, none⟩ = some (.slice Aa xs.length ca) ∧ wr.cell? ⟨qp, i * 7 + 6, none⟩ = some (.slice As sub.len cs))
    (ha : ArgsAt wr (.slice Aa xs.length ca) xs) (hS : BodyV wr As sub) (hlx : lx = xs.length) (hls : lsb = sub.len)
    (hBo : wr.heap.size ≤ Bo) (hO1 : w5.ownsRow Bo 46 2 (.slice A1 lx c1) lx (refV xs)) (hO4 : w5.ownsRow Bo 50 7 (.slice A4 lsb c4) lsb csb)
    (hcs : CellsB S w3 csb sub) (hcc : ∀ a, As = some a → ∀ j u, csb[j]? = some u → w3.cell? (a.add j) = some u) :
    Round S0 base wr (put7 w5 qp (i * 7) (.int .u8 k) (.int .u8 a1) (.int .i64 a2) (.int .u8 b1) (.int .i64 b2) (.slice A1 lx c1) (.slice A4 lsb c4)) qp i A4 c4 sub := by
  obtain ⟨x0, x1, x2, x3, x4, x5, x6⟩ := hx
  have hqp : qp < wr.heap.size := hBp.lt
  have hB5 := hBp.old hb5
  have hsz : i * 7 + 7 ≤ csp.size := by
    have h1 := hBp.cell (i * 7 + 6)
    rw [x6] at h1
    rcases Nat.lt_or_ge (i * 7 + 6) csp.size with h | h
    · omega
    · rw [Array.getElem?_eq_none h] at h1; cases h1
  obtain ⟨g0, g1, g2, g3, g4, g5, g6⟩ := put7_at (v0 := .int .u8 k) (v1 := .int .u8 a1) (v2 := .int .i64 a2) (v3 := .int .u8 b1) (v4 := .int .i64 b2) (v5 := .slice A1 lx c1) (v6 := .slice A4 lsb c4) hB5 hsz
  have hst5 := @put7_stay w5 qp (i * 7) (.int .u8 k) (.int .u8 a1) (.int .i64 a2) (.int .u8 b1) (.int .i64 b2) (.slice A1 lx c1) (.slice A4 lsb c4)
  have hfar := @put7_far w5 qp (i * 7) (.int .u8 k) (.int .u8 a1) (.int .i64 a2) (.int .u8 b1) (.int .i64 b2) (.slice A1 lx c1) (.slice A4 lsb c4)
  have hsame := @put7_same w5 qp (i * 7) (.int .u8 k) (.int .u8 a1) (.int .i64 a2) (.int .u8 b1) (.int .i64 b2) (.slice A1 lx c1) (.slice A4 lsb c4)
  have hheap := @put7_heap w5 qp (i * 7) (.int .u8 k) (.int .u8 a1) (.int .i64 a2) (.int .u8 b1) (.int .i64 b2) (.slice A1 lx c1) (.slice A4 lsb c4)
  have hbel := fun (B : Nat) (a : World) => @put7_below w5 qp (i * 7) (.int .u8 k) (.int .u8 a1) (.int .i64 a2) (.int .u8 b1) (.int .i64 b2) (.slice A1 lx c1) (.slice A4 lsb c4) B a
  generalize put7 w5 qp (i * 7) (.int .u8 k) (.int .u8 a1) (.int .i64 a2) (.int .u8 b1) (.int .i64 b2) (.slice A1 lx c1) (.slice A4 lsb c4) = W' at *
  have hst : Stay wr W' := (Stay.old hb5).trans hst5
  have hnr : ∀ T k, T ≠ 38 → base ≤ k → (∃ cur, Blk w5 k T cur) → NR S0 base W' k := fun T k hT hbk ⟨cur, h⟩ => by
    obtain ⟨cs', h'⟩ := hst5 k T cur h
    exact .inr ⟨hbk, T, cs', h', hT⟩
  subst hlx hls
  have hcc' : ∀ a, As = some a → ∀ j u, csb[j]? = some u → wr.cell? (a.add j) = some u := fun a hA j u hj => by
    have hl := CellsB.len sub csb hcs
    have hjl : j < csb.length := by
      rcases Nat.lt_or_ge j csb.length with h | h
      · exact h
      · rw [List.getElem?_eq_none h] at hj; cases hj
    obtain ⟨b, o, hA', hb⟩ := hS (by omega)
    rw [hA] at hA'
    injection hA' with hA'
    subst hA'
    have hlt : b < wr.heap.size := by
      cases sub with
      | nil => have h0 : Bd.nil.len = 0 := rfl; omega
      | cons => exact World.block_lt_of_cell? wr ⟨b, o, none⟩ hb.1.1
    have := hcc _ hA j u hj
    rw [Go.WideShapes.add_plain] at this ⊢
    exact (World.cell?_of_block (hb3.block b hlt)).symm.trans this
  have hA : ArgsS (fun k => k ≠ qp ∧ NR S0 base W' k) w5 (.slice A1 xs.length c1) xs := by
    obtain ⟨A, c, hv, f⟩ := own_argsF rfl hO1
    refine ⟨A, c, hv, fun hp => ?_⟩
    obtain ⟨b, o, hA, hb, hc⟩ := f hp
    refine ⟨b, o, hA, ⟨by omega, hnr 46 b (by decide) (by omega) (own_blk hO1 b ?_).2⟩, hc⟩
    injection hv with hv1
    rw [hv1, hA]
    rfl
  have hsw := SwapS.of hb5 (NR.stay (S0 := S0) (base := base) hst) x0 x1 x2 x3 x4 x5 x6 hfar hsame g0 g1 g2 g3 g4 g5 g6 ha hA hO4 (by omega) (fun k hk => hnr 50 k (by decide) (by have := (own_blk hO4 k hk).1; omega) (own_blk hO4 k hk).2) (CellsB.len sub csb hcs) hcc'
  refine ⟨hsw, hst, loose_new (Bo := Bo) (by omega) (by omega) (fun k hk => hheap hk) g0 g5 g6 hO1 hO4 rfl rfl hcs, fun Ap cp tp k a1 a2 b1 b2 xs rest hAp hi hd hOK => ?_, fun w hw hb => ?_, fun v n xs h => ?_⟩
  · have h' := hOK.swap hsw hst
    refine ⟨fun hp => ?_, fun hp => ?_, by have := Bd.sub_wide tp i hd; have := hOK.2.2; simp only at this ⊢; omega⟩
    · obtain ⟨q, cap, hv, hb, _⟩ := own_formM hO4 hp
      obtain ⟨_, cur, hB⟩ := own_blk hO4 q (by rw [hv]; rfl)
      obtain ⟨cs', hB'⟩ := hst5 q 50 cur hB
      injection hv with hv1 hv2 hv3
      exact ⟨q, cs', hv1, by omega, hB'⟩
    · obtain ⟨b, o, hA, hbd⟩ := h'.2.1 (by simp only; omega)
      simp only at hA
      rw [hAp] at hA
      injection hA with hA
      injection hA with e1 e2
      subst e1 e2
      have h2 := BdS.drop tp _ _ i hbd
      rw [hd] at h2
      simp only [Nat.zero_add] at h2
      obtain ⟨_, _, _, ⟨A, c, h6, hs⟩, _⟩ := h2
      rw [g6] at h6
      injection h6 with h6
      injection h6 with h6
      subst h6
      exact hs hp
  · subst hw
    exact hbel _ _ (hb.trans (hb5.mono hb.size)) hbase
  · have h5 := own_old h hb5
    refine own_blocks h5 (fun k hk => hheap (fun e => ?_))
    subst e
    exact own_ne h5 hB5 (by decide) hk
theorem OKl.old {S0 : Nat → Prop} {base : Nat} {W W' : World} {p : Ln} (h : OKl S0 base W p) (hb : Below W.heap.size W W') : OKl S0 base W' p := by
  refine ⟨fun hp => ?_, h.2.1.kept (Below.keptS hb) (fun k hk _ => NR.stay (Stay.old hb) k hk), h.2.2⟩
  obtain ⟨q, cs, h1, h2, h3⟩ := h.1 hp
  exact ⟨q, cs, h1, h2, h3.old hb⟩
theorem LooseAt.old {base : Nat} {W W' : World} {q k : Nat} (h : LooseAt base W q k) (hb : Below W.heap.size W W') : LooseAt base W' q k := by
  have kc : ∀ (b o : Nat) (u : Value), W.cell? ⟨b, o, none⟩ = some u → W'.cell? ⟨b, o, none⟩ = some u := fun b o u hu => cell_old hb (World.block_lt_of_cell? W ⟨b, o, none⟩ hu) hu
  obtain ⟨⟨x, h0⟩, ⟨A, m, c, h5, ha⟩, ⟨A', m', c', h6, hb'⟩⟩ := h
  refine ⟨⟨x, kc _ _ _ h0⟩, ⟨A, m, c, kc _ _ _ h5, fun hp => ?_⟩, ⟨A', m', c', kc _ _ _ h6, fun hp => ?_⟩⟩
  · obtain ⟨b, x, T, ds, hA, hbb, hB, hT, hc⟩ := ha hp
    exact ⟨b, x, T, ds, hA, hbb, hB.old hb, hT, kc _ _ _ hc⟩
  · obtain ⟨b, x, T, ds, hA, hbb, hB, hT, hc⟩ := hb' hp
    exact ⟨b, x, T, ds, hA, hbb, hB.old hb, hT, kc _ _ _ hc⟩
end Go.Proofs.Ytpdebnecfknohaa
