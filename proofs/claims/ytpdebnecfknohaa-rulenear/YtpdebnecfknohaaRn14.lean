/-
  Parts: Nh Nj Ob.
-/
import Derived.Test.YtpdebnecfknohaaRn00
import Derived.Test.YtpdebnecfknohaaRn01
import Derived.Test.YtpdebnecfknohaaRn02
import Derived.Test.YtpdebnecfknohaaRn03
import Derived.Test.YtpdebnecfknohaaRn04
import Derived.Test.YtpdebnecfknohaaRn05
import Derived.Test.YtpdebnecfknohaaRn06
import Derived.Test.YtpdebnecfknohaaRn07
import Derived.Test.YtpdebnecfknohaaRn08
import Derived.Test.YtpdebnecfknohaaRn09
import Derived.Test.YtpdebnecfknohaaRn10
import Derived.Test.YtpdebnecfknohaaRn11
import Derived.Test.YtpdebnecfknohaaRn12
import Derived.Test.YtpdebnecfknohaaRn13
import Derived.Test.YtpdebnecfknohaaRows
namespace Go.Proofs.Ytpdebnecfknohaa
open Go.RowKit
set_option linter.unusedVariables false
set_option linter.unusedSimpArgs false
set_option maxRecDepth 20000
theorem args_cells {S : Nat → Prop} {w : World} {A : Option Addr} {n c : Nat} {l : List (Int × Int)} (h : ArgsS S w (.slice A n c) l) : n = l.length ∧ RdS S w A n 2 (flatA l) := by
  obtain ⟨A', c', e, h⟩ := h
  injection e with e1 e2 e3
  subst e1 e2 e3
  refine ⟨rfl, flatA_len l, fun hp => ?_⟩
  obtain ⟨b, o, hA, hS, hc⟩ := h hp
  refine ⟨b, o, hA, hS, fun j u hj => ?_⟩
  have hjl : j < l.length * 2 := by have := (List.getElem?_eq_some_iff.1 hj).1; rwa [flatA_len] at this
  obtain ⟨g1, g2⟩ := flatA_get l (j / 2) (by omega)
  obtain ⟨d1, d2⟩ := hc (j / 2) (by omega)
  rcases Nat.mod_two_eq_zero_or_one j with h0 | h0
  · rw [show j = j / 2 * 2 by omega, g1] at hj
    rw [show o + j = o + j / 2 * 2 by omega, d1]
    exact hj
  · rw [show j = j / 2 * 2 + 1 by omega, g2] at hj
    rw [show o + j = o + j / 2 * 2 + 1 by omega, d2]
    exact hj
/-- A body with a statement more. -/
theorem body_app {W V : World} {X S : Nat → Prop} {css : List (List Value)} {T : List St7} {s : St7} {cs' : List Value} {A : Option Addr} {n c' : Nat} (hcl : css.length = T.length) (hst : ∀ i (h : i < T.length), ∃ cs, css[i]? = some cs ∧ StS X W cs T[i]) (hb : Below W.heap.size W V) (hs : StS S V cs' s) (hn : n = T.length + 1) (ho : V.ownsRow W.heap.size 50 7 (.slice A n c') n (css.flatten ++ cs')) (hX : ∀ k, X k → S k) (hS : ∀ k, W.heap.size ≤ k → S k) : BodyS S V A (bdOf (T ++ [s])) := fun hp => by
  obtain ⟨q', cap, hv, hbq, _⟩ := own_formM ho (by omega)
  injection hv with hv1 hv2 hv3
  subst hv1 hv3
  refine ⟨q', 0, rfl, bdS_row (hS q' hbq) (T ++ [s]) (css ++ [cs']) 0 (fun i hi => ?_) (fun j u hj => own_cellsM ho j u (by
    rw [List.flatten_append] at hj
    simpa using hj))⟩
  by_cases hiT : i < T.length
  · obtain ⟨cs, e, h⟩ := hst i hiT
    rw [List.getElem_append_left hiT, List.getElem?_append_left (by omega)]
    exact ⟨cs, e, h.kept (fun k _ hk => hb.block k hk) (fun k hk _ => hX k hk)⟩
  · have hie : i = T.length := by simp at hi; omega
    subst hie
    rw [List.getElem_append_right (Nat.le_refl _), List.getElem?_append_right (by omega)]
    refine ⟨cs', by simp [hcl], by simpa using hs⟩
theorem css_one {W : World} {X : Nat → Prop} {css : List (List Value)} {T : List St7} (hcl : css.length = T.length) (hst : ∀ i (h : i < T.length), ∃ cs, css[i]? = some cs ∧ StS X W cs T[i]) : ∀ u ∈ css.flatten, u.oneCell' = true := fun u hu => by
  obtain ⟨c, hc, huc⟩ := List.mem_flatten.1 hu
  obtain ⟨i, hi, rfl⟩ := List.mem_iff_getElem.1 hc
  obtain ⟨c', e, va, A, cc, e2, ⟨A', c2, rfl, _⟩, _⟩ := hst i (by omega)
  rw [List.getElem?_eq_getElem hi] at e
  injection e with e
  rw [e, e2] at huc
  simp at huc
  rcases huc with rfl | rfl | rfl | rfl | rfl | rfl | rfl <;> rfl
/-- Cells beside one another are others. -/
def sets (b : Nat) : Nat → List Value → World → World
  | _, [], w => w
  | o, v :: L, w => sets b (o + 1) L (w.setCell ⟨b, o, none⟩ v)
theorem sets_far {b k : Nat} (h : k ≠ b) : ∀ (L : List Value) (o : Nat) (w : World), (sets b o L w).heap[k]? = w.heap[k]?
  | [], _, _ => rfl
  | v :: L, o, w => (sets_far h L (o + 1) _).trans (Below.heap_setCell _ _ _ _ h)
theorem sets_blk {b t : Nat} : ∀ (L : List Value) (o : Nat) (w : World) (cur : Array Value), Blk w b t cur → o + L.length ≤ cur.size → ∃ cur', Blk (sets b o L w) b t cur' ∧ cur'.size = cur.size ∧ (∀ x, x < o ∨ o + L.length ≤ x → cur'[x]? = cur[x]?) ∧ ∀ x v, L[x]? = some v → cur'[o + x]? = some v
  | [], _, _, cur, h, _ => ⟨cur, h, rfl, fun _ _ => rfl, fun x v hx => by simp at hx⟩
  | v :: L, o, w, cur, h, hl => by
    simp only [List.length_cons] at hl
    obtain ⟨cur', h1, h2, h3, h4⟩ := sets_blk L (o + 1) _ _ (h.set_ o v) (by simp; omega)
    refine ⟨cur', h1, by simpa using h2, fun x hx => ?_, fun x u hx => ?_⟩
    · simp only [List.length_cons] at hx
      rw [h3 x (by omega), Array.getElem?_setIfInBounds_ne (by omega)]
    · cases x with
      | zero =>
        simp at hx
        subst hx
        rw [Nat.add_zero, h3 o (by omega), Array.getElem?_setIfInBounds_self_of_lt (by omega)]
      | succ x =>
        have := h4 x u (by simpa using hx)
        rwa [show o + (x + 1) = o + 1 + x by omega]
theorem sets_below {b B : Nat} {w0 : World} : ∀ (L : List Value) (o : Nat) (w : World), Below B w0 w → B ≤ b → Below B w0 (sets b o L w)
  | [], _, _, h, _ => h
  | v :: L, o, w, h, hb => sets_below L (o + 1) _ (h.setCell (p := ⟨b, o, none⟩) hb v) hb
section
variable {w0 : Nat} {W W' : World} {g q : Nat} {M : Md} {As Ag Ae : Option Addr} {cs cg cf ce : Nat} {Vs : List Value} {Ts : List (List St7)}
/-- Cells of a statement are others. -/
theorem Nr.nz_sets (h : Nr w0 W g q M As Ag Ae cs cg cf ce Vs Ts) (hl : Vs.length ≤ M.funcs.length) (hO : OkM M) {w Wa : World} (hb : Below W.heap.size W Wa) (hw : Below w.heap.size w W) (hw0 : w.heap.size ≤ w0) (j : Nat) (hj : j < M.funcs.length) (bb cb : Nat) (T : List St7) (hTs : Ts[j]? = some T) (hV : Vs[j]? = some (.slice (some ⟨bb, 0, none⟩) T.length cb)) (i : Nat) (hi : i < T.length)
    (p : Nat) (L : List Value) (hp : p + L.length ≤ 7) (s : St7) (ks : List Value) (hlen : ks.length = 7) (hcs : ∀ t v, ks[t]? = some v → W.cell? ⟨bb, i * 7 + t, none⟩ = some v) (hs : StS (fun k => k ≠ bb) Wa (ks.take p ++ L ++ ks.drop (p + L.length)) s)
    (hOf : OkF ⟨M.funcs[j].name, M.funcs[j].params, M.funcs[j].locals, M.funcs[j].sites, bdOf (T.set i s)⟩) : Nz w (sets bb (i * 7 + p) L Wa) g := by
  obtain ⟨⟨cur, hcur⟩, n1, n2, n3, n4, n5⟩ := h.named (List.mem_of_getElem? hV) hl (k := bb) rfl
  obtain ⟨Al, cl, At, ct, Ab, cb', T', hcl, r1, r2, hV', hT', hBd, hR⟩ := h.fns j hj
  have hbw : w0 ≤ bb := (hR.blk bb (by rw [hV] at hV'; injection hV' with e; rw [← e]; rfl)).1
  have hc7 : W.cell? ⟨bb, i * 7 + 6, none⟩ = some (ks[6]'(by omega)) := hcs 6 _ (List.getElem?_eq_getElem (by omega))
  have hsz : i * 7 + 6 < cur.size := by
    rw [hcur.cell] at hc7
    rcases Nat.lt_or_ge (i * 7 + 6) cur.size with h1 | h1
    · exact h1
    · rw [Array.getElem?_eq_none h1] at hc7; cases hc7
  have hcA := hcur.old hb
  obtain ⟨cur', hB', hs', hfar, hnew⟩ := sets_blk L (i * 7 + p) Wa cur hcA (by omega)
  refine h.nz_b hl hO (sets_below L _ _ (hw.trans (hb.mono hw.size)) (by omega)) j hj bb cb T hTs hV (fun k hk hkb => (sets_far hkb L _ _).trans (hb.block k hk)) i hi (fun o ho => ?_) s ⟨ks.take p ++ L ++ ks.drop (p + L.length), ?_, fun t v hv => ?_⟩ hOf
  · rw [hB'.cell, hcur.cell]
    refine hfar o ?_
    rcases Nat.lt_or_ge o (i * 7 + p) with h1 | h1
    · exact .inl h1
    · rcases Nat.lt_or_ge o (i * 7 + p + L.length) with h2 | h2
      · exact absurd (show o = i * 7 + (o - i * 7) by omega) (ho (o - i * 7) (by omega))
      · exact .inr h2
  · exact hs.kept (fun k hk _ => sets_far hk L _ _) (fun _ _ _ => trivial)
  · rw [hB'.cell]
    have ht : (ks.take p).length = p := by rw [List.length_take]; omega
    by_cases h1 : t < p
    · rw [List.append_assoc, List.getElem?_append_left (by omega), List.getElem?_take_of_lt h1] at hv
      rw [hfar _ (.inl (by omega)), ← hcur.cell]
      exact hcs t v hv
    · by_cases h2 : t < p + L.length
      · rw [List.append_assoc, List.getElem?_append_right (by omega), List.getElem?_append_left (by omega), ht] at hv
        have := hnew (t - p) v hv
        rwa [show i * 7 + p + (t - p) = i * 7 + t by omega] at this
      · rw [List.getElem?_append_right (by rw [List.length_append]; omega), List.length_append, ht, List.getElem?_drop] at hv
        rw [hfar _ (.inr (by omega)), ← hcur.cell]
        refine hcs t v ?_
        rwa [show p + L.length + (t - (p + L.length)) = t by omega] at hv
/-- A statement as it is read. -/
theorem Nr.st_of (h : Nr w0 W g q M As Ag Ae cs cg cf ce Vs Ts) (hl : Vs.length ≤ M.funcs.length) {j n cb : Nat} {Ab : Option Addr} {T : List St7} {X : Nat → Prop} (hV : Vs[j]? = some (.slice Ab n cb)) (hn : n = T.length) (hR : BdRow W w0 (fun k => k ≠ q ∧ ∀ u ∈ Vs, some k ≠ u.ownBlock) (.slice Ab n cb) T) (k : Nat) (hk : k < n) :
    ∃ bb Aa na ca Au cu, Ab = some ⟨bb, 0, none⟩ ∧ bb < W.heap.size ∧ (∀ o, W.frozen? ⟨bb, o, none⟩ = false) ∧ (∀ t v, ([.int .u8 (T[k]'(by omega)).k, .int .u8 (T[k]'(by omega)).a.1, .int .i64 (T[k]'(by omega)).a.2, .int .u8 (T[k]'(by omega)).b.1, .int .i64 (T[k]'(by omega)).b.2, .slice Aa na ca, .slice Au (T[k]'(by omega)).sub.len cu] : List Value)[t]? = some v → W.cell? ⟨bb, k * 7 + t, none⟩ = some v) ∧
      ArgsS (fun k => k ≠ bb) W (.slice Aa na ca) (T[k]'(by omega)).xs ∧ BodyS (fun k => k ≠ bb) W Au (T[k]'(by omega)).sub := by
  obtain ⟨css, ho, hcl, hst⟩ := hR.own
  subst hn
  obtain ⟨bb, cap, hv, hbq, hlt⟩ := own_formM ho (by omega)
  injection hv with hv1 hv2 hv3
  subst hv1 hv3
  obtain ⟨_, cur, hcur⟩ := own_blk ho bb rfl
  obtain ⟨c, ec, va, Au, cu, e, ha, hsub⟩ := hst k hk
  obtain ⟨Aa, ca, rfl, haa⟩ := ha
  have h7 : ∀ c ∈ css, c.length = 7 := fun c hc => by
    obtain ⟨a, hal, rfl⟩ := List.mem_iff_getElem.1 hc
    obtain ⟨c', e', _, _, _, e2, _⟩ := hst a (by omega)
    rw [List.getElem?_eq_getElem hal] at e'
    injection e' with e'
    rw [e', e2]; rfl
  have hX : ∀ k, (k ≠ q ∧ ∀ u ∈ Vs, some k ≠ u.ownBlock) → k < W.heap.size → k ≠ bb := fun k hk _ e => hk.2 _ (List.mem_of_getElem? hV) (by subst e; rfl)
  refine ⟨bb, Aa, _, ca, Au, cu, rfl, hlt, fun o => hcur.frozen o, fun t v hv => ?_, ArgsS.kept ⟨Aa, ca, rfl, haa⟩ (fun _ _ _ => rfl) hX, hsub.kept (fun _ _ _ => rfl) hX⟩
  have ht7 : t < 7 := by have := (List.getElem?_eq_some_iff.1 hv).1; simpa using this
  have e1 := flat_get 7 css k c t h7 ec ht7
  have := own_cellsM ho (k * 7 + t) v (by rw [e1, e]; exact hv)
  rwa [Nat.zero_add] at this
end
end Go.Proofs.Ytpdebnecfknohaa
namespace Go.Proofs.Ytpdebnecfknohaa
open Go.RowKit
set_option linter.unusedVariables false
set_option linter.unusedSimpArgs false
theorem wrap_small9 {x : Int} (h : 0 ≤ x ∧ x < 256) : IntKind.i64.wrap x = x := by rw [IntWalk.i64_in _ (by omega)]
/-- append runs so. -/
@[irreducible] def AppRun (t : TypeId) (v xv : Value) (w : World) (v' : Value) (w' : World) : Prop := (Builtin.append_ #[t, t] t #[v, xv]).run Try.prog w = .ok v' w'
theorem AppRun.mk {t : TypeId} {v xv : Value} {w : World} {v' : Value} {w' : World} (h : (Builtin.append_ #[t, t] t #[v, xv]).run Try.prog w = .ok v' w') : AppRun t v xv w v' w' := by unfold AppRun; exact h
theorem AppRun.out {t : TypeId} {v xv : Value} {w : World} {v' : Value} {w' : World} (h : AppRun t v xv w v' w') : (Builtin.append_ #[t, t] t #[v, xv]).run Try.prog w = .ok v' w' := by unfold AppRun at h; exact h
theorem step_append_k {t : TypeId} {v xv : Value} {w0 : World} {v' : Value} {w' : World} (hr : AppRun t v xv w0 v' w') {w : World} {ops : Array Oper} {o : Oper} {a : Act} {K : Act → World → Prop} {Q : Exit → Act → World → Prop} {E : Prop} (hw : w = w0) (hgd : o.guard = none) (s x : Operand)
    (ho : o.op = .call { callee := .builtin .append, args := #[s, x], argTypes := #[t, t] }) (hot : o.type = t) (hs : a.eval s = v) (hx : a.eval x = xv) (h : K (a.put o.dst v') w') :
    if Region.wanted o (yielded ops a.tmps) = true then Oper.wp Try.prog o a w K Q else E := by
  subst hw
  exact step_append_run w hgd s x t ho v xv hs hx v' w' (by rw [hot]; exact hr.out) h
theorem Nz.drew {w wz : World} {g : Nat} (h : Nz w wz g) : Nz w wz.drew g := by
  obtain ⟨M, Bs, Bg, Bf, Be, ds, dg, df, de, h1, h2, h3, h4⟩ := h
  have d : Below wz.heap.size wz wz.drew := (Below.refl _ _).drew
  exact ⟨M, Bs, Bg, Bf, Be, ds, dg, df, de, h1.old d, h2.old d, h3, h4.trans (d.mono h4.size)⟩
end Go.Proofs.Ytpdebnecfknohaa
namespace Go.Proofs.Ytpdebnecfknohaa
open Go.RowKit
set_option linter.unusedVariables false
set_option maxRecDepth 20000
section
variable {H : Type} {enc : TypeId × Value → H} {w : World} {base : Nat} {spare : Nat → Bool} {held : Bool}
theorem cells77 : Try.prog.cellsOf 77 = 4 := by kernel_rfl
theorem cells22 : Try.prog.cellsOf 22 = 1 := by kernel_rfl
theorem cells24 : Try.prog.cellsOf 24 = 4 := by kernel_rfl
theorem u8_nat {x : Int} (h : (Lit.int .u8 x).wf = true) : ∃ n : Nat, x = n ∧ n < 256 := by
  obtain ⟨h1, h2⟩ := okU8_of_wf h
  exact ⟨x.toNat, by omega, by omega⟩
theorem open_act {fuel : Nat} {cs : List Value} {x : DataW H × List MemPlace} (h : DataW.trod enc Try.prog w base spare held fuel 77 cs = some x) :
    ∃ a : Ac, cs = [.int .u8 (a.k : Int), .int .u8 (a.a : Int), .int .u8 (a.b : Int), .int .u8 (a.c : Int)] ∧ a.k < 256 ∧ a.a < 256 ∧ a.b < 256 ∧ a.c < 256 := by
  obtain ⟨xs, n, _, hx, hl, hxl, hg⟩ := DataW.trod_struct Try.underlying77 h
  rw [cells77] at hl
  match xs, hxl, cs, hl with
  | [y0, y1, y2, y3], _, [c0, c1, c2, c3], _ =>
    have g0 : DataW.trod enc Try.prog w base spare held n 5 ((List.drop 0 [c0, c1, c2, c3]).take (Try.prog.cellsOf 5)) = some y0 := hg 0 _ rfl
    have g1 : DataW.trod enc Try.prog w base spare held n 5 ((List.drop 1 [c0, c1, c2, c3]).take (Try.prog.cellsOf 5)) = some y1 := hg 1 _ rfl
    have g2 : DataW.trod enc Try.prog w base spare held n 5 ((List.drop 2 [c0, c1, c2, c3]).take (Try.prog.cellsOf 5)) = some y2 := hg 2 _ rfl
    have g3 : DataW.trod enc Try.prog w base spare held n 5 ((List.drop 3 [c0, c1, c2, c3]).take (Try.prog.cellsOf 5)) = some y3 := hg 3 _ rfl
    rw [cells5] at g0 g1 g2 g3
    obtain ⟨z0, h0, _, w0⟩ := DataW.trod_int Try.underlying5 (g0)
    obtain ⟨z1, h1, _, w1⟩ := DataW.trod_int Try.underlying5 (g1)
    obtain ⟨z2, h2, _, w2⟩ := DataW.trod_int Try.underlying5 (g2)
    obtain ⟨z3, h3, _, w3⟩ := DataW.trod_int Try.underlying5 (g3)
    simp at h0 h1 h2 h3
    subst h0; subst h1; subst h2; subst h3
    obtain ⟨n0, rfl, l0⟩ := u8_nat w0
    obtain ⟨n1, rfl, l1⟩ := u8_nat w1
    obtain ⟨n2, rfl, l2⟩ := u8_nat w2
    obtain ⟨n3, rfl, l3⟩ := u8_nat w3
    exact ⟨⟨n0, n1, n2, n3⟩, rfl, l0, l1, l2, l3⟩
instance : Inhabited Ac := ⟨⟨0, 0, 0, 0⟩⟩
theorem open_acts {fuel : Nat} {cs : List Value} {x : DataW H × List MemPlace} (h : DataW.trod enc Try.prog w base spare held fuel 22 cs = some x) :
    ∃ (A : Option Addr) (c : Nat) (l : List Ac), cs = [.slice A l.length c] ∧ AcsAt w A l ∧ (∀ x ∈ l, x.k < 256 ∧ x.a < 256 ∧ x.b < 256 ∧ x.c < 256) ∧ l.length ≤ 9223372036854775807 := by
  rcases DataW.trod_slice Try.underlying22 h with ⟨h0, _⟩ | ⟨a, len, cap, elems, rest, n, hn, hcs, hx, hb, hl, hm, hlen, hel, _, _⟩
  · exact ⟨none, 0, [], h0, fun h => by simp at h, by simp, by simp⟩
  · have each : ∀ i, i < len → ∃ q : Ac, (∀ j, j < 4 → w.cell? ((a.add (i * 4)).add j) = ([.int .u8 (q.k : Int), .int .u8 (q.a : Int), .int .u8 (q.b : Int), .int .u8 (q.c : Int)] : List Value)[j]?) ∧ q.k < 256 ∧ q.a < 256 ∧ q.b < 256 ∧ q.c < 256 := fun i hi => by
      have h1 := hel i hi
      rw [List.getElem?_eq_getElem (by omega), cells77, Option.bind_eq_some_iff] at h1
      obtain ⟨cs', h2, h3⟩ := h1
      obtain ⟨_, _, hat⟩ := World.cells?_some h2
      obtain ⟨q, rfl, hq⟩ := open_act h3
      exact ⟨q, hat, hq⟩
    obtain ⟨q, hq⟩ := Go.Deep.choose_lt each
    have hln : ((List.range len).map q).length = len := by simp
    refine ⟨some a, cap, (List.range len).map q, by rw [hln]; exact hcs, fun hp => ?_, fun z hz => ?_, by rw [hln]; unfold maxLen at hm; omega⟩
    · have hp' : 0 < len := by simpa using hp
      obtain ⟨b, off, spot⟩ := a
      have hspot : spot = none := by
        have := World.cell?_spot (v := .int .u8 ((q 0).k : Int)) ((hq 0 hp').1 0 (by omega))
        simpa [Addr.add] using this
      subst hspot
      refine ⟨b, off, rfl, fun i hi => ?_⟩
      have hi' : i < len := by simpa using hi
      have hc := (hq i hi').1
      have e := fun j hj => (Go.WideShapes.add_plain _ _ _ ▸ Go.WideShapes.add_plain _ _ _ ▸ hc j hj : w.cell? ⟨b, off + i * 4 + j, none⟩ = _)
      simp only [List.getElem_map, List.getElem_range]
      exact ⟨e 0 (by omega), e 1 (by omega), e 2 (by omega), e 3 (by omega)⟩
    · obtain ⟨i, hi, rfl⟩ := List.mem_map.1 hz
      exact (hq i (List.mem_range.1 hi)).2
/-- What a draft's cells are. -/
theorem open_draft {fuel : Nat} {cs : List Value} {x : DataW H × List MemPlace} (h : DataW.trod enc Try.prog w base spare held fuel 24 cs = some x) :
    ∃ (G F E : Nat) (A : Option Addr) (c : Nat) (l : List Ac), cs = [.int .u8 (G : Int), .int .u8 (F : Int), .int .u8 (E : Int), .slice A l.length c] ∧ G < 256 ∧ F < 256 ∧ E < 256 ∧ AcsAt w A l ∧ (∀ x ∈ l, x.k < 256 ∧ x.a < 256 ∧ x.b < 256 ∧ x.c < 256) ∧ l.length ≤ 9223372036854775807 := by
  obtain ⟨xs, n, _, hx, hl, hxl, hg⟩ := DataW.trod_struct Try.underlying24 h
  rw [cells24] at hl
  match xs, hxl, cs, hl with
  | [y0, y1, y2, y3], _, [c0, c1, c2, c3], _ =>
    have g0 : DataW.trod enc Try.prog w base spare held n 5 ((List.drop 0 [c0, c1, c2, c3]).take (Try.prog.cellsOf 5)) = some y0 := hg 0 _ rfl
    have g1 : DataW.trod enc Try.prog w base spare held n 5 ((List.drop 1 [c0, c1, c2, c3]).take (Try.prog.cellsOf 5)) = some y1 := hg 1 _ rfl
    have g2 : DataW.trod enc Try.prog w base spare held n 5 ((List.drop 2 [c0, c1, c2, c3]).take (Try.prog.cellsOf 5)) = some y2 := hg 2 _ rfl
    have g3 : DataW.trod enc Try.prog w base spare held n 22 ((List.drop 3 [c0, c1, c2, c3]).take (Try.prog.cellsOf 22)) = some y3 := hg 3 _ rfl
    rw [cells5] at g0 g1 g2
    rw [cells22] at g3
    obtain ⟨z0, h0, _, w0⟩ := DataW.trod_int Try.underlying5 (g0)
    obtain ⟨z1, h1, _, w1⟩ := DataW.trod_int Try.underlying5 (g1)
    obtain ⟨z2, h2, _, w2⟩ := DataW.trod_int Try.underlying5 (g2)
    obtain ⟨A, c, l, h3, w3⟩ := open_acts (g3)
    simp at h0 h1 h2 h3
    subst h0; subst h1; subst h2; subst h3
    obtain ⟨n0, rfl, l0⟩ := u8_nat w0
    obtain ⟨n1, rfl, l1⟩ := u8_nat w1
    obtain ⟨n2, rfl, l2⟩ := u8_nat w2
    exact ⟨n0, n1, n2, A, c, l, rfl, l0, l1, l2, w3⟩
end
end Go.Proofs.Ytpdebnecfknohaa
