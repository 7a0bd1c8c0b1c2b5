
/-
  A module that was made, in a box, and what is read behind one change of it.
-/
import Derived.Test.YtpdebnecfknohaaQy
namespace Go.Proofs.Ytpdebnecfknohaa
open Go.RowKit
set_option linter.unusedVariables false
set_option maxRecDepth 20000

/-- A module of the call's own, in a box. -/
structure YI (w4 wc : World) (q8 : Nat) (N : Md) (Bs Bg Bf Be : Option Addr) (ds dg df de : Nat) : Prop where
  box : Blk wc q8 30 #[.slice Bs N.strs.length ds, .slice Bg N.globs.length dg, .slice Bf N.funcs.length df, .slice Be N.ents.length de]
  qin : w4.heap.size ≤ q8
  strs : wc.ownsRow w4.heap.size 9 1 (.slice Bs N.strs.length ds) N.strs.length (strV N.strs)
  globs : wc.ownsRow w4.heap.size 3 1 (.slice Bg N.globs.length dg) N.globs.length (intV N.globs)
  fns : FnRow wc w4.heap.size (fun k => w4.heap.size ≤ k ∧ k ≠ q8) (.slice Bf N.funcs.length df) N.funcs
  ents : wc.ownsRow w4.heap.size 3 1 (.slice Be N.ents.length de) N.ents.length (intV N.ents)
  bel : Below w4.heap.size w4 wc
  made : N.Made
/-- A module that is read, in a box. -/
def Yz (w4 wz : World) (q8 : Nat) : Prop := ∃ (N : Md) (Bs Bg Bf Be : Option Addr) (ds dg df de : Nat), Blk wz q8 30 #[.slice Bs N.strs.length ds, .slice Bg N.globs.length dg, .slice Bf N.funcs.length df, .slice Be N.ents.length de] ∧ MdR wz Bs Bg Bf Be N ∧ N.Fit ∧ 0 < N.funcs.length ∧ Below w4.heap.size w4 wz
theorem FnRow.fns {w : World} {base : Nat} {X : Nat → Prop} {A : Option Addr} {n c : Nat} {L : List Fn} (h : FnRow w base X (.slice A n c) L) : FnsS (fun _ => True) w A L := fun hp => by
  obtain ⟨q, rfl, _, _, _, _, _⟩ := h.at_ 0 hp
  refine ⟨q, 0, rfl, trivial, fun i hi => ?_⟩
  obtain ⟨q', hq', _, _, _, _, Al, cl, At, ct, Ab, cb, r1, r2, r3, hc⟩ := h.at_ i hi
  injection hq' with hq'
  injection hq' with hq'
  subst hq'
  refine ⟨[.int .i64 L[i].name, .int .i64 L[i].params, .slice Al L[i].locals.length cl, .slice At L[i].sites.length ct, .slice Ab L[i].body.len cb], ⟨Al, cl, At, ct, Ab, cb, rfl, r1.below (fun _ _ => trivial), r2.below (fun _ _ => trivial), r3.kept (fun _ _ _ => rfl) (fun _ _ _ => trivial)⟩, fun j u hj => by rw [Nat.zero_add]; exact hc j u hj⟩
theorem YI.read {w4 wc : World} {q8 : Nat} {N : Md} {Bs Bg Bf Be : Option Addr} {ds dg df de : Nat} (h : YI w4 wc q8 N Bs Bg Bf Be ds dg df de) : MdR wc Bs Bg Bf Be N :=
  ⟨(RdS.own h.strs).below (fun _ _ => trivial), (RdS.own h.globs).below (fun _ _ => trivial), h.fns.fns, (RdS.own h.ents).below (fun _ _ => trivial)⟩
theorem YI.done {w4 wc : World} {q8 : Nat} {N : Md} {Bs Bg Bf Be : Option Addr} {ds dg df de : Nat} (h : YI w4 wc q8 N Bs Bg Bf Be ds dg df de) : Yz w4 wc q8 :=
  ⟨N, Bs, Bg, Bf, Be, ds, dg, df, de, h.box, h.read, h.made.fit, h.made.small.fns.1, h.bel⟩
theorem MkPost.read {w w' : World} {M : Md} {e : Ending} (h : MkPost w M e w') : ∃ As cs Ag cg Af cf Ae ce, e = .returned (.agg #[.slice As M.strs.length cs, .slice Ag M.globs.length cg, .slice Af M.funcs.length cf, .slice Ae M.ents.length ce]) ∧ MdR w' As Ag Af Ae M ∧ Below w.heap.size w w' := by
  obtain ⟨Al, cl, A2, c2, Ax, cx, Ae, ce, rfl, h1, h2, h3, h4, hb⟩ := h
  exact ⟨Al, cl, A2, c2, Ax, cx, Ae, ce, rfl, ⟨(RdS.own h1).below (fun _ _ => trivial), (RdS.own h2).below (fun _ _ => trivial), h3.fns, (RdS.own h4).below (fun _ _ => trivial)⟩, hb⟩
/-- Behind the box of what was made. -/
theorem MkPost.boxed {w4 w5 : World} {N : Md} {e : Ending} (h : MkPost w4 N e w5) (hN : N.Made) : ∃ Bs ds Bg dg Bf df Be de, e = .returned (.agg #[.slice Bs N.strs.length ds, .slice Bg N.globs.length dg, .slice Bf N.funcs.length df, .slice Be N.ents.length de]) ∧ YI w4 (w5.alloc (.cells #[.slice Bs N.strs.length ds, .slice Bg N.globs.length dg, .slice Bf N.funcs.length df, .slice Be N.ents.length de] 30)) w5.heap.size N Bs Bg Bf Be ds dg df de ∧ Below w4.heap.size w4 w5 := by
  obtain ⟨Bs, ds, Bg, dg, Bf, df, Be, de, rfl, h1, h2, h3, h4, hb⟩ := h
  have hB : Below w5.heap.size w5 (w5.alloc (.cells #[.slice Bs N.strs.length ds, .slice Bg N.globs.length dg, .slice Bf N.funcs.length df, .slice Be N.ents.length de] 30)) := (Below.refl _ _).alloc (Nat.le_refl _) _
  refine ⟨Bs, ds, Bg, dg, Bf, df, Be, de, rfl, ⟨Blk.new w5 30 _, hb.size, own_old h1 hB, own_old h2 hB, ?_, own_old h4 hB, hb.trans (hB.mono hb.size), hN⟩, hb⟩
  exact h3.kept (fun k hk => hB.block k (h3.blk k hk).2.1) (fun k _ hlt => hB.block k hlt) (fun k hk hlt => ⟨hk, by omega⟩)
/-- In a box that was there. -/
theorem MkPost.stored {w4 w6 w7 : World} {q8 : Nat} {N N0 : Md} {e : Ending} {Bs0 Bg0 Bf0 Be0 : Option Addr} {ds0 dg0 df0 de0 : Nat} (h0 : YI w4 w6 q8 N0 Bs0 Bg0 Bf0 Be0 ds0 dg0 df0 de0) (h : MkPost w6 N e w7) (hN : N.Made) : ∃ Bs ds Bg dg Bf df Be de, e = .returned (.agg #[.slice Bs N.strs.length ds, .slice Bg N.globs.length dg, .slice Bf N.funcs.length df, .slice Be N.ents.length de]) ∧ Blk w7 q8 30 #[.slice Bs0 N0.strs.length ds0, .slice Bg0 N0.globs.length dg0, .slice Bf0 N0.funcs.length df0, .slice Be0 N0.ents.length de0] ∧
    YI w4 ((((w7.setCell ⟨q8, 0, none⟩ (.slice Bs N.strs.length ds)).setCell ⟨q8, 1, none⟩ (.slice Bg N.globs.length dg)).setCell ⟨q8, 2, none⟩ (.slice Bf N.funcs.length df)).setCell ⟨q8, 3, none⟩ (.slice Be N.ents.length de)) q8 N Bs Bg Bf Be ds dg df de := by
  obtain ⟨Bs, ds, Bg, dg, Bf, df, Be, de, rfl, h1, h2, h3, h4, hb⟩ := h
  have hq := h0.box.lt
  have hbx := h0.box.old hb
  have hk : ∀ k, k ≠ q8 → ((((w7.setCell ⟨q8, 0, none⟩ (.slice Bs N.strs.length ds)).setCell ⟨q8, 1, none⟩ (.slice Bg N.globs.length dg)).setCell ⟨q8, 2, none⟩ (.slice Bf N.funcs.length df)).setCell ⟨q8, 3, none⟩ (.slice Be N.ents.length de)).heap[k]? = w7.heap[k]? := fun k hk => set4_far _ _ _ _ hk
  have hs := h0.bel.size
  have ho : ∀ {e m c : Nat} {A : Option Addr} {xs : List Value}, w7.ownsRow w6.heap.size e 1 (.slice A m c) m xs → ((((w7.setCell ⟨q8, 0, none⟩ (.slice Bs N.strs.length ds)).setCell ⟨q8, 1, none⟩ (.slice Bg N.globs.length dg)).setCell ⟨q8, 2, none⟩ (.slice Bf N.funcs.length df)).setCell ⟨q8, 3, none⟩ (.slice Be N.ents.length de)).ownsRow w4.heap.size e 1 (.slice A m c) m xs := fun h => own_base (own_blocks h (fun k hk' => hk k (by have := own_ge h k hk'; omega))) hs
  refine ⟨Bs, ds, Bg, dg, Bf, df, Be, de, rfl, hbx, ⟨?_, h0.qin, ho h1, ho h2, ?_, ho h4, set4 (h0.bel.trans (hb.mono h0.bel.size)) h0.qin _ _ _ _, hN⟩⟩
  · exact (((hbx.set_ 0 _).set_ 1 _).set_ 2 _).set_ 3 _
  · exact FnRow.base (h3.kept (fun k hk' => hk k (by have := (h3.blk k hk').1; omega)) (fun k hx _ => hk k (by omega)) (fun k hx _ => ⟨by omega, by omega⟩)) hs

/-- What is read of the first function. -/
theorem YI.first {w4 wc : World} {q8 : Nat} {N : Md} {Bs Bg Bf Be : Option Addr} {ds dg df de : Nat} (h : YI w4 wc q8 N Bs Bg Bf Be ds dg df de) : ∃ (qf : Nat) (f : Fn) (l : List Fn) (Al : Option Addr) (cl : Nat) (At : Option Addr) (ct : Nat) (Ab : Option Addr) (cb : Nat), Bf = some ⟨qf, 0, none⟩ ∧ N.funcs = f :: l ∧ qf < wc.heap.size ∧ w4.heap.size ≤ qf ∧ qf ≠ q8 ∧ (0 < N.funcs.length ∧ N.funcs.length ≤ 4) ∧
    (wc.cell? ⟨qf, 0, none⟩ = some (.int .i64 f.name) ∧ wc.cell? ⟨qf, 1, none⟩ = some (.int .i64 f.params) ∧ wc.cell? ⟨qf, 2, none⟩ = some (.slice Al f.locals.length cl) ∧ wc.cell? ⟨qf, 3, none⟩ = some (.slice At f.sites.length ct) ∧ wc.cell? ⟨qf, 4, none⟩ = some (.slice Ab f.body.len cb)) ∧ (∀ o, wc.frozen? ⟨qf, o, none⟩ = false) ∧
    RdS (fun k => k ≠ qf) wc Al f.locals.length 1 (intV f.locals) ∧ RdS (fun k => k ≠ qf) wc At f.sites.length 1 (intV f.sites) ∧ BodyS (fun k => k ≠ qf) wc Ab f.body ∧ f.Fit ∧ 0 < f.locals.length ∧ (-1000000 ≤ f.name ∧ f.name ≤ 1000000 ∧ -1000000 ≤ f.params ∧ f.params ≤ 1000000) ∧ f.body.size ≤ 1000 ∧ f.body.wide ≤ 1000 := by
  have hp := h.made.small.fns
  obtain ⟨f, l, hfl⟩ : ∃ f l, N.funcs = f :: l := by
    cases hN : N.funcs with
    | nil => rw [hN] at hp; simp at hp
    | cons f l => exact ⟨f, l, rfl⟩
  obtain ⟨q, rfl, hq, hb, _, _, Al, cl, At, ct, Ab, cb, r1, r2, r3, hc⟩ := h.fns.at_ 0 hp.1
  have e0 : N.funcs[0]'hp.1 = f := by simp [hfl]
  rw [e0] at r1 r2 r3 hc
  have hm : f ∈ N.funcs := by rw [hfl]; simp
  obtain ⟨_, _, cur, hB⟩ := h.fns.blk q rfl
  have hne : ∀ k, (some k ≠ some q ∧ (w4.heap.size ≤ k ∧ k ≠ q8)) → k ≠ q := fun k hk e => hk.1 (by rw [e])
  refine ⟨q, f, l, Al, cl, At, ct, Ab, cb, rfl, hfl, hq, hb, fun e => ?_, hp, ⟨by simpa using hc 0 _ rfl, by simpa using hc 1 _ rfl, by simpa using hc 2 _ rfl, by simpa using hc 3 _ rfl, by simpa using hc 4 _ rfl⟩, fun o => hB.frozen o, r1.below hne, r2.below hne, r3.kept (fun _ _ _ => rfl) (fun k hk _ => hne k hk), h.made.fit.fns f hm, h.made.locs f hm, h.made.nums f hm, (h.made.small.body f hm).1, (h.made.small.body f hm).2⟩
  subst e
  exact absurd (hB.uniq h.box) (by decide)

/-- One cell of the first function is another one. -/
theorem YI.turn {w4 wc wA : World} {q8 qf : Nat} {N : Md} {Bs Bg Be : Option Addr} {ds dg df de : Nat} {f f' : Fn} {l : List Fn} (h : YI w4 wc q8 N Bs Bg (some ⟨qf, 0, none⟩) Be ds dg df de) (hfl : N.funcs = f :: l) (hb : Below wc.heap.size wc wA) (j : Nat) (hj : j < 5) (u : Value) (cs' : List Value) (hcs : ∀ i v, cs'[i]? = some v → (wA.setCell ⟨qf, j, none⟩ u).cell? ⟨qf, i, none⟩ = some v) (hf : FnS (fun k => k ≠ qf) wA cs' f') (hfit : f'.Fit) : Yz w4 (wA.setCell ⟨qf, j, none⟩ u) q8 := by
  have hp := h.made.small.fns
  obtain ⟨_, hql, cur, hB⟩ := h.fns.blk qf rfl
  have hqb := (h.fns.blk qf rfl).1
  have hne : qf ≠ q8 := fun e => by subst e; exact absurd (hB.uniq h.box) (by decide)
  have hk : ∀ k, k < wc.heap.size → k ≠ qf → (wA.setCell ⟨qf, j, none⟩ u).heap[k]? = wc.heap[k]? := fun k hk hne => (Below.heap_setCell wA _ _ k hne).trans (hb.block k hk)
  have own1 : ∀ {e m c : Nat} {A : Option Addr} {xs : List Value}, e ≠ 40 → wc.ownsRow w4.heap.size e 1 (.slice A m c) m xs → RdS (fun _ => True) (wA.setCell ⟨qf, j, none⟩ u) A m 1 xs := fun he ho => (RdS.own (own_blocks ho (fun k hk' => hk k (own_lt ho k hk') (fun e2 => by subst e2; exact own_ne ho hB he hk')))).below (fun _ _ => trivial)
  have hlen : (f' :: l).length = N.funcs.length := by rw [hfl]; simp
  refine ⟨⟨N.strs, N.globs, f' :: l, N.ents⟩, Bs, Bg, some ⟨qf, 0, none⟩, Be, ds, dg, df, de, ?_, ⟨own1 (by decide) h.strs, own1 (by decide) h.globs, fun _ => ⟨qf, 0, rfl, trivial, fun i hi => ?_⟩, own1 (by decide) h.ents⟩, ⟨h.made.fit.strs, h.made.fit.globs, by dsimp only; rw [hlen]; exact h.made.fit.funcs, h.made.fit.ents, fun g hg => ?_⟩, by simp, ?_⟩
  · dsimp only
    rw [hlen]
    exact (hk q8 h.box.lt (fun e => hne e.symm)).trans h.box
  · cases i with
    | zero =>
      obtain ⟨Al, cl, At, ct, Ab, cb, hcs', r1, r2, r3⟩ := hf
      have hK : Kept (fun k => k ≠ qf) wA (wA.setCell ⟨qf, j, none⟩ u) := fun k hk _ => Below.heap_setCell wA _ _ k hk
      exact ⟨cs', ⟨Al, cl, At, ct, Ab, cb, hcs', r1.kept hK (fun _ _ _ => trivial) (by decide), r2.kept hK (fun _ _ _ => trivial) (by decide), r3.kept hK (fun _ _ _ => trivial)⟩, fun i v hv => by simpa using hcs i v hv⟩
    | succ i =>
      have hi' : i + 1 < N.funcs.length := by rw [← hlen]; exact hi
      obtain ⟨q', hq', _, _, _, _, Al, cl, At, ct, Ab, cb, r1, r2, r3, hc⟩ := h.fns.at_ (i + 1) hi'
      injection hq' with hq'
      injection hq' with hq'
      subst hq'
      have e : (f' :: l)[i + 1] = N.funcs[i + 1] := by simp [hfl]
      have hK : Kept (fun k => some k ≠ some qf ∧ (w4.heap.size ≤ k ∧ k ≠ q8)) wc (wA.setCell ⟨qf, j, none⟩ u) := fun k hk' hlt => hk k hlt (fun e => hk'.1 (by rw [e]))
      rw [e]
      refine ⟨_, ⟨Al, cl, At, ct, Ab, cb, rfl, r1.kept hK (fun _ _ _ => trivial) (by decide), r2.kept hK (fun _ _ _ => trivial) (by decide), r3.kept hK (fun _ _ _ => trivial)⟩, fun o v hv => ?_⟩
      rw [Nat.zero_add]
      have ho : o < 5 := by
        rcases Nat.lt_or_ge o 5 with h | h
        · exact h
        · rw [List.getElem?_eq_none (by simpa using h)] at hv; cases hv
      have hBA : Blk wA qf 40 cur := (hb.block qf hql).trans hB
      have h1 := hc o v hv
      rw [hB.cell] at h1
      rw [(hBA.set_ j u).cell, Array.getElem?_setIfInBounds_ne (by omega)]
      exact h1
  · simp only [List.mem_cons] at hg
    rcases hg with rfl | hg
    · exact hfit
    · exact h.made.fit.fns g (by rw [hfl]; simp [hg])
  · exact Below.set1 (h.bel.trans (hb.mono h.bel.size)) hqb _
/-- The strings are others. -/
theorem YI.names {w4 wc wA : World} {q8 : Nat} {N : Md} {Bs Bg Bf Be : Option Addr} {ds dg df de : Nat} (h : YI w4 wc q8 N Bs Bg Bf Be ds dg df de) (hb : Below wc.heap.size wc wA) (S : List (List UInt8)) (A : Option Addr) (n c : Nat) (hn : n = S.length) (hS : S.length ≤ 1000000) (hown : wA.ownsRow wc.heap.size 9 1 (.slice A n c) n (strV S)) : Yz w4 (wA.setCell ⟨q8, 0, none⟩ (.slice A n c)) q8 := by
  subst hn
  have hq := h.box.lt
  have hk : ∀ k, k < wc.heap.size → k ≠ q8 → (wA.setCell ⟨q8, 0, none⟩ (.slice A S.length c)).heap[k]? = wc.heap[k]? := fun k hk hne => (Below.heap_setCell wA _ _ k hne).trans (hb.block k hk)
  have own1 : ∀ {e m c' : Nat} {A' : Option Addr} {xs : List Value}, e ≠ 30 → wc.ownsRow w4.heap.size e 1 (.slice A' m c') m xs → RdS (fun _ => True) (wA.setCell ⟨q8, 0, none⟩ (.slice A S.length c)) A' m 1 xs := fun he ho => (RdS.own (own_blocks ho (fun k hk' => hk k (own_lt ho k hk') (fun e2 => by subst e2; exact own_ne ho h.box he hk')))).below (fun _ _ => trivial)
  refine ⟨⟨S, N.globs, N.funcs, N.ents⟩, A, Bg, Bf, Be, c, dg, df, de, ?_, ⟨?_, own1 (by decide) h.globs, ?_, own1 (by decide) h.ents⟩, ⟨hS, h.made.fit.globs, h.made.fit.funcs, h.made.fit.ents, h.made.fit.fns⟩, h.made.small.fns.1, Below.set1 (h.bel.trans (hb.mono h.bel.size)) h.qin _⟩
  · exact (h.box.old hb).set_ 0 _
  · exact (RdS.own (own_blocks hown (fun k hk' => Below.heap_setCell wA _ _ k (by have := own_ge hown k hk'; show k ≠ q8; omega)))).below (fun _ _ => trivial)
  · exact (h.fns.kept (X' := fun _ => True) (fun k hk' => hk k (h.fns.blk k hk').2.1 (fun e => by subst e; obtain ⟨_, _, cur, hB⟩ := h.fns.blk _ hk'; exact absurd (hB.uniq h.box) (by decide))) (fun k hk' hlt => hk k hlt hk'.2) (fun _ _ _ => trivial)).fns
end Go.Proofs.Ytpdebnecfknohaa
