
/-
  What the last loop of the reference's Make keeps.
-/
import Derived.Test.YtpdebnecfknohaaMe
namespace Go.Proofs.Ytpdebnecfknohaa
open Go.RowKit
set_option linter.unusedVariables false
set_option maxRecDepth 20000

/-- While the statements are made: W1 is the world ahead, g the functions' row. -/
structure MkA (w W1 wr : World) (g n : Nat) (Vs : List Value) (Ts : List (List St7)) : Prop where
  bel : Below w.heap.size w wr
  size : W1.heap.size ≤ wr.heap.size
  keep : ∀ k, k < W1.heap.size → k ≠ g → wr.heap[k]? = W1.heap[k]?
  gin : w.heap.size ≤ g ∧ g < W1.heap.size
  row : ∃ cur0 cur, Blk W1 g 40 cur0 ∧ Blk wr g 40 cur ∧ n * 5 ≤ cur.size ∧ ∀ i, i < n → cur[i * 5 + 4]? = Vs[i]? ∧ ∀ t, t < 4 → cur[i * 5 + t]? = cur0[i * 5 + t]?
  lens : Vs.length = n ∧ Ts.length = n
  bodies : ∀ (i : Nat) (v : Value) (T : List St7), Vs[i]? = some v → Ts[i]? = some T → BdRow wr W1.heap.size (fun k => W1.heap.size ≤ k ∧ ∀ u ∈ Vs, some k ≠ u.ownBlock) v T
  apart : ∀ (i j : Nat) (v u : Value), i ≠ j → Vs[i]? = some v → Vs[j]? = some u → ∀ k, some k = v.ownBlock → some k ≠ u.ownBlock

section
variable {w W1 wr : World} {g n : Nat} {Vs : List Value} {Ts : List (List St7)}
theorem MkA.blk (h : MkA w W1 wr g n Vs Ts) {i : Nat} {v : Value} (hv : Vs[i]? = some v) : ∀ k, some k = v.ownBlock → W1.heap.size ≤ k ∧ k < wr.heap.size := fun k hk => by
  have hi : i < Ts.length := by have := (List.getElem?_eq_some_iff.1 hv).1; rw [h.lens.2]; rw [h.lens.1] at this; exact this
  obtain ⟨a, b, _⟩ := (h.bodies i v _ hv (List.getElem?_eq_getElem hi)).blk k hk
  exact ⟨a, b⟩
theorem MkA.core (h : MkA w W1 wr g n Vs Ts) {j : Nat} (hj : j < n) {v : Value} {T : List St7} (hv : Vs[j]? = some v) (hT : Ts[j]? = some T) {wA wf : World} {q5 c5 : Nat} (s : St7) (cs : List Value)
    (hbA : Below wr.heap.size wr wA) (hq : some q5 = v.ownBlock ∨ wA.heap.size ≤ q5) (hsz : wA.heap.size ≤ wf.heap.size) (hwf : Below w.heap.size w wf)
    (hkeep : ∀ k, k < wA.heap.size → k ≠ g → some k ≠ v.ownBlock → wf.heap[k]? = wA.heap[k]?)
    (hg : ∀ cur, Blk wA g 40 cur → Blk wf g 40 (cur.setIfInBounds (j * 5 + 4) (.slice (some ⟨q5, 0, none⟩) (T.length + 1) c5)))
    (css : List (List Value)) (h2 : css.length = T.length) (h3 : ∀ i (h : i < T.length), ∃ cs, css[i]? = some cs ∧ StS (fun k => W1.heap.size ≤ k ∧ ∀ u ∈ Vs, some k ≠ u.ownBlock) wr cs T[i])
    (hown : wf.ownsRow W1.heap.size 50 7 (.slice (some ⟨q5, 0, none⟩) (T.length + 1) c5) (T.length + 1) (css.flatten ++ cs))
    (hs : StS (fun k => wr.heap.size ≤ k) wA cs s) :
    MkA w W1 wf g n (Vs.set j (.slice (some ⟨q5, 0, none⟩) (T.length + 1) c5)) (Ts.set j (T ++ [s])) := by
  obtain ⟨hl1, hl2⟩ := h.lens
  have hs1 := hbA.size
  have hs0 := h.size
  have hgi := h.gin
  have hvb := h.blk hv
  have hmem : ∀ u ∈ Vs, ∀ k, some k = u.ownBlock → W1.heap.size ≤ k ∧ k < wr.heap.size := fun u hu k hk => by
    obtain ⟨i, hi, e⟩ := List.mem_iff_getElem.1 hu
    exact h.blk (i := i) (by rw [List.getElem?_eq_getElem hi, e]) k hk
  have kq : ∀ k, k < wr.heap.size → k ≠ g → some k ≠ v.ownBlock → wf.heap[k]? = wr.heap[k]? := fun k h1 h2 h3 => (hkeep k (by omega) h2 h3).trans (hbA.block k h1)
  have hX : ∀ k, (W1.heap.size ≤ k ∧ ∀ u ∈ Vs, some k ≠ u.ownBlock) → k < wr.heap.size → (W1.heap.size ≤ k ∧ ∀ u ∈ Vs.set j (.slice (some ⟨q5, 0, none⟩) (T.length + 1) c5), some k ≠ u.ownBlock) := fun k hk hlt => by
    refine ⟨hk.1, fun u hu => ?_⟩
    rcases List.mem_or_eq_of_mem_set hu with hu | rfl
    · exact hk.2 u hu
    · intro e
      have e : k = q5 := by simpa [Value.ownBlock] using e
      subst e
      rcases hq with hq | hq
      · exact hk.2 v (List.mem_of_getElem? hv) hq
      · omega
  have hXk : Kept (fun k => W1.heap.size ≤ k ∧ ∀ u ∈ Vs, some k ≠ u.ownBlock) wr wf := fun k hk hlt => kq k hlt (by have := hk.1; omega) (hk.2 v (List.mem_of_getElem? hv))
  refine ⟨hwf, by omega, fun k hk hkg => ?_, hgi, ?_, ⟨by simp [hl1], by simp [hl2]⟩, fun i u T' hu hT' => ?_, fun i i' u u' hne hu hu' k hk => ?_⟩
  · rw [kq k (by omega) hkg (fun e => by have := hvb k e; omega)]
    exact h.keep k hk hkg
  · obtain ⟨cur0, cur, b0, b1, hcs, hc⟩ := h.row
    refine ⟨cur0, _, b0, hg cur (b1.old hbA), by simpa using hcs, fun i hi => ?_⟩
    obtain ⟨c1, c2⟩ := hc i hi
    refine ⟨?_, fun t ht => ?_⟩
    · by_cases hij : i = j
      · subst hij
        rw [Array.getElem?_setIfInBounds_self_of_lt (by omega), List.getElem?_set_self (by omega)]
      · rw [Array.getElem?_setIfInBounds_ne (by omega), List.getElem?_set_ne (by omega)]
        exact c1
    · rw [Array.getElem?_setIfInBounds_ne (by omega)]
      exact c2 t ht
  · by_cases hij : i = j
    · subst hij
      rw [List.getElem?_set_self (by omega)] at hu hT'
      injection hu with hu
      injection hT' with hT'
      subst hu; subst hT'
      refine ⟨css ++ [cs], ?_, by simp [h2], fun i' hi' => ?_⟩
      · rw [List.flatten_append]
        simpa using hown
      · by_cases hlt : i' < T.length
        · obtain ⟨c', e, hf⟩ := h3 i' hlt
          refine ⟨c', by rw [List.getElem?_append_left (by omega)]; exact e, ?_⟩
          rw [List.getElem_append_left hlt]
          exact hf.kept hXk hX
        · obtain rfl : i' = T.length := by simp at hi'; omega
          refine ⟨cs, by rw [List.getElem?_append_right (by omega), h2, Nat.sub_self]; rfl, ?_⟩
          rw [List.getElem_append_right (Nat.le_refl _)]
          simp only [Nat.sub_self, List.getElem_cons_zero]
          refine hs.kept (fun k hk hlt => hkeep k hlt (by omega) (fun e => by have := hvb k e; omega)) (fun k hk hlt => ⟨by omega, fun u hu e => ?_⟩)
          rcases List.mem_or_eq_of_mem_set hu with hu | rfl
          · have := hmem u hu k e; omega
          · have e : k = q5 := by simpa [Value.ownBlock] using e
            subst e
            rcases hq with hq | hq
            · have := hvb k hq; omega
            · omega
    · rw [List.getElem?_set_ne (by omega)] at hu hT'
      refine (h.bodies i u T' hu hT').kept (fun k hk => ?_) hXk hX
      have := h.blk hu k hk
      exact kq k this.2 (by omega) (h.apart i j u v hij hu hv k hk)
  · have hnew : ∀ (i2 : Nat) (u2 : Value), i2 ≠ j → Vs[i2]? = some u2 → ∀ k2, some k2 = (Value.slice (some ⟨q5, 0, none⟩) (T.length + 1) c5).ownBlock → some k2 ≠ u2.ownBlock := fun i2 u2 hn2 hu2 k2 hk2 e2 => by
      have hk3 : q5 = k2 := by have : k2 = q5 := by simpa [Value.ownBlock] using hk2
                               exact this.symm
      subst hk3
      rcases hq with hq | hq
      · exact h.apart j i2 v u2 (fun e => hn2 e.symm) hv hu2 q5 hq e2
      · have := h.blk hu2 q5 e2; omega
    by_cases hij : i = j
    · subst hij
      rw [List.getElem?_set_self (by omega)] at hu
      injection hu with hu
      subst hu
      rw [List.getElem?_set_ne hne] at hu'
      exact hnew i' u' (fun e => hne e.symm) hu' k hk
    · rw [List.getElem?_set_ne (by omega)] at hu
      by_cases hij' : i' = j
      · subst hij'
        rw [List.getElem?_set_self (by omega)] at hu'
        injection hu' with hu'
        subst hu'
        intro e
        exact hnew i u hij hu k e hk
      · rw [List.getElem?_set_ne (by omega)] at hu'
        exact h.apart i i' u u' hne hu hu' k hk
end
/-- A statement more. -/
theorem push46 (base : Nat) (v : Value) (n : Nat) (xs us : List Value) (w : World) (h : w.ownsRow base 50 7 v n xs) (hl : n ≤ 100000) (hb : base ≤ w.heap.size) (z : Nat) (hlen : us.length = 7) (hone : ∀ u ∈ us, u.oneCell' = true) (hz : ∀ j u, us[j]? = some u → w.cell? ⟨z, j, none⟩ = some u) :
    ∃ q c w', (Builtin.append_ #[38, 38] 38 #[v, .slice (some ⟨z, 0, none⟩) 1 1]).run Try.prog w = .ok (.slice (some ⟨q, 0, none⟩) (n + 1) c) w' ∧ w'.ownsRow base 50 7 (.slice (some ⟨q, 0, none⟩) (n + 1) c) (n + 1) (xs ++ us) ∧ w.grownBy w' v.ownBlock ∧ (some q = v.ownBlock ∨ q = w.heap.size) := by
  obtain ⟨i0, hi0, hz0, hz1, hz2⟩ := info_parts info50
  obtain ⟨v5, w5, hr5, hO5, hg5, _, hat⟩ := run_append_own_at (P := Try.prog) w base 38 38 50 i0 (.agg #[.int .u8 0, .int .u8 0, .int .i64 0, .int .u8 0, .int .i64 0, .slice none 0 0, .slice none 0 0]) 7 88 Try.underlying38 hi0 hz0 hz1 hz2 rfl (by decide) v n _ h ⟨z, 0, none⟩ 1 1 us (by omega) (fun j u hj => by rw [Go.WideShapes.add_plain, Nat.zero_add]; exact hz j u hj) hone (by unfold maxLen; omega) (by omega) hb
  obtain ⟨q5, c5, rfl⟩ : ∃ q5 c5, v5 = .slice (some ⟨q5, 0, none⟩) (n + 1) c5 := by
    rcases hO5.2 with ⟨_, h1⟩ | ⟨k, cap, cur, hv, _⟩
    · omega
    · exact ⟨k, cap, hv⟩
  refine ⟨q5, c5, w5, hr5, hO5, hg5, ?_⟩
  rcases hat with h | h
  · exact .inl h
  · refine .inr ?_
    have : some q5 = some w.heap.size := h
    injection this

theorem flat_get (m : Nat) : ∀ (css : List (List Value)) (i : Nat) (c : List Value) (t : Nat), (∀ c ∈ css, c.length = m) → css[i]? = some c → t < m → css.flatten[i * m + t]? = c[t]?
  | [], i, c, t, _, h, _ => by simp at h
  | d :: css, 0, c, t, hm, h, ht => by
    have e : d = c := by simpa using h
    subst e
    rw [List.flatten_cons, Nat.zero_mul, Nat.zero_add, List.getElem?_append_left (by rw [hm d (by simp)]; exact ht)]
  | d :: css, i + 1, c, t, hm, h, ht => by
    have h' : css[i]? = some c := by simpa using h
    have hd := hm d (by simp)
    rw [List.flatten_cons, List.getElem?_append_right (by rw [hd, Nat.succ_mul]; omega), hd, show (i + 1) * m + t - m = i * m + t from by rw [Nat.succ_mul]; omega]
    exact flat_get m css i c t (fun c hc => hm c (by simp [hc])) h' ht
section
variable {w W1 wr : World} {g n : Nat} {Vs : List Value} {Ts : List (List St7)}
/-- A function, while the statements are made. -/
theorem MkA.fn (h : MkA w W1 wr g n Vs Ts) {base cf : Nat} {X : Nat → Prop} {L : List Fn} (hF : FnRow W1 base X (.slice (some ⟨g, 0, none⟩) n cf) L) (hL : L.length = n) (i : Nat) (hi : i < L.length) :
    ∃ Al cl At ct v, Vs[i]? = some v ∧ (wr.cell? ⟨g, i * 5, none⟩ = some (.int .i64 L[i].name) ∧ wr.cell? ⟨g, i * 5 + 1, none⟩ = some (.int .i64 L[i].params) ∧ wr.cell? ⟨g, i * 5 + 2, none⟩ = some (.slice Al L[i].locals.length cl) ∧ wr.cell? ⟨g, i * 5 + 3, none⟩ = some (.slice At L[i].sites.length ct) ∧ wr.cell? ⟨g, i * 5 + 4, none⟩ = some v) ∧ RdS (fun k => k ≠ g ∧ X k) W1 Al L[i].locals.length 1 (intV L[i].locals) ∧ RdS (fun k => k ≠ g ∧ X k) W1 At L[i].sites.length 1 (intV L[i].sites) := by
  obtain ⟨css, h1, h2, h3⟩ := hF.own
  obtain ⟨cur0, cur, b0, b1, hcs, hc⟩ := h.row
  have hall : ∀ c ∈ css, c.length = 5 := fun c hc => by
    obtain ⟨k, hk, e⟩ := List.mem_iff_getElem.1 hc
    obtain ⟨cs, e2, Al, cl, As, cs', Ab, cb, e3, _⟩ := h3 k (by omega)
    rw [List.getElem?_eq_getElem hk, e] at e2
    injection e2 with e2
    rw [e2, e3]; rfl
  obtain ⟨cs, e, Al, cl, At, ct, Ab, cb, hcs', r1, r2, _⟩ := h3 i hi
  have hin : i < n := by omega
  obtain ⟨c1, c2⟩ := hc i hin
  have hv : i < Vs.length := by rw [h.lens.1]; exact hin
  have get : ∀ t, t < 4 → wr.cell? ⟨g, i * 5 + t, none⟩ = cs[t]? := fun t ht => by
    rw [b1.cell, c2 t ht, ← b0.cell, ← flat_get 5 css i cs t hall e (by omega)]
    rw [hL] at h1
    exact h1.cellAt _ (by omega)
  have w1 : ∀ {A : Option Addr} {m : Nat} {xs : List Value}, RdS (fun k => some k ≠ (Value.slice (some ⟨g, 0, none⟩) n cf).ownBlock ∧ X k) W1 A m 1 xs → RdS (fun k => k ≠ g ∧ X k) W1 A m 1 xs := fun hr => hr.below (fun k hk => ⟨fun e => hk.1 (by rw [e]; rfl), hk.2⟩)
  subst hcs'
  refine ⟨Al, cl, At, ct, Vs[i], List.getElem?_eq_getElem hv, ⟨get 0 (by omega), get 1 (by omega), get 2 (by omega), get 3 (by omega), ?_⟩, w1 r1, w1 r2⟩
  rw [b1.cell, c1, List.getElem?_eq_getElem hv]
theorem MkA.push42 (h : MkA w W1 wr g n Vs Ts) {j o nb : Nat} (hj : j < n) (ho : o = j * 5 + 4) {v : Value} {T : List St7} (hv : Vs[j]? = some v) (hT : Ts[j]? = some T) (hnb : T.length = nb) (hl : nb ≤ 1000) (s : St7) (Aa A : Option Addr) (ca c na nS : Nat) (hna : na = s.xs.length) (hnS : nS = s.sub.len) {w3 : World} (hb3 : Below wr.heap.size wr w3) (hA : ArgsS (fun k => wr.heap.size ≤ k) w3 (.slice Aa na ca) s.xs) (hB : BodyS (fun k => wr.heap.size ≤ k) w3 A s.sub) :
    ∃ q5 c5 w5, (Builtin.append_ #[38, 38] 38 #[v, .slice (some ⟨w3.heap.size, 0, none⟩) 1 1]).run Try.prog (w3.alloc (.cells #[.int .u8 s.k, .int .u8 s.a.1, .int .i64 s.a.2, .int .u8 s.b.1, .int .i64 s.b.2, .slice Aa na ca, .slice A nS c] 50)) = .ok (.slice (some ⟨q5, 0, none⟩) (nb + 1) c5) w5 ∧ w5.cell? ⟨g, o, none⟩ = some v ∧ w5.frozen? ⟨g, o, none⟩ = false ∧
      Hid (MkA w W1 (w5.setCell ⟨g, o, none⟩ (.slice (some ⟨q5, 0, none⟩) (nb + 1) c5)) g n (Vs.set j (.slice (some ⟨q5, 0, none⟩) (nb + 1) c5)) (Ts.set j (T ++ [s]))) := by
  subst ho; subst hnb; subst hna; subst hnS
  obtain ⟨css, h1, h2, h3⟩ := (h.bodies j v T hv hT).own
  have hs0 := h.size
  have hs3 := hb3.size
  have hgi := h.gin
  have hvb := h.blk hv
  obtain ⟨cur0, cur, b0, b1, hcs, hc⟩ := h.row
  have b3 : Blk (w3.alloc (.cells #[.int .u8 s.k, .int .u8 s.a.1, .int .i64 s.a.2, .int .u8 s.b.1, .int .i64 s.b.2, .slice Aa s.xs.length ca, .slice A s.sub.len c] 50)) g 40 cur := (b1.old hb3).alloc _
  have hz : ∀ j u, ([.int .u8 s.k, .int .u8 s.a.1, .int .i64 s.a.2, .int .u8 s.b.1, .int .i64 s.b.2, .slice Aa s.xs.length ca, .slice A s.sub.len c] : List Value)[j]? = some u → (w3.alloc (.cells #[.int .u8 s.k, .int .u8 s.a.1, .int .i64 s.a.2, .int .u8 s.b.1, .int .i64 s.b.2, .slice Aa s.xs.length ca, .slice A s.sub.len c] 50)).cell? ⟨w3.heap.size, j, none⟩ = some u := fun j u hj => by
    rw [(Blk.new w3 50 _).cell]; simpa using hj
  have hbA : Below wr.heap.size wr (w3.alloc (.cells #[.int .u8 s.k, .int .u8 s.a.1, .int .i64 s.a.2, .int .u8 s.b.1, .int .i64 s.b.2, .slice Aa s.xs.length ca, .slice A s.sub.len c] 50)) := hb3.alloc hs3 _
  have hsA : StS (fun k => wr.heap.size ≤ k) (w3.alloc (.cells #[.int .u8 s.k, .int .u8 s.a.1, .int .i64 s.a.2, .int .u8 s.b.1, .int .i64 s.b.2, .slice Aa s.xs.length ca, .slice A s.sub.len c] 50)) [.int .u8 s.k, .int .u8 s.a.1, .int .i64 s.a.2, .int .u8 s.b.1, .int .i64 s.b.2, .slice Aa s.xs.length ca, .slice A s.sub.len c] s :=
    ⟨_, A, c, rfl, hA.kept (fun k _ hk => heap_alloc_old _ _ hk) (fun _ h _ => h), hB.kept (fun k _ hk => heap_alloc_old _ _ hk) (fun _ h _ => h)⟩
  generalize w3.alloc (.cells #[.int .u8 s.k, .int .u8 s.a.1, .int .i64 s.a.2, .int .u8 s.b.1, .int .i64 s.b.2, .slice Aa s.xs.length ca, .slice A s.sub.len c] 50) = wA at *
  have hsA2 := hbA.size
  obtain ⟨q5, c5, w5, hr, hO, hg, hat⟩ := push46 W1.heap.size v T.length css.flatten _ wA (own_old h1 hbA) (by omega) (by omega) w3.heap.size rfl (by intro u hu; simp at hu; rcases hu with rfl | rfl | rfl | rfl | rfl | rfl | rfl <;> rfl) hz
  have hgv : some g ≠ v.ownBlock := fun e => by have := hvb g e; omega
  have b5 : Blk w5 g 40 cur := b3.grown hg hgv
  have hq : some q5 = v.ownBlock ∨ wA.heap.size ≤ q5 := by rcases hat with h | h; exact .inl h; exact .inr (by omega)
  have hqg : q5 ≠ g := fun e => by subst e; rcases hq with hq | hq; exact hgv hq; omega
  refine ⟨q5, c5, w5, hr, ?_, b5.frozen _, ?_⟩
  · rw [b5.cell, (hc j hj).1, hv]
  · refine h.core hj hv hT s _ hbA hq (by have := hg.size; simp [World.setCell]; omega) ?_ (fun k hk hkg hkv => ?_) (fun cur' hc' => ?_) css h2 h3 ?_ hsA
    · exact Below.set1 ((h.bel.trans (hbA.mono h.bel.size)).grown hg (by have := h.bel.size; omega) (fun k hk => by have := hvb k hk.symm; omega)) hgi.1 _
    · rw [Below.heap_setCell w5 ⟨g, j * 5 + 4, none⟩ _ k hkg, hg.block k hk hkv]
    · exact (hc'.grown hg hgv).set_ _ _
    · exact own_blocks hO (fun k hk => Below.heap_setCell w5 ⟨g, j * 5 + 4, none⟩ _ k (fun e => by
        have e1 : k = q5 := by simpa [Value.ownBlock] using hk
        have e2 : k = g := e
        omega))
end
section
variable {w wr : World} {D Z : Array Value} {B3 : Nat} {S : List (List UInt8)} {gl : List Int} {L : List Fn} {En : List Int} {As : Option Addr} {ns cs : Nat} {Ag : Option Addr} {ng cg : Nat} {Af : Option Addr} {i cf : Nat} {Ae : Option Addr} {ne ce : Nat}
theorem MkE.start (h : MkE w wr D Z B3 S gl L En As ns cs Ag ng cg Af i cf Ae ne ce) (hi : 0 < i) : ∃ g, Af = some ⟨g, 0, none⟩ ∧ w.heap.size + 1 + 1 + 1 ≤ g ∧ MkA w wr wr g i (List.replicate i (.slice none 0 0)) (List.replicate i []) := by
  obtain ⟨css, h1, h2, h3⟩ := h.fr.own
  have hL := h.lens.2.2.1
  rcases h1.2 with ⟨_, h0⟩ | ⟨q, cap, cur, e, hq, hh, hnc, _, hcs, htake⟩
  · omega
  · injection e with e1 e2 e3
    subst e1
    refine ⟨q, rfl, hq, h.bel, Nat.le_refl _, fun _ _ _ => rfl, ⟨by omega, heap_ltM hh⟩, ⟨cur, cur, hh, hh, by rw [hcs]; exact Nat.mul_le_mul (by omega) (Nat.le_refl _), fun t ht => ⟨?_, fun _ _ => rfl⟩⟩, ⟨by simp, by simp⟩, fun t v T hv hT => ?_, fun t t' v u hne hv hu k hk => ?_⟩
    · have := h.nob q rfl t ht
      rw [Blk.cell (show Blk wr q 40 cur from hh)] at this
      rw [this, List.getElem?_replicate, if_pos ht]
    · rw [List.getElem?_replicate] at hv hT
      split at hv
      · rename_i hlt
        rw [if_pos hlt] at hT
        injection hv with hv
        injection hT with hT
        subst hv; subst hT
        exact BdRow.nil _ _ _
      · cases hv
    · rw [List.getElem?_replicate] at hv
      split at hv
      · injection hv with hv
        subst hv
        simp [Value.ownBlock] at hk
      · cases hv
end
end Go.Proofs.Ytpdebnecfknohaa
