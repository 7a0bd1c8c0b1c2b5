
/-
  Rows of items (a statement as it stands), and one item more.
-/
import Derived.Test.YtpdebnecfknohaaFp
namespace Go.Proofs.Ytpdebnecfknohaa
open Go.RowKit
set_option linter.unusedVariables false
set_option maxRecDepth 20000

/-- A statement as it stands. -/
structure It where
  deep : Nat
  k : Int
  a1 : Int
  a2 : Int
  b1 : Int
  b2 : Int
  xs : List (Int × Int)
  sub : Bd
/-- All statements that are listed, in order. -/
def Bd.flat : Nat → Bd → List It
  | _, .nil => []
  | d, .cons k a1 a2 b1 b2 xs sub rest => ⟨d, k, a1, a2, b1, b2, xs, sub⟩ :: ((if k = 7 ∧ d < 1000 then sub.flat (d + 1) else []) ++ rest.flat d)
theorem Bd.flat_len : ∀ (t : Bd) (d : Nat), (t.flat d).length = t.cnt d
  | .nil, _ => rfl
  | .cons k a1 a2 b1 b2 xs sub rest, d => by
    have h1 := Bd.flat_len sub (d + 1)
    have h2 := Bd.flat_len rest d
    simp only [Bd.flat, Bd.cnt, List.length_cons, List.length_append]
    split
    · omega
    · simp; omega
/-- The cells of an item. -/
def ItS (S : Nat → Prop) (w : World) (i : Nat) (cs : List Value) (x : It) : Prop := ∃ Aa ca A c, cs = [.int .i64 (i : Int), .int .i64 (x.deep : Int), .int .u8 x.k, .int .u8 x.a1, .int .i64 x.a2, .int .u8 x.b1, .int .i64 x.b2, .slice Aa x.xs.length ca, .slice A x.sub.len c] ∧ ArgsS S w (.slice Aa x.xs.length ca) x.xs ∧ BodyS S w A x.sub
theorem ItS.kept {S S' : Nat → Prop} {w w' : World} {i : Nat} {cs : List Value} {x : It} (h : ItS S w i cs x) (hk : Kept S w w') (hS : ∀ k, S k → k < w.heap.size → S' k) : ItS S' w' i cs x := by
  obtain ⟨Aa, ca, A, c, rfl, ha, hb⟩ := h
  exact ⟨Aa, ca, A, c, rfl, ha.kept hk hS, hb.kept hk hS⟩
/-- Items in a row of the call's own, whose other blocks are not that row's. -/
structure ItRow (e : Nat) (w : World) (base : Nat) (X : Nat → Prop) (v : Value) (L : List It) : Prop where
  own : ∃ css : List (List Value), w.ownsRow base e 9 v L.length css.flatten ∧ css.length = L.length ∧ ∀ i (h : i < L.length), ∃ cs, css[i]? = some cs ∧ ItS (fun k => some k ≠ v.ownBlock ∧ X k) w i cs L[i]
theorem ItRow.nil (e : Nat) (w : World) (base : Nat) (X : Nat → Prop) : ItRow e w base X (.slice none 0 0) [] := ⟨[], ⟨rfl, .inl ⟨rfl, rfl⟩⟩, rfl, fun i h => by simp at h⟩
theorem ItRow.blk {e : Nat} {w : World} {base : Nat} {X : Nat → Prop} {v : Value} {L : List It} (h : ItRow e w base X v L) : ∀ k, some k = v.ownBlock → base ≤ k ∧ k < w.heap.size ∧ ∃ cur, Blk w k e cur := fun k hk => by
  obtain ⟨css, h1, _, _⟩ := h.own
  rcases h1.2 with ⟨rfl, _⟩ | ⟨q, cap, cur, rfl, hq, hh, _⟩
  · simp [Value.ownBlock] at hk
  · have : k = q := by simpa [Value.ownBlock] using hk
    subst this
    exact ⟨hq, heap_ltM hh, cur, hh⟩
theorem ItRow.kept {e : Nat} {w w' : World} {base : Nat} {X X' : Nat → Prop} {v : Value} {L : List It} (h : ItRow e w base X v L) (hv : ∀ k, some k = v.ownBlock → w'.heap[k]? = w.heap[k]?) (hk : ∀ k, X k → k < w.heap.size → w'.heap[k]? = w.heap[k]?) (hX : ∀ k, X k → k < w.heap.size → X' k) : ItRow e w' base X' v L := by
  obtain ⟨css, h1, h2, h3⟩ := h.own
  refine ⟨css, own_blocks h1 hv, h2, fun i hi => ?_⟩
  obtain ⟨cs, e, hf⟩ := h3 i hi
  exact ⟨cs, e, hf.kept (fun k hk' hlt => hk k hk'.2 hlt) (fun k hk' hlt => ⟨hk'.1, hX k hk'.2 hlt⟩)⟩
theorem ItRow.old {e : Nat} {w w' : World} {base : Nat} {X : Nat → Prop} {v : Value} {L : List It} (h : ItRow e w base X v L) (hb : Below w.heap.size w w') : ItRow e w' base X v L :=
  h.kept (fun k hk => hb.block k (h.blk k hk).2.1) (fun k _ hlt => hb.block k hlt) (fun _ h _ => h)
theorem ItRow.slice {e : Nat} {w : World} {base : Nat} {X : Nat → Prop} {v : Value} {L : List It} (h : ItRow e w base X v L) : ∃ A c, v = .slice A L.length c := by
  obtain ⟨css, h1, _, _⟩ := h.own
  exact own_slice h1
theorem ItS.len {S : Nat → Prop} {w : World} {i : Nat} {cs : List Value} {x : It} (h : ItS S w i cs x) : cs.length = 9 := by
  obtain ⟨Aa, ca, A, c, rfl, ha, hb⟩ := h
  rfl
/-- What is read of one item. -/
theorem ItRow.at_ {e : Nat} {w : World} {base : Nat} {X : Nat → Prop} {A : Option Addr} {n c : Nat} {L : List It} (h : ItRow e w base X (.slice A n c) L) (i : Nat) (hi : i < L.length) : ∃ q, A = some ⟨q, 0, none⟩ ∧ q < w.heap.size ∧ n ≤ c ∧ ∃ Aa ca Ab cb, ArgsAt w (.slice Aa L[i].xs.length ca) L[i].xs ∧ BodyV w Ab L[i].sub ∧
    ∀ j u, ([.int .i64 (i : Int), .int .i64 (L[i].deep : Int), .int .u8 L[i].k, .int .u8 L[i].a1, .int .i64 L[i].a2, .int .u8 L[i].b1, .int .i64 L[i].b2, .slice Aa L[i].xs.length ca, .slice Ab L[i].sub.len cb] : List Value)[j]? = some u → w.cell? ⟨q, i * 9 + j, none⟩ = some u := by
  obtain ⟨css, h1, h2, h3⟩ := h.own
  obtain ⟨A', c', hv⟩ := own_slice h1
  injection hv with hv1 hv2 hv3
  subst hv1 hv2 hv3
  obtain ⟨q, cap, hv, _, hq⟩ := own_formM h1 (by omega)
  injection hv with hv1 _ hv3
  subst hv1 hv3
  obtain ⟨cs, hcs, Aa, ca, Ab, cb, rfl, ha, hb⟩ := h3 i hi
  refine ⟨q, rfl, hq, ?_, Aa, ca, Ab, cb, ha.at_, hb.at_, fun j u hj => ?_⟩
  · rcases h1.2 with ⟨hv, _⟩ | ⟨k, cap', cur, hv, _, _, h5, _⟩
    · cases hv
    · injection hv with _ _ hv; subst hv; exact h5
  · have hj9 : j < 9 := by
      rcases Nat.lt_or_ge j 9 with h | h
      · exact h
      · rw [List.getElem?_eq_none (by simpa using h)] at hj; cases hj
    have := own_cellsM h1 (i * 9 + j) u (by
      have hall : ∀ c ∈ css, c.length = 9 := fun c hc => by
        obtain ⟨m, hm, rfl⟩ := List.mem_iff_getElem.1 hc
        obtain ⟨c2, hc2, hit⟩ := h3 m (by omega)
        rw [List.getElem?_eq_getElem hm] at hc2
        injection hc2 with hc2
        rw [hc2]; exact hit.len
      have flat_get : ∀ (l : List (List Value)) (i : Nat) (r : List Value), (∀ c ∈ l, c.length = 9) → l[i]? = some r → ∀ j, j < 9 → l.flatten[i * 9 + j]? = r[j]? := by
        intro l
        induction l with
        | nil => intro i r _ h; simp at h
        | cons x l ih =>
          intro i r hl hi j hj
          have hx : x.length = 9 := hl x (by simp)
          cases i with
          | zero =>
            simp at hi; subst hi
            rw [List.flatten_cons, List.getElem?_append_left (by omega)]; simp
          | succ i =>
            rw [List.flatten_cons, List.getElem?_append_right (by omega), hx, show (i + 1) * 9 + j - 9 = i * 9 + j from by omega]
            exact ih i r (fun c hc => hl c (by simp [hc])) (by simpa using hi) j hj
      rw [flat_get css i _ hall hcs j hj9]
      exact hj)
    rwa [Nat.zero_add] at this

/-- An item more. -/
theorem push9 (e t : Nat) (z : Value) (ht : Try.prog.underlying t = some (.slice e)) (hinfo : (Try.prog.info? e).map (fun i => (i.zero, i.size, i.bytes)) = some (some z, 9, 104)) (hz : z.cells.size = 9)
    (base : Nat) (X : Nat → Prop) (v : Value) (L : List It) (x : It) (Aa A : Option Addr) (ca c n : Nat) (hn : n = L.length) (w : World) (h : ItRow e w base X v L) (hl : L.length ≤ 1000000000) (hb : base ≤ w.heap.size) (ha : ArgsS (fun k => some k ≠ v.ownBlock ∧ X k) w (.slice Aa x.xs.length ca) x.xs) (hbd : BodyS (fun k => some k ≠ v.ownBlock ∧ X k) w A x.sub) :
    ∃ q c' w', (Builtin.append_ #[t, t] t #[v, .slice (some ⟨w.heap.size, 0, none⟩) 1 1]).run Try.prog (w.alloc (.cells #[.int .i64 (n : Int), .int .i64 (x.deep : Int), .int .u8 x.k, .int .u8 x.a1, .int .i64 x.a2, .int .u8 x.b1, .int .i64 x.b2, .slice Aa x.xs.length ca, .slice A x.sub.len c] e)) = .ok (.slice (some ⟨q, 0, none⟩) (n + 1) c') w' ∧
      ItRow e w' base X (.slice (some ⟨q, 0, none⟩) (n + 1) c') (L ++ [x]) ∧ w.heap.size ≤ w'.heap.size ∧ (∀ k, k < w.heap.size → some k ≠ v.ownBlock → w'.heap[k]? = w.heap[k]?) ∧ (some q = v.ownBlock ∨ w.heap.size ≤ q) ∧ (∀ B a, Below B a w → B ≤ base → B ≤ w.heap.size → Below B a w') := by
  subst hn
  obtain ⟨i0, hi0, hz0, hz1, hz2⟩ := info_parts hinfo
  obtain ⟨css, h1, h2, h3⟩ := h.own
  obtain ⟨cs, hcs⟩ : ∃ cs : List Value, cs = [.int .i64 (L.length : Int), .int .i64 (x.deep : Int), .int .u8 x.k, .int .u8 x.a1, .int .i64 x.a2, .int .u8 x.b1, .int .i64 x.b2, .slice Aa x.xs.length ca, .slice A x.sub.len c] := ⟨_, rfl⟩
  have hc : ∀ j u, cs[j]? = some u → (w.alloc (.cells cs.toArray e)).cell? ((⟨w.heap.size, 0, none⟩ : Addr).add j) = some u := by
    intro j u hj
    rw [Go.WideShapes.add_plain, cell_of_row _ w.heap.size _ _ e (0, 0) (heap_alloc_new w _), Nat.zero_add]
    simpa using hj
  have hone : ∀ u ∈ cs, u.oneCell' = true := by
    intro u hu; rw [hcs] at hu; simp at hu; rcases hu with rfl | rfl | rfl | rfl | rfl | rfl | rfl | rfl | rfl <;> rfl
  have hlen : cs.length = 1 * 9 := by rw [hcs]; rfl
  obtain ⟨v5, w5, hr5, hO5, hg5, _, hat⟩ := run_append_own_at (P := Try.prog) (w.alloc (.cells cs.toArray e)) base t t e i0 z 9 104 ht hi0 hz0 hz1 hz2 hz (by decide) v L.length _ (h1.alloc _) ⟨w.heap.size, 0, none⟩ 1 1 cs hlen hc hone (by unfold maxLen; omega) (by omega) (by simp; omega)
  obtain ⟨q5, c5, rfl⟩ : ∃ q5 c5, v5 = .slice (some ⟨q5, 0, none⟩) (L.length + 1) c5 := by
    rcases hO5.2 with ⟨_, h1⟩ | ⟨k, cap, cur, hv, _⟩
    · omega
    · exact ⟨k, cap, hv⟩
  have hq : some q5 = v.ownBlock ∨ w.heap.size + 1 = q5 := by
    rcases hat with h | h
    · exact .inl h
    · refine .inr ?_
      have : some q5 = some (w.heap.size + 1) := by rw [show (some q5 : Option Nat) = (Value.slice (some ⟨q5, 0, none⟩) (L.length + 1) c5).ownBlock from rfl, h]; simp
      injection this with this; exact this.symm
  have hsz := hg5.size
  have hkeep : ∀ k, k < w.heap.size → some k ≠ v.ownBlock → w5.heap[k]? = w.heap[k]? := fun k hk hne => by rw [hg5.block k (by simp; omega) hne, heap_alloc_old _ _ hk]
  have hX : ∀ k, (some k ≠ v.ownBlock ∧ X k) → k < w.heap.size → (some k ≠ (Value.slice (some ⟨q5, 0, none⟩) (L.length + 1) c5).ownBlock ∧ X k) := fun k hk hlt => ⟨fun e0 => by
    have e1 : k = q5 := by simpa [Value.ownBlock] using e0
    subst e1
    rcases hq with h | h
    · exact hk.1 h
    · omega, hk.2⟩
  have hK : Kept (fun k => some k ≠ v.ownBlock ∧ X k) w w5 := fun k hk hlt => hkeep k hlt hk.1
  refine ⟨q5, c5, w5, by rw [hcs] at hr5; exact hr5, ⟨css ++ [cs], ?_, by simp [h2], fun i hi => ?_⟩, by simp at hsz; omega, hkeep, ?_, fun B a hBa hB1 hB2 => ?_⟩
  · rw [show (L ++ [x]).length = L.length + 1 from by simp, List.flatten_append]
    simpa using hO5
  · by_cases hi' : i < L.length
    · obtain ⟨c1, e1, hf⟩ := h3 i hi'
      refine ⟨c1, by rw [List.getElem?_append_left (by omega)]; exact e1, ?_⟩
      rw [List.getElem_append_left hi']
      exact hf.kept hK hX
    · have hi2 : i = L.length := by simp at hi; omega
      subst hi2
      refine ⟨cs, by rw [List.getElem?_append_right (by omega), h2]; simp, ?_⟩
      have e1 : (L ++ [x])[L.length] = x := by simp
      rw [e1]
      exact ⟨Aa, ca, A, c, hcs, ha.kept hK hX, hbd.kept hK hX⟩
  · rcases hq with h | h
    · exact .inl h
    · exact .inr (by omega)
  · exact (hBa.alloc hB2 _).grown hg5 (by simp; omega) (fun k hk => Nat.le_trans hB1 (h.blk k hk.symm).1)
end Go.Proofs.Ytpdebnecfknohaa
