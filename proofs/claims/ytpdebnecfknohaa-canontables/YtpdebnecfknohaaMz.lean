
/-
  How great the bodies are that Make makes; what is read of one function in a row.
-/
import Derived.Test.YtpdebnecfknohaaMh
import Derived.Test.YtpdebnecfknohaaRa
import Derived.Test.YtpdebnecfknohaaBw
namespace Go.Proofs.Ytpdebnecfknohaa
open Go.RowKit
set_option linter.unusedVariables false
set_option maxRecDepth 20000

def St7.small (s : St7) : Prop := s.xs.length ≤ 3 ∧ s.sub.size ≤ 2 ∧ s.sub.wide ≤ 3
theorem stm0_small (nl ng nf ns : Nat) (par : Nat → Nat) (K A B C : Nat) (hp : ∀ i, par i ≤ 3) : (stm0 nl ng nf ns par K A B C).xs.length ≤ 3 ∧ (stm0 nl ng nf ns par K A B C).sub = .nil := by
  have := hp (B % nf)
  have h4 : C / 4 % 4 ≤ 3 := by omega
  unfold stm0
  repeat' split
  all_goals simp
  all_goals omega
theorem stm_small (nl ng nf ns : Nat) (par : Nat → Nat) (K A B C : Nat) (hp : ∀ i, par i ≤ 3) : (stm nl ng nf ns par K A B C).small := by
  unfold stm
  split
  · split
    · exact ⟨by simp, by simp [Bd.size], by simp [Bd.wide]⟩
    · obtain ⟨h1, h2⟩ := stm0_small nl ng nf ns par (C % 8) A B C hp
      refine ⟨by simp, ?_, ?_⟩
      · simp [St7.ahead, Bd.size, h2]
      · simp [St7.ahead, Bd.wide, h2]; exact h1
  · obtain ⟨h1, h2⟩ := stm0_small nl ng nf ns par K A B C hp
    exact ⟨h1, by rw [h2]; simp [Bd.size], by rw [h2]; simp [Bd.wide]⟩
theorem bdOf_small : ∀ l : List St7, (∀ s ∈ l, s.small) → (bdOf l).size ≤ 3 * l.length ∧ (bdOf l).wide ≤ 6 * l.length
  | [], _ => by simp [bdOf, Bd.size, Bd.wide]
  | s :: l, h => by
    obtain ⟨h1, h2⟩ := bdOf_small l (fun x hx => h x (by simp [hx]))
    obtain ⟨g1, g2, g3⟩ := h s (by simp)
    simp only [bdOf, St7.ahead, Bd.size, Bd.wide, List.length_cons]
    omega
theorem pF_le (F i : Nat) : pF F i ≤ 3 := by unfold pF; omega
theorem mkT_small (F ng n na : Nat) (acts : List Ac) (k : Nat) : ∀ T ∈ mkT F ng n na acts k, ∀ s ∈ T, s.small := by
  induction k with
  | zero => intro T hT; simp [mkT] at hT; simp [hT.2]
  | succ k ih =>
    intro T hT
    simp only [mkT] at hT
    rcases List.mem_or_eq_of_mem_set hT with h | rfl
    · exact ih T h
    · intro s hs
      rcases List.mem_append.1 hs with h | h
      · rw [List.getD_eq_getElem?_getD] at h
        by_cases hj : actJ n na k < (mkT F ng n na acts k).length
        · rw [List.getElem?_eq_getElem hj] at h
          exact ih _ (List.getElem_mem hj) s h
        · rw [List.getElem?_eq_none (by omega)] at h
          simp at h
      · simp at h; subst h
        exact stm_small _ _ _ _ _ _ _ _ _ (pF_le F)
/-- A module that is no greater than these. -/
structure Md.Small (M : Md) : Prop where
  fns : 0 < M.funcs.length ∧ M.funcs.length ≤ 4
  body : ∀ f ∈ M.funcs, f.body.size ≤ 1000 ∧ f.body.wide ≤ 1000
theorem mk_small (gs : List (List UInt8)) (gl : List Int) (F E : Nat) (acts : List Ac) : (canM (mkM gs gl F E acts)).Small := by
  have hl : (mkM gs gl F E acts).funcs.length = 1 + F % 4 := by
    simp only [mkM]
    rw [fillB_len _ _ (by rw [mkT_len, mkL_len]), mkL_len]
  refine ⟨by simp only [canM, List.length_map, hl]; omega, fun f hf => ?_⟩
  simp only [canM, List.mem_map] at hf
  obtain ⟨f0, hf0, rfl⟩ := hf
  simp only [canFn]
  simp only [mkM, fillB] at hf0
  obtain ⟨i, hi, rfl⟩ := List.mem_iff_getElem.1 hf0
  simp only [List.getElem_zipWith]
  have hm := List.getElem_mem (l := mkT F gl.length (1 + F % 4) acts.length acts (min acts.length 60)) (n := i) (by simp at hi; omega)
  have h1 := mkT_small F gl.length (1 + F % 4) acts.length acts (min acts.length 60) _ hm
  have h2 := mkT_le F gl.length (1 + F % 4) acts.length acts (min acts.length 60) _ hm
  have h3 := bdOf_small _ h1
  omega
/-- What is read of one function. -/
theorem FnRow.at_ {w : World} {base : Nat} {X : Nat → Prop} {A : Option Addr} {n c : Nat} {L : List Fn} (h : FnRow w base X (.slice A n c) L) (i : Nat) (hi : i < L.length) : ∃ q, A = some ⟨q, 0, none⟩ ∧ q < w.heap.size ∧ base ≤ q ∧ n = L.length ∧ n ≤ c ∧ ∃ Al cl At ct Ab cb, RdS (fun k => some k ≠ some q ∧ X k) w Al L[i].locals.length 1 (intV L[i].locals) ∧ RdS (fun k => some k ≠ some q ∧ X k) w At L[i].sites.length 1 (intV L[i].sites) ∧ BodyS (fun k => some k ≠ some q ∧ X k) w Ab L[i].body ∧
    ∀ j u, ([.int .i64 L[i].name, .int .i64 L[i].params, .slice Al L[i].locals.length cl, .slice At L[i].sites.length ct, .slice Ab L[i].body.len cb] : List Value)[j]? = some u → w.cell? ⟨q, i * 5 + j, none⟩ = some u := by
  obtain ⟨css, h1, h2, h3⟩ := h.own
  have hn : n = L.length := by
    rcases h1.2 with ⟨hv, h0⟩ | ⟨k, cap', cur, hv, _⟩
    · injection hv with _ hv; omega
    · injection hv
  subst hn
  obtain ⟨q, cap, hv, hbq, hq⟩ := own_formM h1 (by omega)
  injection hv with hv1 _ hv3
  subst hv1 hv3
  obtain ⟨cs, hcs, Al, cl, At, ct, Ab, cb, rfl, r1, r2, hb⟩ := h3 i hi
  refine ⟨q, rfl, hq, hbq, rfl, ?_, Al, cl, At, ct, Ab, cb, r1, r2, hb, fun j u hj => ?_⟩
  · rcases h1.2 with ⟨hv, _⟩ | ⟨k, cap', cur, hv, _, _, h5, _⟩
    · cases hv
    · injection hv with _ _ hv; subst hv; exact h5
  · have hj5 : j < 5 := by
      rcases Nat.lt_or_ge j 5 with h | h
      · exact h
      · rw [List.getElem?_eq_none (by simpa using h)] at hj; cases hj
    have hall : ∀ c ∈ css, c.length = 5 := fun c hc => by
      obtain ⟨m, hm, rfl⟩ := List.mem_iff_getElem.1 hc
      obtain ⟨c2, hc2, _, _, _, _, _, _, e, _⟩ := h3 m (by omega)
      rw [List.getElem?_eq_getElem hm] at hc2
      injection hc2 with hc2
      rw [hc2, e]; rfl
    have flat_get : ∀ (l : List (List Value)) (i : Nat) (r : List Value), (∀ c ∈ l, c.length = 5) → l[i]? = some r → ∀ j, j < 5 → l.flatten[i * 5 + j]? = r[j]? := by
      intro l
      induction l with
      | nil => intro i r _ h; simp at h
      | cons x l ih =>
        intro i r hl hi j hj
        have hx : x.length = 5 := hl x (by simp)
        cases i with
        | zero =>
          simp at hi; subst hi
          rw [List.flatten_cons, List.getElem?_append_left (by omega)]; simp
        | succ i =>
          rw [List.flatten_cons, List.getElem?_append_right (by omega), hx, show (i + 1) * 5 + j - 5 = i * 5 + j from by omega]
          exact ih i r (fun c hc => hl c (by simp [hc])) (by simpa using hi) j hj
    have := own_cellsM h1 (i * 5 + j) u (by rw [flat_get css i _ hall hcs j hj5]; exact hj)
    rwa [Nat.zero_add] at this
end Go.Proofs.Ytpdebnecfknohaa
