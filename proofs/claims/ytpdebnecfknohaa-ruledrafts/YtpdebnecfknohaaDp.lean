/-
  A module that Make makes breaks no rule.
-/
import Derived.Test.YtpdebnecfknohaaMz
import Derived.Test.YtpdebnecfknohaaTz
import Derived.Test.YtpdebnecfknohaaKta
namespace Go.Proofs.Ytpdebnecfknohaa
open Go.RowKit
set_option linter.unusedVariables false
set_option linter.unusedSimpArgs false
set_option maxRecDepth 20000

/-- A function without its body. -/
def noB (f : Fn) : Fn := ⟨f.name, f.params, f.locals, f.sites, .nil⟩
theorem usedF_noB (g : List Int) (L : List Fn) (n : Int) : usedF g (L.map noB) n = usedF g L n := by
  simp [usedF, List.any_map, Function.comp_def, noB]
theorem canL_noB (g : List Int) (L : List Fn) (S : List (List UInt8)) (i : Nat) : canL g (L.map noB) S i = canL g L S i := by
  induction i with
  | zero => rfl
  | succ i ih => rw [canL, canL, ih, usedF_noB]
theorem mkL_noB (g0 : List (List UInt8)) (F n : Nat) : (mkL g0 F n).map noB = mkL g0 F n := by
  induction n with
  | zero => rfl
  | succ n ih => rw [mkL, List.map_append, ih]; rfl
theorem fillB_noB : ∀ (L : List Fn) (Ts : List (List St7)), Ts.length = L.length → (fillB L Ts).map noB = L.map noB
  | [], _, _ => by simp [fillB]
  | f :: L, [], h => by simp at h
  | f :: L, T :: Ts, h => by
    have := fillB_noB L Ts (by simpa using h)
    simp only [fillB, List.zipWith_cons_cons, List.map_cons] at this ⊢
    rw [this]; rfl
theorem canFn_noB (l S : List (List UInt8)) (f : Fn) : noB (canFn l S f) = canFn l S (noB f) := rfl
/-- The module without its bodies and entries. -/
def skelM (gs : List (List UInt8)) (gl : List Int) (F n : Nat) : Md := canM ⟨mkS gs F n, gl, mkL gs F n, []⟩
theorem canl_fill (gs : List (List UInt8)) (gl : List Int) (F n : Nat) (Ts : List (List St7)) (En : List Int) (hT : Ts.length = n) : canl ⟨mkS gs F n, gl, fillB (mkL gs F n) Ts, En⟩ = (skelM gs gl F n).strs := by
  unfold skelM canM canl
  dsimp only
  rw [← canL_noB gl (fillB (mkL gs F n) Ts), fillB_noB _ _ (by rw [hT, mkL_len]), canL_noB]
theorem can_fill (gs : List (List UInt8)) (gl : List Int) (F n : Nat) (Ts : List (List St7)) (En : List Int) (hT : Ts.length = n) :
    ∃ L, canM ⟨mkS gs F n, gl, fillB (mkL gs F n) Ts, En⟩ = ⟨(skelM gs gl F n).strs, (skelM gs gl F n).globs, L, En⟩ ∧ L.map noB = (skelM gs gl F n).funcs ∧ ∀ i (hi : i < L.length) (hj : i < Ts.length), L[i].body = bdOf Ts[i] := by
  have hl := canl_fill gs gl F n Ts En hT
  have hlen : Ts.length = (mkL gs F n).length := by rw [hT, mkL_len]
  refine ⟨(fillB (mkL gs F n) Ts).map (canFn (skelM gs gl F n).strs (mkS gs F n)), ?_, ?_, ?_⟩
  · unfold canM
    rw [hl]
    rfl
  · rw [List.map_map, show noB ∘ canFn (skelM gs gl F n).strs (mkS gs F n) = canFn (skelM gs gl F n).strs (mkS gs F n) ∘ noB from rfl, ← List.map_map, fillB_noB _ _ hlen, mkL_noB]
    rfl
  · intro i hi hj
    simp only [List.getElem_map, canFn, fillB, List.getElem_zipWith]

theorem pF_mod (F i : Nat) : pF F i = pF (F % 16) i := by unfold pF; omega
theorem nlF_mod (F i : Nat) : nlF F i = nlF (F % 16) i := by unfold nlF; rw [pF_mod]
theorem mkS_mod (gs : List (List UInt8)) (F n : Nat) : mkS gs F n = mkS gs (F % 16) n := by
  induction n with
  | zero => rfl
  | succ n ih => rw [mkS, mkS, ih, nlF_mod]
theorem mkL_mod (gs : List (List UInt8)) (F n : Nat) : mkL gs F n = mkL gs (F % 16) n := by
  induction n with
  | zero => rfl
  | succ n ih => rw [mkL, mkL, ih, nlF_mod, mkS_mod, pF_mod]
/-- All that is asked of names. -/
def namesOk (C : Md) (ng n F : Nat) : Bool :=
  C.globs.length == ng && C.funcs.length == n && nmF C.strs [] C.globs == 0 && nmF C.strs [] (namesL C.funcs) == 0 && risF C.strs 1 && (markF C.strs.length (usedI C.globs C.funcs C.funcs.length)).all id &&
  (List.range n).all fun i => match C.funcs[i]? with
    | none => false
    | some f => f.locals.length == nlF F i && f.sites.length == nsF i && f.params == (pF F i : Int) && nmF C.strs [] f.locals == 0 && nmF C.strs [] f.sites == 0
set_option maxRecDepth 100000 in
theorem names_all : ∀ s, s < 3 → ∀ g, g < 4 → ∀ F, F < 16 → namesOk (skelM (gnames (1 + s) g) (ints g) F (1 + F % 4)) g (1 + F % 4) F = true := by decide +kernel
theorem entsF_mod (E : Nat) : ∀ n, n ≤ 4 → entsF E n = entsF (E % 16) n := by
  intro n hn
  induction n with
  | zero => rfl
  | succ n ih =>
    rw [entsF, entsF, ih (by omega)]
    have h : E / 2 ^ n % 2 = E % 16 / 2 ^ n % 2 := by
      rcases (show n = 0 ∨ n = 1 ∨ n = 2 ∨ n = 3 by omega) with rfl | rfl | rfl | rfl <;> simp <;> omega
    rw [h]
theorem ents_all : ∀ E, E < 16 → ∀ n, n < 5 → entF n [] (entsF E n) = 0 := by decide +kernel
/-- Whose statement is it? -/
theorem mkT_stm (F ng n na : Nat) (acts : List Ac) (k : Nat) : ∀ i (hi : i < (mkT F ng n na acts k).length), ∀ s ∈ (mkT F ng n na acts k)[i], ∃ K A B C, s = stm (nlF F i) ng n (nsF i) (pF F) K A B C := by
  induction k with
  | zero => intro i hi s hs; simp [mkT] at hs
  | succ k ih =>
    intro i hi s hs
    simp only [mkT] at hs
    rw [List.getElem_set] at hs
    split at hs
    · rename_i hj
      rcases List.mem_append.1 hs with h | h
      · have hjl : i < (mkT F ng n na acts k).length := by simpa [mkT] using hi
        rw [hj, List.getD_eq_getElem?_getD, List.getElem?_eq_getElem hjl] at h
        exact ih i hjl s h
      · simp only [List.mem_singleton] at h
        rw [h, hj]
        exact ⟨_, _, _, _, rfl⟩
    · have hjl : i < (mkT F ng n na acts k).length := by simpa [mkT] using hi
      exact ih i hjl s hs
theorem varF_ok (nl ng nf ns n : Nat) (h : 0 < nl + ng) : varB (varF nl ng n).1 = true ∧ thereF nl ng nf ns (varF nl ng n).1 (varF nl ng n).2 = true := by
  have hlt : n % (nl + ng) < nl + ng := Nat.mod_lt _ h
  unfold varF
  generalize n % (nl + ng) = m at *
  split
  · rename_i h1
    simp [varB, thereF, withF]
    omega
  · rename_i h1
    simp [varB, thereF, withF]
    omega
theorem there0 (nl ng nf ns : Nat) : thereF nl ng nf ns 0 0 = true := by simp [thereF]
theorem obj_of_var {k : Int} (h : varB k = true) : objB k = true := by simp [objB, h]
/-- The item of a statement. -/
def St7.it (s : St7) (d : Nat) : It := ⟨d, s.k, s.a.1, s.a.2, s.b.1, s.b.2, s.xs, s.sub⟩
theorem args_ok (nl ng nf ns A C : Nat) (h : 0 < nl + ng) (n : Nat) : allVar ((List.range n).map fun i => varF nl ng ((A + C + i) % 256)) = true ∧ (((List.range n).map fun i => varF nl ng ((A + C + i) % 256)).all fun x => thereF nl ng nf ns x.1 x.2) = true := by
  simp only [allVar, List.all_map, List.all_eq_true, Function.comp_apply]
  exact ⟨fun x _ => (varF_ok nl ng nf ns _ h).1, fun x _ => (varF_ok nl ng nf ns _ h).2⟩
theorem stmtF_zero {L : List Fn} {nl ng ns : Nat} {x : It} (h1 : x.deep ≤ 8) (h2 : kindF x.k x.a1 x.a2 x.b1 x.b2 x.xs x.sub.len = true) (h3 : refsF nl ng L.length ns x.a1 x.a2 x.b1 x.b2 x.xs = true) (h4 : arityF L x.k x.b1 x.b2 x.xs.length = true) : stmtF L nl ng ns x = 0 := by
  unfold stmtF
  rw [if_neg (by omega), h2, h3, h4]
  simp
theorem stm0_ok (L : List Fn) (nl ng ns : Nat) (par : Nat → Nat) (K A B C d : Nat) (hd : d ≤ 8) (hl : 0 < nl + ng) (hs : 0 < ns) (hf : 0 < L.length) (hp : ∀ j (hj : j < L.length), L[j].params = (par j : Int)) (h3 : ∀ j, par j ≤ 3) : stmtF L nl ng ns ((stm0 nl ng L.length ns par K A B C).it d) = 0 ∧ (stm0 nl ng L.length ns par K A B C).k ≠ 7 := by
  obtain ⟨a1, a2⟩ := varF_ok nl ng L.length ns A hl
  obtain ⟨b1, b2⟩ := varF_ok nl ng L.length ns B hl
  have hBf : B % L.length < L.length := Nat.mod_lt _ hf
  have hBs : B % ns < ns := Nat.mod_lt _ hs
  have hpr := hp _ hBf
  unfold stm0
  generalize B % L.length = bf at *
  generalize B % ns = bn at *
  have t3 : thereF nl ng L.length ns 3 (bf : Int) = true := by simp [thereF, withF]; omega
  have t4 : thereF nl ng L.length ns 4 (bn : Int) = true := by simp [thereF, withF]; omega
  have t0 := there0 nl ng L.length ns
  have hkb : ∀ k : Int, varB k = true → (k == 3) = false := fun k hk => by
    simp [varB] at hk; rcases hk with rfl | rfl <;> rfl
  generalize hva : varF nl ng A = va at *
  generalize hvb : varF nl ng B = vb at *
  obtain ⟨va1, va2⟩ := va
  obtain ⟨vb1, vb2⟩ := vb
  dsimp only at a1 a2 b1 b2
  have ho := obj_of_var b1
  have n3 := hkb _ b1
  split
  · refine ⟨stmtF_zero hd ?_ ?_ ?_, by simp⟩
    · simp only [St7.it]
      split
      · simp [kindF, a1, objB, Bd.len]
      · split
        · simp [kindF, a1, ho, Bd.len]
        · simp [kindF, a1, objB, Bd.len]
    · simp only [St7.it]
      split
      · simp [refsF, a2, t3]
      · split
        · simp [refsF, a2, b2]
        · simp [refsF, a2, t4]
    · simp [St7.it, arityF]
  split
  · exact ⟨stmtF_zero hd (by simp [St7.it, kindF, a1, b1, Bd.len]) (by simp [St7.it, refsF, a2, b2]) (by simp [St7.it, arityF]), by simp⟩
  split
  · exact ⟨stmtF_zero hd (by simp [St7.it, kindF, a1, b1, Bd.len]) (by simp [St7.it, refsF, a2, b2]) (by simp [St7.it, arityF]), by simp⟩
  split
  · obtain ⟨g1, g2⟩ := args_ok nl ng L.length ns A C hl (par bf)
    have h33 := h3 bf
    refine ⟨stmtF_zero hd ?_ ?_ ?_, by simp⟩
    · simp only [St7.it, kindF]
      rw [g1]
      by_cases hC : C % 3 = 0 <;> simp [hC, zeroB, a1, Bd.len]
    · simp only [St7.it, refsF]
      rw [g2, t3]
      split <;> simp [t0, a2]
    · simp only [St7.it, arityF, List.length_map, List.length_range]
      rw [if_neg (by omega)]
      simp only [Int.toNat_natCast, List.getElem?_eq_getElem hBf, Option.map_some, Option.getD_some, hpr]
      simp
  split
  · obtain ⟨g1, g2⟩ := args_ok nl ng L.length ns A C hl (C / 4 % 4)
    have h33 : C / 4 % 4 ≤ 3 := by omega
    refine ⟨stmtF_zero hd ?_ ?_ ?_, by simp⟩
    · simp only [St7.it, kindF]
      rw [g1]
      by_cases hC : C % 3 = 0 <;> simp [hC, zeroB, a1, b1, Bd.len]
    · simp only [St7.it, refsF]
      rw [g2, b2]
      split <;> simp [t0, a2]
    · simp only [St7.it, arityF, List.length_map, List.length_range]
      rw [if_neg (by omega)]
      simp [bne, n3]
  split
  · exact ⟨stmtF_zero hd (by simp [St7.it, kindF, b1, zeroB, Bd.len]) (by simp [St7.it, refsF, t0, b2]) (by simp [St7.it, arityF]), by simp⟩
  · exact ⟨stmtF_zero hd (by simp [St7.it, kindF, a1, b1, Bd.len]) (by simp [St7.it, refsF, a2, b2]) (by simp [St7.it, arityF]), by simp⟩
theorem ahead_flat (s : St7) (r : Bd) (d : Nat) : (s.ahead r).flat d = s.it d :: ((if s.k = 7 ∧ d < 1000 then s.sub.flat (d + 1) else []) ++ r.flat d) := rfl
theorem stm_ok (L : List Fn) (nl ng ns : Nat) (par : Nat → Nat) (K A B C : Nat) (hl : 0 < nl + ng) (hs : 0 < ns) (hf : 0 < L.length) (hp : ∀ j (hj : j < L.length), L[j].params = (par j : Int)) (h3 : ∀ j, par j ≤ 3) : ∀ x ∈ ((stm nl ng L.length ns par K A B C).ahead .nil).flat 0, stmtF L nl ng ns x = 0 := by
  intro x hx
  rw [ahead_flat] at hx
  unfold stm at hx
  have t0 := there0 nl ng L.length ns
  split at hx
  · split at hx
    · simp [Bd.flat, St7.it] at hx
      subst hx
      exact stmtF_zero (by simp) (by simp [kindF, zeroB]) (by simp [refsF, t0]) (by simp [arityF])
    · obtain ⟨g1, g2⟩ := stm0_ok L nl ng ns par (C % 8) A B C 1 (by omega) hl hs hf hp h3
      obtain ⟨a1, a2⟩ := varF_ok nl ng L.length ns A hl
      obtain ⟨b1, b2⟩ := varF_ok nl ng L.length ns B hl
      simp only [true_and, Nat.zero_lt_succ, if_true, ahead_flat, if_neg (show ¬((stm0 nl ng L.length ns par (C % 8) A B C).k = 7 ∧ 0 + 1 < 1000) from fun h => g2 h.1), List.nil_append, Bd.flat, List.append_nil] at hx
      simp only [List.mem_cons] at hx
      rcases hx with rfl | rfl | hx
      · exact stmtF_zero (by simp [St7.it]) (by simp [St7.it, kindF, zeroB]) (by simp [St7.it, refsF, t0]) (by simp [St7.it, arityF])
      · exact g1
      · simp at hx
        subst hx
        exact stmtF_zero (by simp [St7.it]) (by simp [St7.it, kindF, a1, b1, Bd.len]) (by simp [St7.it, refsF, a2, b2]) (by simp [St7.it, arityF])
  · obtain ⟨g1, g2⟩ := stm0_ok L nl ng ns par K A B C 0 (by omega) hl hs hf hp h3
    rw [if_neg (fun h => g2 h.1)] at hx
    simp [Bd.flat] at hx
    subst hx
    exact g1
theorem bdOf_flat : ∀ (T : List St7) (x : It), x ∈ (bdOf T).flat 0 → ∃ s ∈ T, x ∈ (s.ahead .nil).flat 0
  | [], x, h => by simp [bdOf, Bd.flat] at h
  | s :: T, x, h => by
    rw [bdOf, ahead_flat] at h
    simp only [List.mem_cons, List.mem_append] at h
    rcases h with h | h | h
    · exact ⟨s, List.mem_cons_self, by rw [ahead_flat, h]; exact List.mem_cons_self⟩
    · exact ⟨s, List.mem_cons_self, by rw [ahead_flat]; exact List.mem_cons_of_mem _ (List.mem_append_left _ h)⟩
    · obtain ⟨s', h1, h2⟩ := bdOf_flat T x h
      exact ⟨s', List.mem_cons_of_mem _ h1, h2⟩
theorem stmtsF_zero (L : List Fn) (nl ng ns : Nat) : ∀ (l : List It) (i : Nat), (∀ x ∈ l, stmtF L nl ng ns x = 0) → (stmtsF L nl ng ns i l).1 = 0
  | [], _, _ => rfl
  | x :: l, i, h => by
    rw [stmtsF, if_neg (by simp [h x List.mem_cons_self])]
    exact stmtsF_zero L nl ng ns l (i + 1) fun y hy => h y (List.mem_cons_of_mem _ hy)
theorem funcsF_zero (M : Md) : ∀ (L : List Fn) (i : Nat), (∀ f ∈ L, funcF M.strs f = 0 ∧ ∀ x ∈ f.body.flat 0, stmtF M.funcs f.locals.length M.globs.length f.sites.length x = 0) → funcsF M i L = (0, -1, -1)
  | [], _, _ => rfl
  | f :: L, i, h => by
    obtain ⟨h1, h2⟩ := h f List.mem_cons_self
    rw [funcsF, if_neg (by simp [h1]), if_neg (by simp [stmtsF_zero _ _ _ _ _ 0 h2])]
    exact funcsF_zero M L (i + 1) fun y hy => h y (List.mem_cons_of_mem _ hy)
/-- No rule is broken. -/
theorem made_ok (G F E : Nat) (acts : List Ac) : treeF (canM (mkM (gnames (1 + G / 4 % 3) (G % 4)) (ints (G % 4)) F E acts)) = (0, -1, -1) ∧ checkF (canM (mkM (gnames (1 + G / 4 % 3) (G % 4)) (ints (G % 4)) F E acts)) = (0, -1, -1) := by
  obtain ⟨n, hn⟩ : ∃ n, n = 1 + F % 4 := ⟨_, rfl⟩
  obtain ⟨g, hg⟩ : ∃ g, g = G % 4 := ⟨_, rfl⟩
  have hsk := names_all (G / 4 % 3) (by omega) g (by omega) (F % 16) (by omega)
  rw [show 1 + F % 16 % 4 = n from by omega] at hsk
  have hskF : skelM (gnames (1 + G / 4 % 3) g) (ints g) (F % 16) n = skelM (gnames (1 + G / 4 % 3) g) (ints g) F n := by
    unfold skelM; rw [← mkS_mod, ← mkL_mod]
  rw [hskF] at hsk
  have hTl := mkT_len F (ints g).length n acts.length acts (min acts.length 60)
  obtain ⟨L, hM, hL, hB⟩ := can_fill (gnames (1 + G / 4 % 3) g) (ints g) F n (mkT F (ints g).length n acts.length acts (min acts.length 60)) (entsF E n) hTl
  have hst := mkT_stm F (ints g).length n acts.length acts (min acts.length 60)
  have hmk : mkM (gnames (1 + G / 4 % 3) (G % 4)) (ints (G % 4)) F E acts = ⟨mkS (gnames (1 + G / 4 % 3) g) F n, ints g, fillB (mkL (gnames (1 + G / 4 % 3) g) F n) (mkT F (ints g).length n acts.length acts (min acts.length 60)), entsF E n⟩ := by
    unfold mkM; rw [← hn, ← hg]
  have hsm := (mk_small (gnames (1 + G / 4 % 3) (G % 4)) (ints (G % 4)) F E acts).body
  have hle := mkT_le F (ints g).length n acts.length acts (min acts.length 60)
  have hsml := mkT_small F (ints g).length n acts.length acts (min acts.length 60)
  rw [hmk, hM] at hsm ⊢
  generalize mkT F (ints g).length n acts.length acts (min acts.length 60) = Ts at *
  generalize skelM (gnames (1 + G / 4 % 3) g) (ints g) F n = C at *
  rw [ints_len] at hst
  have hEn : entF n [] (entsF E n) = 0 := by rw [entsF_mod E n (by omega)]; exact ents_all _ (by omega) n (by omega)
  have hEl := entsF_len E n
  simp only [namesOk, Bool.and_eq_true, beq_iff_eq, List.all_eq_true, List.mem_range] at hsk
  obtain ⟨⟨⟨⟨⟨⟨q1, q2⟩, q3⟩, q4⟩, q5⟩, q6⟩, q7⟩ := hsk
  have hLl : L.length = n := by rw [← q2, ← hL, List.length_map]
  have hnm : namesL L = namesL C.funcs := by rw [← hL]; simp [namesL, Function.comp_def, noB]
  have hus : usedI C.globs L L.length = usedI C.globs C.funcs C.funcs.length := by
    rw [← hL]; simp [usedI, Function.comp_def, noB, List.take_of_length_le, List.map_take]
  have hfn : ∀ i (hi : i < L.length), L[i].locals.length = nlF F i ∧ L[i].sites.length = nsF i ∧ L[i].params = (pF F i : Int) ∧ nmF C.strs [] L[i].locals = 0 ∧ nmF C.strs [] L[i].sites = 0 := fun i hi => by
    have h1 := q7 i (by omega)
    have h2 : C.funcs[i]? = some (noB L[i]) := by rw [← hL, List.getElem?_map, List.getElem?_eq_getElem hi]; rfl
    rw [h2] at h1
    simp only [Bool.and_eq_true, beq_iff_eq] at h1
    obtain ⟨⟨⟨⟨u1, u2⟩, u3⟩, u4⟩, u5⟩ := h1
    rw [nlF_mod, pF_mod]
    exact ⟨u1, u2, u3, u4, u5⟩
  have hmod : modF ⟨C.strs, C.globs, L, entsF E n⟩ = 0 := by
    unfold modF
    dsimp only
    rw [if_neg (by omega), hnm, q3, q4, hLl]
    simp [hEn]
  have htree : treeF ⟨C.strs, C.globs, L, entsF E n⟩ = (0, -1, -1) := by
    unfold treeF
    rw [if_neg (by simp [hmod])]
    refine funcsF_zero _ _ 0 fun f hf => ?_
    obtain ⟨i, hi, rfl⟩ := List.getElem_of_mem hf
    dsimp only at hi ⊢
    obtain ⟨u1, u2, u3, u4, u5⟩ := hfn i hi
    have hb := hB i hi (by omega)
    have hp := pF_le F i
    have hnl : nlF F i ≤ 6 ∧ pF F i ≤ nlF F i ∧ 0 < nlF F i := by unfold nlF; omega
    have hns : nsF i ≤ 2 ∧ 0 < nsF i := by unfold nsF; omega
    refine ⟨?_, fun x hx => ?_⟩
    · have hroom : ¬ roomF L[i].body 400 < 0 := by
        rw [room_flat, Bd.flat_len, hb]
        have h1 := bdOf_small Ts[i] (hsml _ (List.getElem_mem (by omega)))
        have h2 := hle _ (List.getElem_mem (show i < Ts.length by omega))
        have h3 := Bd.cnt_le (bdOf Ts[i]) 0
        omega
      unfold funcF
      rw [if_neg (by omega), if_neg (by omega), u4, u5]
      simp
    · rw [hb] at hx
      obtain ⟨s, hs, hx⟩ := bdOf_flat _ x hx
      obtain ⟨K, A, B, Cc, rfl⟩ := hst i (by omega) s hs
      rw [u1, u2, q1]
      rw [← hLl] at hx
      exact stm_ok L (nlF F i) g (nsF i) (pF F) K A B Cc (by omega) (by omega) (by omega) (fun j hj => (hfn j hj).2.2.1) (pF_le F) x hx
  refine ⟨htree, ?_⟩
  unfold checkF
  rw [htree]
  dsimp only
  rw [hus, q5]
  have : (markF C.strs.length (usedI C.globs C.funcs C.funcs.length)).all id = true := by simpa using q6
  rw [this]
  rfl
end Go.Proofs.Ytpdebnecfknohaa
