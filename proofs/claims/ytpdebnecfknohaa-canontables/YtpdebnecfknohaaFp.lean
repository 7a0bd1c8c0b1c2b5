
/-
  Cells of references and of statements in a row, and what Clone leaves of them.
-/
import Derived.Test.YtpdebnecfknohaaRw
import Derived.Test.YtpdebnecfknohaaBw
namespace Go.Proofs.Ytpdebnecfknohaa
open Go.RowKit
set_option linter.unusedVariables false
set_option maxRecDepth 20000

theorem ArgsAt.toS {w : World} {v : Value} {l : List (Int × Int)} (h : ArgsAt w v l) : ArgsS (fun k => k < w.heap.size) w v l := by
  obtain ⟨A, c, hv, h⟩ := h
  refine ⟨A, c, hv, fun hp => ?_⟩
  obtain ⟨b, o, hA, hc⟩ := h hp
  exact ⟨b, o, hA, World.block_lt_of_cell? w ⟨b, o + 0 * 2, none⟩ (hc 0 hp).1, hc⟩
theorem BdAt.toS {w : World} : ∀ (t : Bd) (b o : Nat), BdAt w b o t → BdS (fun k => k < w.heap.size) w b o t
  | .nil, _, _, _ => trivial
  | .cons k a1 a2 b1 b2 args sub rest, b, o, h => by
    obtain ⟨h1, ⟨va, h2, h3⟩, ⟨A, c, h4, h5⟩, h6⟩ := h
    refine ⟨World.block_lt_of_cell? w ⟨b, o, none⟩ h1.1, h1, ⟨va, h2, h3.toS⟩, ⟨A, c, h4, fun hp => ?_⟩, BdAt.toS rest b _ h6⟩
    obtain ⟨b', o', hA, h7⟩ := h5 hp
    exact ⟨b', o', hA, BdAt.toS sub b' o' h7⟩
theorem BodyV.toS {w : World} {A : Option Addr} {t : Bd} (h : BodyV w A t) : BodyS (fun k => k < w.heap.size) w A t := fun hp => by
  obtain ⟨b, o, hA, h1⟩ := h hp
  exact ⟨b, o, hA, BdAt.toS t b o h1⟩

/-- The cells of references. -/
def refV : List (Int × Int) → List Value
  | [] => []
  | x :: l => .int .u8 x.1 :: .int .i64 x.2 :: refV l
theorem refV_len : ∀ l : List (Int × Int), (refV l).length = l.length * 2
  | [] => rfl
  | x :: l => by simp [refV, refV_len l]; omega
theorem refV_get : ∀ (l : List (Int × Int)) (i : Nat), i < l.length → (refV l)[i * 2]? = some (.int .u8 (l.getD i (0, 0)).1) ∧ (refV l)[i * 2 + 1]? = some (.int .i64 (l.getD i (0, 0)).2)
  | [], i, h => by simp at h
  | x :: l, 0, _ => by simp [refV]
  | x :: l, i + 1, h => by
    have := refV_get l i (by simpa using h)
    rw [show (i + 1) * 2 = i * 2 + 1 + 1 from by omega]
    simpa [refV] using this
theorem refV_one : ∀ (l : List (Int × Int)), ∀ u ∈ refV l, u.oneCell' = true
  | [], u, h => by simp [refV] at h
  | x :: l, u, h => by
    simp only [refV, List.mem_cons] at h
    rcases h with rfl | rfl | h
    · rfl
    · rfl
    · exact refV_one l u h
theorem refV_at {w : World} {b o : Nat} {l : List (Int × Int)} (hc : ∀ i, i < l.length → w.cell? ⟨b, o + i * 2, none⟩ = some (.int .u8 (l.getD i (0, 0)).1) ∧ w.cell? ⟨b, o + i * 2 + 1, none⟩ = some (.int .i64 (l.getD i (0, 0)).2)) :
    ∀ j u, (refV l)[j]? = some u → w.cell? ⟨b, o + j, none⟩ = some u := by
  intro j u hu
  have hj : j < l.length * 2 := by
    rcases Nat.lt_or_ge j (l.length * 2) with h | h
    · exact h
    · rw [List.getElem?_eq_none (by rw [refV_len]; exact h)] at hu; cases hu
  obtain ⟨f1, f2⟩ := refV_get l (j / 2) (by omega)
  obtain ⟨c1, c2⟩ := hc (j / 2) (by omega)
  rcases Nat.mod_two_eq_zero_or_one j with h | h
  · rw [show j / 2 * 2 = j from by omega] at f1 c1
    rw [c1, ← f1, hu]
  · rw [show j / 2 * 2 + 1 = j from by omega] at f2
    rw [show o + j / 2 * 2 + 1 = o + j from by omega] at c2
    rw [c2, ← f2, hu]
/-- References in a row of the call's own. -/
theorem own_argsF {w : World} {base e n c : Nat} {A : Option Addr} {l : List (Int × Int)} (hn : n = l.length) (h : w.ownsRow base e 2 (.slice A n c) n (refV l)) : ArgsS (fun k => base ≤ k) w (.slice A n c) l := by
  subst hn
  refine ⟨A, c, rfl, fun hp => ?_⟩
  obtain ⟨q, cap, hv, hb, _⟩ := own_formM h hp
  injection hv with hv1 hv2 hv3
  subst hv1 hv3
  refine ⟨q, 0, rfl, hb, fun i hi => ?_⟩
  obtain ⟨f1, f2⟩ := refV_get l i hi
  exact ⟨own_cellsM h _ _ f1, by rw [Nat.add_assoc]; exact own_cellsM h _ _ f2⟩

/-- The cells of statements, whose arguments and bodies lie in blocks of a kind. -/
def CellsB (S : Nat → Prop) (w : World) : List Value → Bd → Prop
  | cs, .nil => cs = []
  | cs, .cons k a1 a2 b1 b2 xs sub rest => ∃ va A c cr, cs = .int .u8 k :: .int .u8 a1 :: .int .i64 a2 :: .int .u8 b1 :: .int .i64 b2 :: va :: .slice A sub.len c :: cr ∧ ArgsS S w va xs ∧ BodyS S w A sub ∧ CellsB S w cr rest
theorem CellsB.len {S : Nat → Prop} {w : World} : ∀ (t : Bd) (cs : List Value), CellsB S w cs t → cs.length = t.len * 7
  | .nil, cs, h => by simp only [CellsB] at h; subst h; rfl
  | .cons k a1 a2 b1 b2 xs sub rest, cs, h => by
    obtain ⟨va, A, c, cr, rfl, _, _, hr⟩ := h
    have := CellsB.len rest cr hr
    simp [Bd.len]; omega
theorem CellsB.one {S : Nat → Prop} {w : World} : ∀ (t : Bd) (cs : List Value), CellsB S w cs t → ∀ u ∈ cs, u.oneCell' = true
  | .nil, cs, h => by simp only [CellsB] at h; subst h; simp
  | .cons k a1 a2 b1 b2 xs sub rest, cs, h => by
    obtain ⟨va, A, c, cr, rfl, ⟨Aa, ca, rfl, _⟩, _, hr⟩ := h
    intro u hu
    simp only [List.mem_cons] at hu
    rcases hu with rfl | rfl | rfl | rfl | rfl | rfl | rfl | hu
    all_goals first | rfl | exact CellsB.one rest cr hr u hu
theorem CellsB.kept {S S' : Nat → Prop} {w w' : World} (hk : Kept S w w') (hS : ∀ k, S k → k < w.heap.size → S' k) : ∀ (t : Bd) (cs : List Value), CellsB S w cs t → CellsB S' w' cs t
  | .nil, cs, h => h
  | .cons k a1 a2 b1 b2 xs sub rest, cs, h => by
    obtain ⟨va, A, c, cr, rfl, ha, hb, hr⟩ := h
    exact ⟨va, A, c, cr, rfl, ha.kept hk hS, hb.kept hk hS, CellsB.kept hk hS rest cr hr⟩
theorem BdS.cells {S : Nat → Prop} {w : World} : ∀ (t : Bd) (b o : Nat), BdS S w b o t → ∃ cs, CellsB S w cs t ∧ ∀ j u, cs[j]? = some u → w.cell? ⟨b, o + j, none⟩ = some u
  | .nil, b, o, _ => ⟨[], rfl, fun j u h => by simp at h⟩
  | .cons k a1 a2 b1 b2 xs sub rest, b, o, h => by
    obtain ⟨hS, ⟨h0, h1, h2, h3, h4⟩, ⟨va, h5, ha⟩, ⟨A, c, h6, hb⟩, hr⟩ := h
    obtain ⟨cr, hcr, hat⟩ := BdS.cells rest b (o + 7) hr
    refine ⟨_, ⟨va, A, c, cr, rfl, ha, hb, hcr⟩, fun j u hj => ?_⟩
    match j, hj with
    | 0, hj => simp at hj; subst hj; exact h0
    | 1, hj => simp at hj; subst hj; exact h1
    | 2, hj => simp at hj; subst hj; exact h2
    | 3, hj => simp at hj; subst hj; exact h3
    | 4, hj => simp at hj; subst hj; exact h4
    | 5, hj => simp at hj; subst hj; exact h5
    | 6, hj => simp at hj; subst hj; exact h6
    | j + 7, hj =>
      simp at hj
      have := hat j u hj
      rwa [show o + 7 + j = o + (j + 7) from by omega] at this
theorem CellsB.body {S : Nat → Prop} {w : World} : ∀ (t : Bd) (cs : List Value) (b o : Nat), CellsB S w cs t → S b → (∀ j u, cs[j]? = some u → w.cell? ⟨b, o + j, none⟩ = some u) → BdS S w b o t
  | .nil, cs, b, o, _, _, _ => trivial
  | .cons k a1 a2 b1 b2 xs sub rest, cs, b, o, h, hS, hat => by
    obtain ⟨va, A, c, cr, rfl, ha, hb, hr⟩ := h
    refine ⟨hS, ⟨hat 0 _ rfl, hat 1 _ rfl, hat 2 _ rfl, hat 3 _ rfl, hat 4 _ rfl⟩, ⟨va, hat 5 _ rfl, ha⟩, ⟨A, c, hat 6 _ rfl, hb⟩, CellsB.body rest cr b (o + 7) hr hS fun j u hj => ?_⟩
    have := hat (j + 7) u (by simpa using hj)
    rwa [show o + (j + 7) = o + 7 + j from by omega] at this
/-- Statements in a row of the call's own. -/
theorem own_body {S : Nat → Prop} {w : World} {base e n c : Nat} {A : Option Addr} {cs : List Value} {t : Bd} (hn : n = t.len) (h : w.ownsRow base e 7 (.slice A n c) n cs) (hc : CellsB S w cs t) (hS : ∀ k, base ≤ k → S k) : BodyS S w A t := by
  subst hn
  intro hp
  obtain ⟨q, cap, hv, hb, _⟩ := own_formM h hp
  injection hv with hv1 hv2 hv3
  subst hv1 hv3
  exact ⟨q, 0, rfl, CellsB.body t cs q 0 hc (hS q hb) fun j u hj => own_cellsM h j u hj⟩
theorem own_slice {w : World} {base e size n : Nat} {v : Value} {xs : List Value} (h : w.ownsRow base e size v n xs) : ∃ A c, v = .slice A n c := by
  rcases h.2 with ⟨rfl, rfl⟩ | ⟨q, cap, cur, rfl, _⟩
  · exact ⟨none, 0, rfl⟩
  · exact ⟨_, _, rfl⟩

set_option maxRecDepth 20000 in
set_option maxHeartbeats 1000000 in
theorem cloneR_any (Aa : Option Addr) (ca : Nat) (xs : List (Int × Int)) (w : World) (h : ArgsAt w (.slice Aa xs.length ca) xs) (hl : xs.length ≤ 1000000000) :
    Calls Try.prog 65 #[.slice Aa xs.length ca] w fun e w' => ∃ A c, e = .returned (.slice A xs.length c) ∧ ArgsS (fun k => w.heap.size ≤ k) w' (.slice A xs.length c) xs ∧ Below w.heap.size w w' := by
  obtain ⟨i0, hi0, hz0, hz1, hz2⟩ := info_parts info46
  obtain ⟨A', c', hv, h⟩ := h
  injection hv with hv1 hv2 hv3
  subst hv1 hv3
  clear hv2
  obtain ⟨n, hnl⟩ : ∃ n, n = xs.length := ⟨_, rfl⟩
  have HFL : Hid ((refV xs).length = n * 2) := by show _ = _; rw [refV_len, hnl]
  have HNL := Lib.hid hnl
  cases Aa with
  | none =>
    have h0 : xs = [] := by
      rcases Nat.eq_zero_or_pos xs.length with h0 | h0
      · exact List.eq_nil_of_length_eq_zero h0
      · obtain ⟨b, o, hA, _⟩ := h h0; cases hA
    subst h0
    clear h
    have hq := fun W => Lib.run_eql_slice_nil (P := Try.prog) W 48 46 none 0 ca 0 0 Try.underlying48
    simp only [List.length_nil]
    go_enter Try.func65, Try.ntmps65
    go_wp2
    go_ret
    exact ⟨none, 0, rfl, ⟨none, 0, rfl, fun hp => by simp at hp⟩, Below.refl _ _⟩
  | some a =>
    have hcc : ∀ j u, (refV xs)[j]? = some u → w.cell? (a.add j) = some u := by
      intro j u hu
      have hp : 0 < xs.length := by
        rcases Nat.eq_zero_or_pos xs.length with h0 | h0
        · have : xs = [] := List.eq_nil_of_length_eq_zero h0
          subst this; simp [refV] at hu
        · exact h0
      obtain ⟨b, o, hA, hc⟩ := h hp
      injection hA with hA
      subst hA
      rw [Go.WideShapes.add_plain]
      exact refV_at hc j u hu
    have HF := Lib.hid hcc
    rw [← hnl] at hl ⊢
    clear hcc h hnl
    have hq := fun W => Lib.run_eql_slice_nil (P := Try.prog) W 48 46 (some a) n ca 0 0 Try.underlying48
    go_enter Try.func65, Try.ntmps65
    go_wp2_with (first | (at_builtin; refine wpList_append_own_at _ rfl (.tmp 5) (.tmp 6) 48 rfl w.heap.size 46 i0 (.agg #[.int .u8 0, .int .i64 0]) 2 16 Try.underlying48 hi0 hz0 hz1 hz2 rfl (by decide) (.slice (some ⟨w.heap.size, 0, none⟩) 0 0) 0 [] rfl ?d1 a n ca (refV xs) rfl ?c1 ?c2 ?c3 ?c4 ?c5 ?c6 ?_))
    case d1 => exact World.ownsRow_made w #[] 0 (Nat.le_refl _) (by unfold maxLen; omega) rfl
    case c1 => exact HFL.out
    case c2 =>
      intro j u hu
      have := HF.out j u hu
      rw [World.cell?_alloc_lt w _ _ (World.block_lt_of_cell? w _ this)]
      exact this
    case c3 => exact refV_one xs
    case c4 => unfold maxLen; omega
    case c5 => omega
    case c6 => simp
    intro v' w1 hown hg _ hat
    have hown' : w1.ownsRow w.heap.size 46 2 v' n (refV xs) := by simpa using hown
    obtain ⟨A, c, rfl⟩ := own_slice hown'
    have HO := Lib.hid hown'
    have HB := Lib.hid (((Below.refl w.heap.size w).alloc (Nat.le_refl _) (.cells #[] 46)).grown hg (by simp) (fun k hk => by simp [Value.ownBlock] at hk; omega))
    clear hown hown' hg hat
    go_wp2
    go_ret
    exact ⟨A, c, rfl, own_argsF HNL.out HO.out, HB.out⟩

set_option maxRecDepth 20000 in
set_option maxHeartbeats 1000000 in
theorem cloneS_any (S : Nat → Prop) (Ab : Option Addr) (cb : Nat) (t : Bd) (w : World) (h : BodyS S w Ab t) (hl : t.len ≤ 1000000000) :
    Calls Try.prog 66 #[.slice Ab t.len cb] w fun e w' => ∃ A c, e = .returned (.slice A t.len c) ∧ (∃ cs, w'.ownsRow w.heap.size 50 7 (.slice A t.len c) t.len cs ∧ CellsB S w cs t) ∧ Below w.heap.size w w' := by
  obtain ⟨i0, hi0, hz0, hz1, hz2⟩ := info_parts info50
  obtain ⟨n, hnl⟩ : ∃ n, n = t.len := ⟨_, rfl⟩
  have HNL := Lib.hid hnl
  cases Ab with
  | none =>
    have h0 : t.len = 0 := by
      rcases Nat.eq_zero_or_pos t.len with h0 | h0
      · exact h0
      · obtain ⟨b, o, hA, _⟩ := h h0; cases hA
    have ht : t = .nil := by cases t with | nil => rfl | cons => simp [Bd.len] at h0
    subst ht
    clear h
    have hq := fun W => Lib.run_eql_slice_nil (P := Try.prog) W 38 50 none 0 cb 0 0 Try.underlying38
    simp only [Bd.len]
    go_enter Try.func66, Try.ntmps66
    go_wp2
    go_ret
    exact ⟨none, 0, rfl, ⟨[], World.ownsRow_nil _ _ _ _, rfl⟩, Below.refl _ _⟩
  | some a =>
    obtain ⟨cs, hcs, hcc⟩ : ∃ cs, CellsB S w cs t ∧ ∀ j u, cs[j]? = some u → w.cell? (a.add j) = some u := by
      rcases Nat.eq_zero_or_pos t.len with h0 | h0
      · have ht : t = .nil := by cases t with | nil => rfl | cons => simp [Bd.len] at h0
        subst ht
        exact ⟨[], rfl, fun j u hj => by simp at hj⟩
      · obtain ⟨b, o, hA, hb⟩ := h h0
        injection hA with hA
        subst hA
        obtain ⟨cs, h1, h2⟩ := BdS.cells t b o hb
        exact ⟨cs, h1, fun j u hj => by rw [Go.WideShapes.add_plain]; exact h2 j u hj⟩
    have HF := Lib.hid hcc
    have HCS := Lib.hid hcs
    have HFL : Hid (cs.length = n * 7) := by show _ = _; rw [CellsB.len t cs hcs, hnl]
    rw [← hnl] at hl ⊢
    clear hcc h hnl hcs
    have hq := fun W => Lib.run_eql_slice_nil (P := Try.prog) W 38 50 (some a) n cb 0 0 Try.underlying38
    go_enter Try.func66, Try.ntmps66
    go_wp2_with (first | (at_builtin; refine wpList_append_own_at _ rfl (.tmp 5) (.tmp 6) 38 rfl w.heap.size 50 i0 (.agg #[.int .u8 0, .int .u8 0, .int .i64 0, .int .u8 0, .int .i64 0, .slice none 0 0, .slice none 0 0]) 7 88 Try.underlying38 hi0 hz0 hz1 hz2 rfl (by decide) (.slice (some ⟨w.heap.size, 0, none⟩) 0 0) 0 [] rfl ?d1 a n cb cs rfl ?c1 ?c2 ?c3 ?c4 ?c5 ?c6 ?_))
    case d1 => exact World.ownsRow_made w #[] 0 (Nat.le_refl _) (by unfold maxLen; omega) rfl
    case c1 => exact HFL.out
    case c2 =>
      intro j u hu
      have := HF.out j u hu
      rw [World.cell?_alloc_lt w _ _ (World.block_lt_of_cell? w _ this)]
      exact this
    case c3 => exact CellsB.one t cs HCS.out
    case c4 => unfold maxLen; omega
    case c5 => omega
    case c6 => simp
    intro v' w1 hown hg _ hat
    have hown' : w1.ownsRow w.heap.size 50 7 v' n cs := by simpa using hown
    obtain ⟨A, c, rfl⟩ := own_slice hown'
    have HO := Lib.hid hown'
    have HB := Lib.hid (((Below.refl w.heap.size w).alloc (Nat.le_refl _) (.cells #[] 50)).grown hg (by simp) (fun k hk => by simp [Value.ownBlock] at hk; omega))
    clear hown hown' hg hat
    go_wp2
    go_ret
    exact ⟨A, c, rfl, ⟨cs, HO.out, HCS.out⟩, HB.out⟩
end Go.Proofs.Ytpdebnecfknohaa
