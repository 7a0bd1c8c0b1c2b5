/-
  Parts: Rp Op Bw Fp Cb Cd Cc Ra Mz Qe Ce Xm Xn Xa.
-/
import Derived.Test.YtpdebnecfknohaaRn00
import Derived.Test.YtpdebnecfknohaaRn01
import Derived.Test.YtpdebnecfknohaaRn02
import Derived.Test.YtpdebnecfknohaaRn03
import Derived.Test.YtpdebnecfknohaaRn04
import Derived.Deep.SlicePairs
import Derived.ChangeSame
import Derived.Deep.DeepCutAuto
import Derived.Deep.CutBlock
import Derived.Deep.RegionHeld
import Derived.Sort.Walk0
namespace Go.Proofs.Ytpdebnecfknohaa
open Go.RowKit
set_option linter.unusedVariables false
set_option maxRecDepth 20000
/-- A statement without a body, so often. -/
def Bd.rep (k a1 a2 b1 b2 : Int) (xs : List (Int × Int)) : Nat → Bd
  | 0 => .nil
  | n + 1 => .cons k a1 a2 b1 b2 xs .nil (Bd.rep k a1 a2 b1 b2 xs n)
/-- The cells of so many statements. -/
def seven (k a1 a2 b1 b2 : Int) (va vs : Value) : List Value := [.int .u8 k, .int .u8 a1, .int .i64 a2, .int .u8 b1, .int .i64 b2, va, vs]
def sevens (k a1 a2 b1 b2 : Int) (va vs : Value) : Nat → List Value
  | 0 => []
  | n + 1 => seven k a1 a2 b1 b2 va vs ++ sevens k a1 a2 b1 b2 va vs n
/-- An owned row's cells. -/
theorem own_cellsM {w : World} {base n size : Nat} {e : TypeId} {q cap : Nat} {xs : List Value} (h : w.ownsRow base e size (.slice (some ⟨q, 0, none⟩) n cap) n xs) : ∀ j u, xs[j]? = some u → w.cell? ⟨q, 0 + j, none⟩ = some u := by
  intro j u hj
  rcases h.2 with ⟨hv, _⟩ | ⟨k, cap', cur, hv, h2, hk, h3, h4, h5, h6⟩
  · cases hv
  · injection hv with hv1 hv2 hv3
    injection hv1 with hv1
    injection hv1 with hv1
    subst hv1
    rw [cell_of_row w q _ cur e (0, 0) hk, Nat.zero_add, ← Array.getElem?_toList]
    rw [← h6] at hj
    rcases Nat.lt_or_ge j (n * size) with h | h
    · rwa [List.getElem?_take_of_lt h] at hj
    · rw [List.getElem?_eq_none (by rw [List.length_take]; omega)] at hj; cases hj
end Go.Proofs.Ytpdebnecfknohaa
namespace Go.Proofs.Ytpdebnecfknohaa
open Go.RowKit Go.ChangeShapes Go.WideShapes
set_option linter.unusedVariables false
set_option maxRecDepth 20000
def okU8 (x : Int) : Prop := 0 ≤ x ∧ x ≤ 255
def okI64 (x : Int) : Prop := -9223372036854775808 ≤ x ∧ x ≤ 9223372036854775807
theorem okU8_of_wf {x : Int} (h : (Lit.int .u8 x).wf = true) : okU8 x := by
  simpa [okU8, Lit.wf, IntKind.min, IntKind.max, IntKind.bits, IntKind.signed] using h
theorem okI64_of_wf {x : Int} (h : (Lit.int .i64 x).wf = true) : okI64 x := by
  simpa [okI64, Lit.wf, IntKind.min, IntKind.max, IntKind.bits, IntKind.signed] using h
def okArgs (xs : List (Int × Int)) : Prop := ∀ x ∈ xs, okU8 x.1 ∧ okI64 x.2
/-- All numbers are such as their kinds hold. -/
def Bd.fit : Bd → Prop
  | .nil => True
  | .cons k a1 a2 b1 b2 xs s r => (okU8 k ∧ okU8 a1 ∧ okI64 a2 ∧ okU8 b1 ∧ okI64 b2) ∧ (okArgs xs ∧ xs.length ≤ 9223372036854775807) ∧ s.fit ∧ r.fit
theorem cells5 : Try.prog.cellsOf 5 = 1 := by kernel_rfl
theorem cells46 : Try.prog.cellsOf 46 = 2 := by kernel_rfl
section
variable {H : Type} {enc : TypeId × Value → H} {w : World} {base : Nat} {spare : Nat → Bool} {held : Bool}
/-- What a statement's cells are. -/
structure StOk (w : World) (cs : List Value) (k a1 a2 b1 b2 : Int) (xs : List (Int × Int)) (t : Bd) : Prop where
  cells : ∃ Aa ca A c, cs = [.int .u8 k, .int .u8 a1, .int .i64 a2, .int .u8 b1, .int .i64 b2, .slice Aa xs.length ca, .slice A t.len c] ∧ ArgsAt w (.slice Aa xs.length ca) xs ∧ BodyV w A t
  nums : okU8 k ∧ okU8 a1 ∧ okI64 a2 ∧ okU8 b1 ∧ okI64 b2
  args : okArgs xs ∧ xs.length ≤ 9223372036854775807
  fit : t.fit
  len : t.len ≤ 9223372036854775807
end
end Go.Proofs.Ytpdebnecfknohaa
namespace Go.Proofs.Ytpdebnecfknohaa
open Go.RowKit
set_option linter.unusedVariables false
set_option maxRecDepth 20000
theorem own_formM {w : World} {base n : Nat} {v : Value} {xs : List Value} {e size : Nat} (h : w.ownsRow base e size v n xs) (hn : 0 < n) : ∃ q cap, v = .slice (some ⟨q, 0, none⟩) n cap ∧ base ≤ q ∧ q < w.heap.size := by
  rcases h.2 with ⟨_, h1⟩ | ⟨k, cap, cur, hv, h2, hk, _⟩
  · omega
  · exact ⟨k, cap, hv, h2, heap_ltM hk⟩
def outB (k a1 a2 b1 b2 : Int) (xs : List (Int × Int)) (n : Nat) : Bd := .cons 7 0 0 0 0 [] .nil (Bd.rep k a1 a2 b1 b2 xs n)
end Go.Proofs.Ytpdebnecfknohaa
namespace Go.Proofs.Ytpdebnecfknohaa
open Go.RowKit
set_option linter.unusedVariables false
set_option maxRecDepth 20000
theorem ArgsAt.toS {w : World} {v : Value} {l : List (Int × Int)} (h : ArgsAt w v l) : ArgsS (fun k => k < w.heap.size) w v l := by
  obtain ⟨A, c, hv, h⟩ := h
  refine ⟨A, c, hv, fun hp => ?_⟩
  obtain ⟨b, o, hA, hc⟩ := h hp
  exact ⟨b, o, hA, World.block_lt_of_cell? w ⟨b, o + 0 * 2, none⟩ (hc 0 hp).1, hc⟩
theorem BdAt.toS {w : World} : ∀ (t : Bd) (b o : Nat), BdAt w b o t → BdS (fun k => k < w.heap.size) w b o t
  | .nil, _, _, _ => trivial
  | .cons k a1 a2 b1 b2 args sub rest, b, o, h => by
    obtain ⟨h1, ⟨va, h2, h3⟩, ⟨A, c, h4, h5⟩, h6⟩ := h
    refine ⟨World.block_lt_of_cell? w ⟨b, o, none⟩ h1.1, h1, ⟨va, h2, h3.toS⟩, ⟨A, c, h4, fun hp => ?_⟩, BdAt.toS rest b _ h6⟩
    obtain ⟨b', o', hA, h7⟩ := h5 hp
    exact ⟨b', o', hA, BdAt.toS sub b' o' h7⟩
theorem BodyV.toS {w : World} {A : Option Addr} {t : Bd} (h : BodyV w A t) : BodyS (fun k => k < w.heap.size) w A t := fun hp => by
  obtain ⟨b, o, hA, h1⟩ := h hp
  exact ⟨b, o, hA, BdAt.toS t b o h1⟩
/-- The cells of references. -/
def refV : List (Int × Int) → List Value
  | [] => []
  | x :: l => .int .u8 x.1 :: .int .i64 x.2 :: refV l
theorem refV_len : ∀ l : List (Int × Int), (refV l).length = l.length * 2
  | [] => rfl
  | x :: l => by simp [refV, refV_len l]; omega
theorem refV_get : ∀ (l : List (Int × Int)) (i : Nat), i < l.length → (refV l)[i * 2]? = some (.int .u8 (l.getD i (0, 0)).1) ∧ (refV l)[i * 2 + 1]? = some (.int .i64 (l.getD i (0, 0)).2)
  | [], i, h => by simp at h
  | x :: l, 0, _ => by simp [refV]
  | x :: l, i + 1, h => by
    have := refV_get l i (by simpa using h)
    rw [show (i + 1) * 2 = i * 2 + 1 + 1 from by omega]
    simpa [refV] using this
theorem refV_one : ∀ (l : List (Int × Int)), ∀ u ∈ refV l, u.oneCell' = true
  | [], u, h => by simp [refV] at h
  | x :: l, u, h => by
    simp only [refV, List.mem_cons] at h
    rcases h with rfl | rfl | h
    · rfl
    · rfl
    · exact refV_one l u h
theorem refV_at {w : World} {b o : Nat} {l : List (Int × Int)} (hc : ∀ i, i < l.length → w.cell? ⟨b, o + i * 2, none⟩ = some (.int .u8 (l.getD i (0, 0)).1) ∧ w.cell? ⟨b, o + i * 2 + 1, none⟩ = some (.int .i64 (l.getD i (0, 0)).2)) :
    ∀ j u, (refV l)[j]? = some u → w.cell? ⟨b, o + j, none⟩ = some u := by
  intro j u hu
  have hj : j < l.length * 2 := by
    rcases Nat.lt_or_ge j (l.length * 2) with h | h
    · exact h
    · rw [List.getElem?_eq_none (by rw [refV_len]; exact h)] at hu; cases hu
  obtain ⟨f1, f2⟩ := refV_get l (j / 2) (by omega)
  obtain ⟨c1, c2⟩ := hc (j / 2) (by omega)
  rcases Nat.mod_two_eq_zero_or_one j with h | h
  · rw [show j / 2 * 2 = j from by omega] at f1 c1
    rw [c1, ← f1, hu]
  · rw [show j / 2 * 2 + 1 = j from by omega] at f2
    rw [show o + j / 2 * 2 + 1 = o + j from by omega] at c2
    rw [c2, ← f2, hu]
/-- References in a row of the call's own. -/
theorem own_argsF {w : World} {base e n c : Nat} {A : Option Addr} {l : List (Int × Int)} (hn : n = l.length) (h : w.ownsRow base e 2 (.slice A n c) n (refV l)) : ArgsS (fun k => base ≤ k) w (.slice A n c) l := by
  subst hn
  refine ⟨A, c, rfl, fun hp => ?_⟩
  obtain ⟨q, cap, hv, hb, _⟩ := own_formM h hp
  injection hv with hv1 hv2 hv3
  subst hv1 hv3
  refine ⟨q, 0, rfl, hb, fun i hi => ?_⟩
  obtain ⟨f1, f2⟩ := refV_get l i hi
  exact ⟨own_cellsM h _ _ f1, by rw [Nat.add_assoc]; exact own_cellsM h _ _ f2⟩
/-- The cells of statements, whose arguments and bodies lie in blocks of a kind. -/
def CellsB (S : Nat → Prop) (w : World) : List Value → Bd → Prop
  | cs, .nil => cs = []
  | cs, .cons k a1 a2 b1 b2 xs sub rest => ∃ va A c cr, cs = .int .u8 k :: .int .u8 a1 :: .int .i64 a2 :: .int .u8 b1 :: .int .i64 b2 :: va :: .slice A sub.len c :: cr ∧ ArgsS S w va xs ∧ BodyS S w A sub ∧ CellsB S w cr rest
theorem CellsB.len {S : Nat → Prop} {w : World} : ∀ (t : Bd) (cs : List Value), CellsB S w cs t → cs.length = t.len * 7
  | .nil, cs, h => by simp only [CellsB] at h; subst h; rfl
  | .cons k a1 a2 b1 b2 xs sub rest, cs, h => by
    obtain ⟨va, A, c, cr, rfl, _, _, hr⟩ := h
    have := CellsB.len rest cr hr
    simp [Bd.len]; omega
theorem CellsB.one {S : Nat → Prop} {w : World} : ∀ (t : Bd) (cs : List Value), CellsB S w cs t → ∀ u ∈ cs, u.oneCell' = true
  | .nil, cs, h => by simp only [CellsB] at h; subst h; simp
  | .cons k a1 a2 b1 b2 xs sub rest, cs, h => by
    obtain ⟨va, A, c, cr, rfl, ⟨Aa, ca, rfl, _⟩, _, hr⟩ := h
    intro u hu
    simp only [List.mem_cons] at hu
    rcases hu with rfl | rfl | rfl | rfl | rfl | rfl | rfl | hu
    all_goals first | rfl | exact CellsB.one rest cr hr u hu
theorem CellsB.kept {S S' : Nat → Prop} {w w' : World} (hk : Kept S w w') (hS : ∀ k, S k → k < w.heap.size → S' k) : ∀ (t : Bd) (cs : List Value), CellsB S w cs t → CellsB S' w' cs t
  | .nil, cs, h => h
  | .cons k a1 a2 b1 b2 xs sub rest, cs, h => by
    obtain ⟨va, A, c, cr, rfl, ha, hb, hr⟩ := h
    exact ⟨va, A, c, cr, rfl, ha.kept hk hS, hb.kept hk hS, CellsB.kept hk hS rest cr hr⟩
theorem BdS.cells {S : Nat → Prop} {w : World} : ∀ (t : Bd) (b o : Nat), BdS S w b o t → ∃ cs, CellsB S w cs t ∧ ∀ j u, cs[j]? = some u → w.cell? ⟨b, o + j, none⟩ = some u
  | .nil, b, o, _ => ⟨[], rfl, fun j u h => by simp at h⟩
  | .cons k a1 a2 b1 b2 xs sub rest, b, o, h => by
    obtain ⟨hS, ⟨h0, h1, h2, h3, h4⟩, ⟨va, h5, ha⟩, ⟨A, c, h6, hb⟩, hr⟩ := h
    obtain ⟨cr, hcr, hat⟩ := BdS.cells rest b (o + 7) hr
    refine ⟨_, ⟨va, A, c, cr, rfl, ha, hb, hcr⟩, fun j u hj => ?_⟩
    match j, hj with
    | 0, hj => simp at hj; subst hj; exact h0
    | 1, hj => simp at hj; subst hj; exact h1
    | 2, hj => simp at hj; subst hj; exact h2
    | 3, hj => simp at hj; subst hj; exact h3
    | 4, hj => simp at hj; subst hj; exact h4
    | 5, hj => simp at hj; subst hj; exact h5
    | 6, hj => simp at hj; subst hj; exact h6
    | j + 7, hj =>
      simp at hj
      have := hat j u hj
      rwa [show o + 7 + j = o + (j + 7) from by omega] at this
theorem CellsB.body {S : Nat → Prop} {w : World} : ∀ (t : Bd) (cs : List Value) (b o : Nat), CellsB S w cs t → S b → (∀ j u, cs[j]? = some u → w.cell? ⟨b, o + j, none⟩ = some u) → BdS S w b o t
  | .nil, cs, b, o, _, _, _ => trivial
  | .cons k a1 a2 b1 b2 xs sub rest, cs, b, o, h, hS, hat => by
    obtain ⟨va, A, c, cr, rfl, ha, hb, hr⟩ := h
    refine ⟨hS, ⟨hat 0 _ rfl, hat 1 _ rfl, hat 2 _ rfl, hat 3 _ rfl, hat 4 _ rfl⟩, ⟨va, hat 5 _ rfl, ha⟩, ⟨A, c, hat 6 _ rfl, hb⟩, CellsB.body rest cr b (o + 7) hr hS fun j u hj => ?_⟩
    have := hat (j + 7) u (by simpa using hj)
    rwa [show o + (j + 7) = o + 7 + j from by omega] at this
/-- Statements in a row of the call's own. -/
theorem own_body {S : Nat → Prop} {w : World} {base e n c : Nat} {A : Option Addr} {cs : List Value} {t : Bd} (hn : n = t.len) (h : w.ownsRow base e 7 (.slice A n c) n cs) (hc : CellsB S w cs t) (hS : ∀ k, base ≤ k → S k) : BodyS S w A t := by
  subst hn
  intro hp
  obtain ⟨q, cap, hv, hb, _⟩ := own_formM h hp
  injection hv with hv1 hv2 hv3
  subst hv1 hv3
  exact ⟨q, 0, rfl, CellsB.body t cs q 0 hc (hS q hb) fun j u hj => own_cellsM h j u hj⟩
theorem own_slice {w : World} {base e size n : Nat} {v : Value} {xs : List Value} (h : w.ownsRow base e size v n xs) : ∃ A c, v = .slice A n c := by
  rcases h.2 with ⟨rfl, rfl⟩ | ⟨q, cap, cur, rfl, _⟩
  · exact ⟨none, 0, rfl⟩
  · exact ⟨_, _, rfl⟩
set_option maxRecDepth 20000 in
set_option maxHeartbeats 1000000 in
theorem cloneR_any (Aa : Option Addr) (ca : Nat) (xs : List (Int × Int)) (w : World) (h : ArgsAt w (.slice Aa xs.length ca) xs) (hl : xs.length ≤ 1000000000) :
    Calls Try.prog 65 #[.slice Aa xs.length ca] w fun e w' => ∃ A c, e = .returned (.slice A xs.length c) ∧ ArgsS (fun k => w.heap.size ≤ k) w' (.slice A xs.length c) xs ∧ Below w.heap.size w w' := by
  obtain ⟨i0, hi0, hz0, hz1, hz2⟩ := info_parts info46
  obtain ⟨A', c', hv, h⟩ := h
  injection hv with hv1 hv2 hv3
  subst hv1 hv3
  clear hv2
  obtain ⟨n, hnl⟩ : ∃ n, n = xs.length := ⟨_, rfl⟩
  have HFL : Hid ((refV xs).length = n * 2) := by show _ = _; rw [refV_len, hnl]
  have HNL := Lib.hid hnl
  cases Aa with
  | none =>
    have h0 : xs = [] := by
      rcases Nat.eq_zero_or_pos xs.length with h0 | h0
      · exact List.eq_nil_of_length_eq_zero h0
      · obtain ⟨b, o, hA, _⟩ := h h0; cases hA
    subst h0
    clear h
    have hq := fun W => Lib.run_eql_slice_nil (P := Try.prog) W 48 46 none 0 ca 0 0 Try.underlying48
    simp only [List.length_nil]
    go_enter Try.func65, Try.ntmps65
    go_wp2
    go_ret
    exact ⟨none, 0, rfl, ⟨none, 0, rfl, fun hp => by simp at hp⟩, Below.refl _ _⟩
  | some a =>
    have hcc : ∀ j u, (refV xs)[j]? = some u → w.cell? (a.add j) = some u := by
      intro j u hu
      have hp : 0 < xs.length := by
        rcases Nat.eq_zero_or_pos xs.length with h0 | h0
        · have : xs = [] := List.eq_nil_of_length_eq_zero h0
          subst this; simp [refV] at hu
        · exact h0
      obtain ⟨b, o, hA, hc⟩ := h hp
      injection hA with hA
      subst hA
      rw [Go.WideShapes.add_plain]
      exact refV_at hc j u hu
    have HF := Lib.hid hcc
    rw [← hnl] at hl ⊢
    clear hcc h hnl
    have hq := fun W => Lib.run_eql_slice_nil (P := Try.prog) W 48 46 (some a) n ca 0 0 Try.underlying48
    go_enter Try.func65, Try.ntmps65
    go_wp2_with (first | (at_builtin; refine wpList_append_own_at _ rfl (.tmp 5) (.tmp 6) 48 rfl w.heap.size 46 i0 (.agg #[.int .u8 0, .int .i64 0]) 2 16 Try.underlying48 hi0 hz0 hz1 hz2 rfl (by decide) (.slice (some ⟨w.heap.size, 0, none⟩) 0 0) 0 [] rfl ?d1 a n ca (refV xs) rfl ?c1 ?c2 ?c3 ?c4 ?c5 ?c6 ?_))
    case d1 => exact World.ownsRow_made w #[] 0 (Nat.le_refl _) (by unfold maxLen; omega) rfl
    case c1 => exact HFL.out
    case c2 =>
      intro j u hu
      have := HF.out j u hu
      rw [World.cell?_alloc_lt w _ _ (World.block_lt_of_cell? w _ this)]
      exact this
    case c3 => exact refV_one xs
    case c4 => unfold maxLen; omega
    case c5 => omega
    case c6 => simp
    intro v' w1 hown hg _ hat
    have hown' : w1.ownsRow w.heap.size 46 2 v' n (refV xs) := by simpa using hown
    obtain ⟨A, c, rfl⟩ := own_slice hown'
    have HO := Lib.hid hown'
    have HB := Lib.hid (((Below.refl w.heap.size w).alloc (Nat.le_refl _) (.cells #[] 46)).grown hg (by simp) (fun k hk => by simp [Value.ownBlock] at hk; omega))
    clear hown hown' hg hat
    go_wp2
    go_ret
    exact ⟨A, c, rfl, own_argsF HNL.out HO.out, HB.out⟩
set_option maxRecDepth 20000 in
set_option maxHeartbeats 1000000 in
theorem cloneS_any (S : Nat → Prop) (Ab : Option Addr) (cb : Nat) (t : Bd) (w : World) (h : BodyS S w Ab t) (hl : t.len ≤ 1000000000) :
    Calls Try.prog 66 #[.slice Ab t.len cb] w fun e w' => ∃ A c, e = .returned (.slice A t.len c) ∧ (∃ cs, w'.ownsRow w.heap.size 50 7 (.slice A t.len c) t.len cs ∧ CellsB S w cs t) ∧ Below w.heap.size w w' := by
  obtain ⟨i0, hi0, hz0, hz1, hz2⟩ := info_parts info50
  obtain ⟨n, hnl⟩ : ∃ n, n = t.len := ⟨_, rfl⟩
  have HNL := Lib.hid hnl
  cases Ab with
  | none =>
    have h0 : t.len = 0 := by
      rcases Nat.eq_zero_or_pos t.len with h0 | h0
      · exact h0
      · obtain ⟨b, o, hA, _⟩ := h h0; cases hA
    have ht : t = .nil := by cases t with | nil => rfl | cons => simp [Bd.len] at h0
    subst ht
    clear h
    have hq := fun W => Lib.run_eql_slice_nil (P := Try.prog) W 38 50 none 0 cb 0 0 Try.underlying38
    simp only [Bd.len]
    go_enter Try.func66, Try.ntmps66
    go_wp2
    go_ret
    exact ⟨none, 0, rfl, ⟨[], World.ownsRow_nil _ _ _ _, rfl⟩, Below.refl _ _⟩
  | some a =>
    obtain ⟨cs, hcs, hcc⟩ : ∃ cs, CellsB S w cs t ∧ ∀ j u, cs[j]? = some u → w.cell? (a.add j) = some u := by
      rcases Nat.eq_zero_or_pos t.len with h0 | h0
      · have ht : t = .nil := by cases t with | nil => rfl | cons => simp [Bd.len] at h0
        subst ht
        exact ⟨[], rfl, fun j u hj => by simp at hj⟩
      · obtain ⟨b, o, hA, hb⟩ := h h0
        injection hA with hA
        subst hA
        obtain ⟨cs, h1, h2⟩ := BdS.cells t b o hb
        exact ⟨cs, h1, fun j u hj => by rw [Go.WideShapes.add_plain]; exact h2 j u hj⟩
    have HF := Lib.hid hcc
    have HCS := Lib.hid hcs
    have HFL : Hid (cs.length = n * 7) := by show _ = _; rw [CellsB.len t cs hcs, hnl]
    rw [← hnl] at hl ⊢
    clear hcc h hnl hcs
    have hq := fun W => Lib.run_eql_slice_nil (P := Try.prog) W 38 50 (some a) n cb 0 0 Try.underlying38
    go_enter Try.func66, Try.ntmps66
    go_wp2_with (first | (at_builtin; refine wpList_append_own_at _ rfl (.tmp 5) (.tmp 6) 38 rfl w.heap.size 50 i0 (.agg #[.int .u8 0, .int .u8 0, .int .i64 0, .int .u8 0, .int .i64 0, .slice none 0 0, .slice none 0 0]) 7 88 Try.underlying38 hi0 hz0 hz1 hz2 rfl (by decide) (.slice (some ⟨w.heap.size, 0, none⟩) 0 0) 0 [] rfl ?d1 a n cb cs rfl ?c1 ?c2 ?c3 ?c4 ?c5 ?c6 ?_))
    case d1 => exact World.ownsRow_made w #[] 0 (Nat.le_refl _) (by unfold maxLen; omega) rfl
    case c1 => exact HFL.out
    case c2 =>
      intro j u hu
      have := HF.out j u hu
      rw [World.cell?_alloc_lt w _ _ (World.block_lt_of_cell? w _ this)]
      exact this
    case c3 => exact CellsB.one t cs HCS.out
    case c4 => unfold maxLen; omega
    case c5 => omega
    case c6 => simp
    intro v' w1 hown hg _ hat
    have hown' : w1.ownsRow w.heap.size 50 7 v' n cs := by simpa using hown
    obtain ⟨A, c, rfl⟩ := own_slice hown'
    have HO := Lib.hid hown'
    have HB := Lib.hid (((Below.refl w.heap.size w).alloc (Nat.le_refl _) (.cells #[] 50)).grown hg (by simp) (fun k hk => by simp [Value.ownBlock] at hk; omega))
    clear hown hown' hg hat
    go_wp2
    go_ret
    exact ⟨A, c, rfl, ⟨cs, HO.out, HCS.out⟩, HB.out⟩
end Go.Proofs.Ytpdebnecfknohaa
namespace Go.Proofs.Ytpdebnecfknohaa
open Go.RowKit
set_option linter.unusedVariables false
set_option maxRecDepth 20000
/-- A slice's first m cells a place are copied, in another world. -/
def Copied (m : Nat) (W W' : World) (A : Option Addr) (n : Nat) (A' : Option Addr) : Prop := 0 < n → ∀ b o, A = some ⟨b, o, none⟩ → ∃ b' o', A' = some ⟨b', o', none⟩ ∧ ∀ j u, j < n * m → W.cell? ⟨b, o + j, none⟩ = some u → W'.cell? ⟨b', o' + j, none⟩ = some u
/-- One statement's two lists are copies now; all else is as it was. -/
structure Swap (W W' : World) (q p : Nat) : Prop where
  ints : ∀ b o k x, W.cell? ⟨b, o, none⟩ = some (.int k x) → W'.cell? ⟨b, o, none⟩ = some (.int k x)
  rest : ∀ b o A n c, W.cell? ⟨b, o, none⟩ = some (.slice A n c) → ¬ (b = q ∧ (o = p + 5 ∨ o = p + 6)) → W'.cell? ⟨b, o, none⟩ = some (.slice A n c)
  args : ∃ A n c A' c' xs, W.cell? ⟨q, p + 5, none⟩ = some (.slice A n c) ∧ W'.cell? ⟨q, p + 5, none⟩ = some (.slice A' n c') ∧ ArgsAt W (.slice A n c) xs ∧ Copied 2 W W' A n A'
  body : ∃ A n c A' c', W.cell? ⟨q, p + 6, none⟩ = some (.slice A n c) ∧ W'.cell? ⟨q, p + 6, none⟩ = some (.slice A' n c') ∧ Copied 7 W W' A n A'
variable {W W' : World} {q p : Nat}
theorem Swap.argsAt (h : Swap W W' q p) {v : Value} {xs : List (Int × Int)} (ha : ArgsAt W v xs) : ArgsAt W' v xs := by
  obtain ⟨A, c, rfl, ha⟩ := ha
  refine ⟨A, c, rfl, fun hp => ?_⟩
  obtain ⟨b, o, hA, hc⟩ := ha hp
  exact ⟨b, o, hA, fun i hi => ⟨h.ints _ _ _ _ (hc i hi).1, h.ints _ _ _ _ (hc i hi).2⟩⟩
theorem copied_args {A A' : Option Addr} {n c c' m : Nat} {xs : List (Int × Int)} (hm : 2 ≤ m) (hc : Copied m W W' A n A') (ha : ArgsAt W (.slice A n c) xs) : ArgsAt W' (.slice A' n c') xs := by
  obtain ⟨A0, c0, hv, ha⟩ := ha
  injection hv with hv1 hv2 hv3
  subst hv1 hv2
  refine ⟨A', c', rfl, fun hp => ?_⟩
  obtain ⟨b, o, hA, hx⟩ := ha hp
  obtain ⟨b', o', hA', hcp⟩ := hc hp b o hA
  refine ⟨b', o', hA', fun i hi => ?_⟩
  have h1 : i * 2 + 1 < xs.length * m := by
    have : xs.length * 2 ≤ xs.length * m := Nat.mul_le_mul_left _ hm
    omega
  refine ⟨hcp (i * 2) _ (by omega) (hx i hi).1, ?_⟩
  rw [Nat.add_assoc]
  exact hcp (i * 2 + 1) _ h1 (by rw [← Nat.add_assoc]; exact (hx i hi).2)
/-- Cells of statements, from one place to another one. -/
def CpB (W W' : World) (q p b o b' o' n : Nat) : Prop := ∀ i, i < n → (∀ j k x, j < 5 → W.cell? ⟨b, o + i * 7 + j, none⟩ = some (.int k x) → W'.cell? ⟨b', o' + i * 7 + j, none⟩ = some (.int k x)) ∧
  (∀ A m c, W.cell? ⟨b, o + i * 7 + 5, none⟩ = some (.slice A m c) → ∃ A' c', W'.cell? ⟨b', o' + i * 7 + 5, none⟩ = some (.slice A' m c') ∧ (A' = A ∧ c' = c ∨ Copied 2 W W' A m A')) ∧
  (∀ A m c, W.cell? ⟨b, o + i * 7 + 6, none⟩ = some (.slice A m c) → ∃ A' c', W'.cell? ⟨b', o' + i * 7 + 6, none⟩ = some (.slice A' m c') ∧ (A' = A ∨ Copied 7 W W' A m A' ∨ ∃ xs, ArgsAt W (.slice A m c) xs))
theorem CpB.shift {b o b' o' n : Nat} (h : CpB W W' q p b o b' o' (n + 1)) : CpB W W' q p b (o + 7) b' (o' + 7) n := fun i hi => by
  have := h (i + 1) (by omega)
  rw [show o + 7 + i * 7 = o + (i + 1) * 7 from by omega, show o' + 7 + i * 7 = o' + (i + 1) * 7 from by omega]
  exact this
theorem Swap.here (h : Swap W W' q p) (b o n : Nat) : CpB W W' q p b o b o n := fun i hi => by
  obtain ⟨A5, n5, c5, A5', c5', xs5, g1, g2, g3, g4⟩ := h.args
  obtain ⟨A6, n6, c6, A6', c6', k1, k2, k3⟩ := h.body
  refine ⟨fun j k x _ hx => h.ints _ _ _ _ hx, fun A m c hx => ?_, fun A m c hx => ?_⟩
  · by_cases hq : b = q ∧ (o + i * 7 + 5 = p + 5 ∨ o + i * 7 + 5 = p + 6)
    · obtain ⟨rfl, hq | hq⟩ := hq
      · rw [hq] at hx ⊢
        rw [hx] at g1
        injection g1 with g1
        injection g1 with e1 e2 e3
        subst e1 e2 e3
        exact ⟨A5', c5', g2, .inr g4⟩
      · rw [hq] at hx ⊢
        rw [hx] at k1
        injection k1 with k1
        injection k1 with e1 e2 e3
        subst e1 e2 e3
        refine ⟨A6', c6', k2, .inr fun hp b2 o2 hA => ?_⟩
        obtain ⟨b', o', hA', hc⟩ := k3 hp b2 o2 hA
        exact ⟨b', o', hA', fun j u hj hu => hc j u (by omega) hu⟩
    · exact ⟨A, c, h.rest _ _ _ _ _ hx hq, .inl ⟨rfl, rfl⟩⟩
  · by_cases hq : b = q ∧ (o + i * 7 + 6 = p + 5 ∨ o + i * 7 + 6 = p + 6)
    · obtain ⟨rfl, hq | hq⟩ := hq
      · rw [hq] at hx ⊢
        rw [hx] at g1
        injection g1 with g1
        injection g1 with e1 e2 e3
        subst e1 e2 e3
        exact ⟨A5', c5', g2, .inr (.inr ⟨xs5, g3⟩)⟩
      · rw [hq] at hx ⊢
        rw [hx] at k1
        injection k1 with k1
        injection k1 with e1 e2 e3
        subst e1 e2 e3
        exact ⟨A6', c6', k2, .inr (.inl k3)⟩
    · exact ⟨A, c, h.rest _ _ _ _ _ hx hq, .inl rfl⟩
theorem Swap.bdAt (h : Swap W W' q p) (N : Nat) : ∀ (t : Bd) (b o b' o' : Nat), t.size ≤ N → BdAt W b o t → CpB W W' q p b o b' o' t.len → BdAt W' b' o' t := by
  induction N with
  | zero =>
    intro t b o b' o' hN _ _
    cases t with
    | nil => trivial
    | cons => simp [Bd.size] at hN
  | succ N ih =>
    intro t b o b' o' hN ht hc
    cases t with
    | nil => trivial
    | cons k a1 a2 b1 b2 xs sub rest =>
      obtain ⟨⟨h0, h1, h2, h3, h4⟩, ⟨va, h5, ha⟩, ⟨A, c, h6, hs⟩, hr⟩ := ht
      simp only [Bd.size] at hN
      obtain ⟨e0, e5, e6⟩ := hc 0 (by simp [Bd.len])
      simp only [Nat.zero_mul, Nat.add_zero] at e0 e5 e6
      obtain ⟨Aa, ca, rfl, ha'⟩ := ha
      have haa : ArgsAt W (.slice Aa xs.length ca) xs := ⟨Aa, ca, rfl, ha'⟩
      obtain ⟨Aa', ca', g5, hg5⟩ := e5 _ _ _ h5
      obtain ⟨A', c', g6, hg6⟩ := e6 _ _ _ h6
      refine ⟨⟨e0 0 _ _ (by omega) h0, e0 1 _ _ (by omega) h1, e0 2 _ _ (by omega) h2, e0 3 _ _ (by omega) h3, e0 4 _ _ (by omega) h4⟩, ⟨_, g5, ?_⟩, ⟨A', c', g6, fun hp => ?_⟩, ih rest b (o + 7) b' (o' + 7) (by omega) hr (CpB.shift hc)⟩
      · rcases hg5 with ⟨rfl, rfl⟩ | hg5
        · exact h.argsAt haa
        · exact copied_args (Nat.le_refl _) hg5 haa
      · obtain ⟨bs, os, hA, hbs⟩ := hs hp
        rcases hg6 with rfl | hg6 | ⟨ys, hys⟩
        · exact ⟨bs, os, hA, ih sub bs os bs os (by omega) hbs (h.here bs os sub.len)⟩
        · obtain ⟨b2, o2, hA2, hcp⟩ := hg6 hp bs os hA
          refine ⟨b2, o2, hA2, ih sub bs os b2 o2 (by omega) hbs fun i hi => ⟨fun j k x hj hx => ?_, fun A m c hx => ⟨A, c, ?_, .inl ⟨rfl, rfl⟩⟩, fun A m c hx => ⟨A, c, ?_, .inl rfl⟩⟩⟩
          · rw [Nat.add_assoc]; exact hcp (i * 7 + j) _ (by omega) (by rw [← Nat.add_assoc]; exact hx)
          · rw [Nat.add_assoc]; exact hcp (i * 7 + 5) _ (by omega) (by rw [← Nat.add_assoc]; exact hx)
          · rw [Nat.add_assoc]; exact hcp (i * 7 + 6) _ (by omega) (by rw [← Nat.add_assoc]; exact hx)
        · exfalso
          obtain ⟨A0, c0, hv, hy⟩ := hys
          injection hv with hv1 hv2 hv3
          subst hv1
          rw [hv2] at hp
          obtain ⟨b2, o2, hA2, hcy⟩ := hy hp
          rw [hA] at hA2
          injection hA2 with hA2
          injection hA2 with e1 e2
          subst e1 e2
          have hi := (hcy 0 hp).2
          cases sub with
          | nil => simp [Bd.len] at hv2; omega
          | cons k2 x1 x2 y1 y2 zs s2 r2 =>
            have hj := hbs.1.2.1
            simp only [Nat.zero_mul, Nat.add_zero] at hi
            rw [hi] at hj
            injection hj with hj
            injection hj with hj
            cases hj
end Go.Proofs.Ytpdebnecfknohaa
namespace Go.Proofs.Ytpdebnecfknohaa
open Go.RowKit
set_option linter.unusedVariables false
set_option maxRecDepth 20000
theorem Swap.of {W W5 W' : World} {q p : Nat} {k a1 a2 b1 b2 : Int} {Aa As A1 A4 : Option Addr} {ca cs c1 c4 : Nat} {xs : List (Int × Int)} {sub : Bd} (hb : Below W.heap.size W W5)
    (h0 : W.cell? ⟨q, p, none⟩ = some (.int .u8 k)) (h1 : W.cell? ⟨q, p + 1, none⟩ = some (.int .u8 a1)) (h2 : W.cell? ⟨q, p + 2, none⟩ = some (.int .i64 a2)) (h3 : W.cell? ⟨q, p + 3, none⟩ = some (.int .u8 b1)) (h4 : W.cell? ⟨q, p + 4, none⟩ = some (.int .i64 b2)) (h5 : W.cell? ⟨q, p + 5, none⟩ = some (.slice Aa xs.length ca)) (h6 : W.cell? ⟨q, p + 6, none⟩ = some (.slice As sub.len cs))
    (hfar : ∀ a : Addr, a.block ≠ q → W'.cell? a = W5.cell? a) (hsame : ∀ o, (∀ j, j < 7 → o ≠ p + j) → W'.cell? ⟨q, o, none⟩ = W5.cell? ⟨q, o, none⟩)
    (g0 : W'.cell? ⟨q, p, none⟩ = some (.int .u8 k)) (g1 : W'.cell? ⟨q, p + 1, none⟩ = some (.int .u8 a1)) (g2 : W'.cell? ⟨q, p + 2, none⟩ = some (.int .i64 a2)) (g3 : W'.cell? ⟨q, p + 3, none⟩ = some (.int .u8 b1)) (g4 : W'.cell? ⟨q, p + 4, none⟩ = some (.int .i64 b2)) (g5 : W'.cell? ⟨q, p + 5, none⟩ = some (.slice A1 xs.length c1)) (g6 : W'.cell? ⟨q, p + 6, none⟩ = some (.slice A4 sub.len c4))
    (ha : ArgsAt W (.slice Aa xs.length ca) xs) (hA : ArgsS (fun k => k ≠ q) W5 (.slice A1 xs.length c1) xs)
    {csb : List Value} {base : Nat} (hO : W5.ownsRow base 50 7 (.slice A4 sub.len c4) sub.len csb) (hbase : q < base) (hl : csb.length = sub.len * 7) (hcc : ∀ a, As = some a → ∀ j u, csb[j]? = some u → W.cell? (a.add j) = some u) : Swap W W' q p := by
  have key : ∀ b o u, W.cell? ⟨b, o, none⟩ = some u → ¬ (b = q ∧ (o = p + 5 ∨ o = p + 6)) → W'.cell? ⟨b, o, none⟩ = some u := fun b o u hu hne => by
    have hlt := World.block_lt_of_cell? W ⟨b, o, none⟩ hu
    have hu5 := cell_old hb hlt hu
    by_cases hq : b = q
    · subst hq
      by_cases hj : ∀ j, j < 7 → o ≠ p + j
      · rw [hsame o hj]; exact hu5
      · obtain ⟨j, hj⟩ := Classical.not_forall.1 hj
        obtain ⟨hj7, hoj⟩ := Classical.not_imp.1 hj
        have hoj : o = p + j := Classical.not_not.1 hoj
        subst hoj
        match j, hj7 with
        | 0, _ => rw [Nat.add_zero] at hu ⊢; rw [hu] at h0; injection h0 with e; rw [e]; exact g0
        | 1, _ => rw [hu] at h1; injection h1 with e; rw [e]; exact g1
        | 2, _ => rw [hu] at h2; injection h2 with e; rw [e]; exact g2
        | 3, _ => rw [hu] at h3; injection h3 with e; rw [e]; exact g3
        | 4, _ => rw [hu] at h4; injection h4 with e; rw [e]; exact g4
        | 5, _ => exact absurd ⟨rfl, .inl rfl⟩ hne
        | 6, _ => exact absurd ⟨rfl, .inr rfl⟩ hne
    · rw [hfar _ hq]; exact hu5
  refine ⟨fun b o k' x hx => key b o _ hx (fun ⟨e1, e2⟩ => ?_), fun b o A n c hx hne => key b o _ hx hne, ⟨Aa, xs.length, ca, A1, c1, xs, h5, g5, ha, fun hp b o hA1 => ?_⟩, ⟨As, sub.len, cs, A4, c4, h6, g6, fun hp b o hA4 => ?_⟩⟩
  · subst e1
    rcases e2 with rfl | rfl
    · rw [h5] at hx; cases hx
    · rw [h6] at hx; cases hx
  · obtain ⟨A0, c0, hv, hx⟩ := hA
    injection hv with hv1 hv2 hv3
    subst hv1
    obtain ⟨b', o', hA', hne, hc'⟩ := hx hp
    refine ⟨b', o', hA', fun j u hj hu => ?_⟩
    obtain ⟨A2, c2, hv, hy⟩ := ha
    injection hv with hv1 hv2 hv3
    subst hv1
    obtain ⟨b2, o2, hA2, hc2⟩ := hy hp
    rw [hA1] at hA2
    injection hA2 with hA2
    injection hA2 with e1 e2
    subst e1 e2
    rw [hfar _ hne]
    have hd : ∀ (Z : World) (bz oz : Nat), (∀ i, i < xs.length → Z.cell? ⟨bz, oz + i * 2, none⟩ = some (.int .u8 (xs.getD i (0, 0)).1) ∧ Z.cell? ⟨bz, oz + i * 2 + 1, none⟩ = some (.int .i64 (xs.getD i (0, 0)).2)) → ∃ v, (refV xs)[j]? = some v ∧ Z.cell? ⟨bz, oz + j, none⟩ = some v := fun Z bz oz hz => by
      have hjl : j < (refV xs).length := by rw [refV_len]; exact hj
      exact ⟨_, List.getElem?_eq_getElem hjl, refV_at hz j _ (List.getElem?_eq_getElem hjl)⟩
    obtain ⟨v1, hv1, hz1⟩ := hd W b o hc2
    obtain ⟨v2, hv2, hz2⟩ := hd W5 b' o' hc'
    rw [hv1] at hv2
    injection hv2 with hv2
    rw [hz1] at hu
    injection hu with hu
    rw [hz2, ← hv2, hu]
  · obtain ⟨q4, cap, hv, hb4, _⟩ := own_formM hO hp
    injection hv with hv1 _ hv3
    subst hv1 hv3
    refine ⟨q4, 0, rfl, fun j u hj hu => ?_⟩
    have hjl : j < csb.length := by rw [hl]; exact hj
    have h1 := hcc _ hA4 j _ (List.getElem?_eq_getElem hjl)
    rw [Go.WideShapes.add_plain, hu] at h1
    rw [hfar _ (by show q4 ≠ q; omega), own_cellsM hO j _ (List.getElem?_eq_getElem hjl)]
    exact h1.symm
end Go.Proofs.Ytpdebnecfknohaa
namespace Go.Proofs.Ytpdebnecfknohaa
open Go.RowKit
set_option linter.unusedVariables false
set_option maxRecDepth 20000
theorem BdS.inS {S : Nat → Prop} {W : World} {b o : Nat} {t : Bd} (hp : 0 < t.len) (h : BdS S W b o t) : S b := by
  cases t with
  | nil => simp [Bd.len] at hp
  | cons => exact h.1
/-- A slice's first m cells a place are copied, in another world. -/
def CopiedS (S' : Nat → Prop) (m : Nat) (W W' : World) (A : Option Addr) (n : Nat) (A' : Option Addr) : Prop := 0 < n → ∀ b o, A = some ⟨b, o, none⟩ → ∃ b' o', A' = some ⟨b', o', none⟩ ∧ S' b' ∧ ∀ j u, j < n * m → W.cell? ⟨b, o + j, none⟩ = some u → W'.cell? ⟨b', o' + j, none⟩ = some u
/-- One statement's two lists are copies now; all else is as it was. -/
structure SwapS (S S' : Nat → Prop) (W W' : World) (q p : Nat) : Prop where
  mono : ∀ k, S k → S' k
  ints : ∀ b o k x, W.cell? ⟨b, o, none⟩ = some (.int k x) → W'.cell? ⟨b, o, none⟩ = some (.int k x)
  rest : ∀ b o A n c, W.cell? ⟨b, o, none⟩ = some (.slice A n c) → ¬ (b = q ∧ (o = p + 5 ∨ o = p + 6)) → W'.cell? ⟨b, o, none⟩ = some (.slice A n c)
  args : ∃ A n c A' c' xs, W.cell? ⟨q, p + 5, none⟩ = some (.slice A n c) ∧ W'.cell? ⟨q, p + 5, none⟩ = some (.slice A' n c') ∧ ArgsAt W (.slice A n c) xs ∧ CopiedS S' 2 W W' A n A'
  body : ∃ A n c A' c', W.cell? ⟨q, p + 6, none⟩ = some (.slice A n c) ∧ W'.cell? ⟨q, p + 6, none⟩ = some (.slice A' n c') ∧ CopiedS S' 7 W W' A n A'
variable {S S' : Nat → Prop} {W W' : World} {q p : Nat}
theorem SwapS.argsAt (h : SwapS S S' W W' q p) {v : Value} {xs : List (Int × Int)} (ha : ArgsS S W v xs) : ArgsS S' W' v xs := by
  obtain ⟨A, c, rfl, ha⟩ := ha
  refine ⟨A, c, rfl, fun hp => ?_⟩
  obtain ⟨b, o, hA, hb, hc⟩ := ha hp
  exact ⟨b, o, hA, h.mono _ hb, fun i hi => ⟨h.ints _ _ _ _ (hc i hi).1, h.ints _ _ _ _ (hc i hi).2⟩⟩
theorem copied_argsS {A A' : Option Addr} {n c c' m : Nat} {xs : List (Int × Int)} (hm : 2 ≤ m) (hc : CopiedS S' m W W' A n A') (ha : ArgsS S W (.slice A n c) xs) : ArgsS S' W' (.slice A' n c') xs := by
  obtain ⟨A0, c0, hv, ha⟩ := ha
  injection hv with hv1 hv2 hv3
  subst hv1 hv2
  refine ⟨A', c', rfl, fun hp => ?_⟩
  obtain ⟨b, o, hA, hb, hx⟩ := ha hp
  obtain ⟨b', o', hA', hb', hcp⟩ := hc hp b o hA
  refine ⟨b', o', hA', hb', fun i hi => ?_⟩
  have h1 : i * 2 + 1 < xs.length * m := by
    have : xs.length * 2 ≤ xs.length * m := Nat.mul_le_mul_left _ hm
    omega
  refine ⟨hcp (i * 2) _ (by omega) (hx i hi).1, ?_⟩
  rw [Nat.add_assoc]
  exact hcp (i * 2 + 1) _ h1 (by rw [← Nat.add_assoc]; exact (hx i hi).2)
/-- Cells of statements, from one place to another one. -/
def CpBS (S' : Nat → Prop) (W W' : World) (q p b o b' o' n : Nat) : Prop := ∀ i, i < n → (∀ j k x, j < 5 → W.cell? ⟨b, o + i * 7 + j, none⟩ = some (.int k x) → W'.cell? ⟨b', o' + i * 7 + j, none⟩ = some (.int k x)) ∧
  (∀ A m c, W.cell? ⟨b, o + i * 7 + 5, none⟩ = some (.slice A m c) → ∃ A' c', W'.cell? ⟨b', o' + i * 7 + 5, none⟩ = some (.slice A' m c') ∧ (A' = A ∧ c' = c ∨ CopiedS S' 2 W W' A m A')) ∧
  (∀ A m c, W.cell? ⟨b, o + i * 7 + 6, none⟩ = some (.slice A m c) → ∃ A' c', W'.cell? ⟨b', o' + i * 7 + 6, none⟩ = some (.slice A' m c') ∧ (A' = A ∨ CopiedS S' 7 W W' A m A' ∨ ∃ xs, ArgsAt W (.slice A m c) xs))
theorem CpBS.shift {b o b' o' n : Nat} (h : CpBS S' W W' q p b o b' o' (n + 1)) : CpBS S' W W' q p b (o + 7) b' (o' + 7) n := fun i hi => by
  have := h (i + 1) (by omega)
  rw [show o + 7 + i * 7 = o + (i + 1) * 7 from by omega, show o' + 7 + i * 7 = o' + (i + 1) * 7 from by omega]
  exact this
theorem SwapS.here (h : SwapS S S' W W' q p) (b o n : Nat) : CpBS S' W W' q p b o b o n := fun i hi => by
  obtain ⟨A5, n5, c5, A5', c5', xs5, g1, g2, g3, g4⟩ := h.args
  obtain ⟨A6, n6, c6, A6', c6', k1, k2, k3⟩ := h.body
  refine ⟨fun j k x _ hx => h.ints _ _ _ _ hx, fun A m c hx => ?_, fun A m c hx => ?_⟩
  · by_cases hq : b = q ∧ (o + i * 7 + 5 = p + 5 ∨ o + i * 7 + 5 = p + 6)
    · obtain ⟨rfl, hq | hq⟩ := hq
      · rw [hq] at hx ⊢
        rw [hx] at g1
        injection g1 with g1
        injection g1 with e1 e2 e3
        subst e1 e2 e3
        exact ⟨A5', c5', g2, .inr g4⟩
      · rw [hq] at hx ⊢
        rw [hx] at k1
        injection k1 with k1
        injection k1 with e1 e2 e3
        subst e1 e2 e3
        refine ⟨A6', c6', k2, .inr fun hp b2 o2 hA => ?_⟩
        obtain ⟨b', o', hA', hb', hc⟩ := k3 hp b2 o2 hA
        exact ⟨b', o', hA', hb', fun j u hj hu => hc j u (by omega) hu⟩
    · exact ⟨A, c, h.rest _ _ _ _ _ hx hq, .inl ⟨rfl, rfl⟩⟩
  · by_cases hq : b = q ∧ (o + i * 7 + 6 = p + 5 ∨ o + i * 7 + 6 = p + 6)
    · obtain ⟨rfl, hq | hq⟩ := hq
      · rw [hq] at hx ⊢
        rw [hx] at g1
        injection g1 with g1
        injection g1 with e1 e2 e3
        subst e1 e2 e3
        exact ⟨A5', c5', g2, .inr (.inr ⟨xs5, g3⟩)⟩
      · rw [hq] at hx ⊢
        rw [hx] at k1
        injection k1 with k1
        injection k1 with e1 e2 e3
        subst e1 e2 e3
        exact ⟨A6', c6', k2, .inr (.inl k3)⟩
    · exact ⟨A, c, h.rest _ _ _ _ _ hx hq, .inl rfl⟩
theorem SwapS.bdAt (h : SwapS S S' W W' q p) (N : Nat) : ∀ (t : Bd) (b o b' o' : Nat), t.size ≤ N → BdS S W b o t → S' b' → CpBS S' W W' q p b o b' o' t.len → BdS S' W' b' o' t := by
  induction N with
  | zero =>
    intro t b o b' o' hN _ _ _
    cases t with
    | nil => trivial
    | cons => simp [Bd.size] at hN
  | succ N ih =>
    intro t b o b' o' hN ht hSb hc
    cases t with
    | nil => trivial
    | cons k a1 a2 b1 b2 xs sub rest =>
      obtain ⟨hS0, ⟨h0, h1, h2, h3, h4⟩, ⟨va, h5, ha⟩, ⟨A, c, h6, hs⟩, hr⟩ := ht
      simp only [Bd.size] at hN
      obtain ⟨e0, e5, e6⟩ := hc 0 (by simp [Bd.len])
      simp only [Nat.zero_mul, Nat.add_zero] at e0 e5 e6
      obtain ⟨Aa, ca, rfl, ha'⟩ := ha
      have haa : ArgsS S W (.slice Aa xs.length ca) xs := ⟨Aa, ca, rfl, ha'⟩
      obtain ⟨Aa', ca', g5, hg5⟩ := e5 _ _ _ h5
      obtain ⟨A', c', g6, hg6⟩ := e6 _ _ _ h6
      refine ⟨hSb, ⟨e0 0 _ _ (by omega) h0, e0 1 _ _ (by omega) h1, e0 2 _ _ (by omega) h2, e0 3 _ _ (by omega) h3, e0 4 _ _ (by omega) h4⟩, ⟨_, g5, ?_⟩, ⟨A', c', g6, fun hp => ?_⟩, ih rest b (o + 7) b' (o' + 7) (by omega) hr hSb (CpBS.shift hc)⟩
      · rcases hg5 with ⟨rfl, rfl⟩ | hg5
        · exact h.argsAt haa
        · exact copied_argsS (Nat.le_refl _) hg5 haa
      · obtain ⟨bs, os, hA, hbs⟩ := hs hp
        rcases hg6 with rfl | hg6 | ⟨ys, hys⟩
        · exact ⟨bs, os, hA, ih sub bs os bs os (by omega) hbs (h.mono _ (BdS.inS hp hbs)) (h.here bs os sub.len)⟩
        · obtain ⟨b2, o2, hA2, hb2, hcp⟩ := hg6 hp bs os hA
          refine ⟨b2, o2, hA2, ih sub bs os b2 o2 (by omega) hbs hb2 fun i hi => ⟨fun j k x hj hx => ?_, fun A m c hx => ⟨A, c, ?_, .inl ⟨rfl, rfl⟩⟩, fun A m c hx => ⟨A, c, ?_, .inl rfl⟩⟩⟩
          · rw [Nat.add_assoc]; exact hcp (i * 7 + j) _ (by omega) (by rw [← Nat.add_assoc]; exact hx)
          · rw [Nat.add_assoc]; exact hcp (i * 7 + 5) _ (by omega) (by rw [← Nat.add_assoc]; exact hx)
          · rw [Nat.add_assoc]; exact hcp (i * 7 + 6) _ (by omega) (by rw [← Nat.add_assoc]; exact hx)
        · exfalso
          obtain ⟨A0, c0, hv, hy⟩ := hys
          injection hv with hv1 hv2 hv3
          subst hv1
          rw [hv2] at hp
          obtain ⟨b2, o2, hA2, hcy⟩ := hy hp
          rw [hA] at hA2
          injection hA2 with hA2
          injection hA2 with e1 e2
          subst e1 e2
          have hi := (hcy 0 hp).2
          cases sub with
          | nil => simp [Bd.len] at hv2; omega
          | cons k2 x1 x2 y1 y2 zs s2 r2 =>
            have hj := hbs.2.1.2.1
            simp only [Nat.zero_mul, Nat.add_zero] at hi
            rw [hi] at hj
            injection hj with hj
            injection hj with hj
            cases hj
theorem SwapS.bodyS (h : SwapS S S' W W' q p) {A : Option Addr} {t : Bd} (ht : BodyS S W A t) : BodyS S' W' A t := fun hp => by
  obtain ⟨b, o, hA, hb⟩ := ht hp
  exact ⟨b, o, hA, h.bdAt t.size t b o b o (Nat.le_refl _) hb (h.mono _ (BdS.inS hp hb)) (h.here b o t.len)⟩
/-- One round's stores: a statement with copies of its lists. -/
theorem SwapS.of {W5 : World} {k a1 a2 b1 b2 : Int} {Aa As A1 A4 : Option Addr} {ca cs c1 c4 : Nat} {xs : List (Int × Int)} {sub : Bd} (hb : Below W.heap.size W W5) (hmono : ∀ k, S k → S' k)
    (h0 : W.cell? ⟨q, p, none⟩ = some (.int .u8 k)) (h1 : W.cell? ⟨q, p + 1, none⟩ = some (.int .u8 a1)) (h2 : W.cell? ⟨q, p + 2, none⟩ = some (.int .i64 a2)) (h3 : W.cell? ⟨q, p + 3, none⟩ = some (.int .u8 b1)) (h4 : W.cell? ⟨q, p + 4, none⟩ = some (.int .i64 b2)) (h5 : W.cell? ⟨q, p + 5, none⟩ = some (.slice Aa xs.length ca)) (h6 : W.cell? ⟨q, p + 6, none⟩ = some (.slice As sub.len cs))
    (hfar : ∀ a : Addr, a.block ≠ q → W'.cell? a = W5.cell? a) (hsame : ∀ o, (∀ j, j < 7 → o ≠ p + j) → W'.cell? ⟨q, o, none⟩ = W5.cell? ⟨q, o, none⟩)
    (g0 : W'.cell? ⟨q, p, none⟩ = some (.int .u8 k)) (g1 : W'.cell? ⟨q, p + 1, none⟩ = some (.int .u8 a1)) (g2 : W'.cell? ⟨q, p + 2, none⟩ = some (.int .i64 a2)) (g3 : W'.cell? ⟨q, p + 3, none⟩ = some (.int .u8 b1)) (g4 : W'.cell? ⟨q, p + 4, none⟩ = some (.int .i64 b2)) (g5 : W'.cell? ⟨q, p + 5, none⟩ = some (.slice A1 xs.length c1)) (g6 : W'.cell? ⟨q, p + 6, none⟩ = some (.slice A4 sub.len c4))
    (ha : ArgsAt W (.slice Aa xs.length ca) xs) (hA : ArgsS (fun k => k ≠ q ∧ S' k) W5 (.slice A1 xs.length c1) xs)
    {csb : List Value} {base : Nat} (hO : W5.ownsRow base 50 7 (.slice A4 sub.len c4) sub.len csb) (hbase : q < base) (hS4 : ∀ k, some k = (Value.slice A4 sub.len c4).ownBlock → S' k) (hl : csb.length = sub.len * 7) (hcc : ∀ a, As = some a → ∀ j u, csb[j]? = some u → W.cell? (a.add j) = some u) : SwapS S S' W W' q p := by
  have key : ∀ b o u, W.cell? ⟨b, o, none⟩ = some u → ¬ (b = q ∧ (o = p + 5 ∨ o = p + 6)) → W'.cell? ⟨b, o, none⟩ = some u := fun b o u hu hne => by
    have hlt := World.block_lt_of_cell? W ⟨b, o, none⟩ hu
    have hu5 := cell_old hb hlt hu
    by_cases hq : b = q
    · subst hq
      by_cases hj : ∀ j, j < 7 → o ≠ p + j
      · rw [hsame o hj]; exact hu5
      · obtain ⟨j, hj⟩ := Classical.not_forall.1 hj
        obtain ⟨hj7, hoj⟩ := Classical.not_imp.1 hj
        have hoj : o = p + j := Classical.not_not.1 hoj
        subst hoj
        match j, hj7 with
        | 0, _ => rw [Nat.add_zero] at hu ⊢; rw [hu] at h0; injection h0 with e; rw [e]; exact g0
        | 1, _ => rw [hu] at h1; injection h1 with e; rw [e]; exact g1
        | 2, _ => rw [hu] at h2; injection h2 with e; rw [e]; exact g2
        | 3, _ => rw [hu] at h3; injection h3 with e; rw [e]; exact g3
        | 4, _ => rw [hu] at h4; injection h4 with e; rw [e]; exact g4
        | 5, _ => exact absurd ⟨rfl, .inl rfl⟩ hne
        | 6, _ => exact absurd ⟨rfl, .inr rfl⟩ hne
    · rw [hfar _ hq]; exact hu5
  refine ⟨hmono, fun b o k' x hx => key b o _ hx (fun ⟨e1, e2⟩ => ?_), fun b o A n c hx hne => key b o _ hx hne, ⟨Aa, xs.length, ca, A1, c1, xs, h5, g5, ha, fun hp b o hA1 => ?_⟩, ⟨As, sub.len, cs, A4, c4, h6, g6, fun hp b o hA4 => ?_⟩⟩
  · subst e1
    rcases e2 with rfl | rfl
    · rw [h5] at hx; cases hx
    · rw [h6] at hx; cases hx
  · obtain ⟨A0, c0, hv, hx⟩ := hA
    injection hv with hv1 hv2 hv3
    subst hv1
    obtain ⟨b', o', hA', ⟨hne, hSb⟩, hc'⟩ := hx hp
    refine ⟨b', o', hA', hSb, fun j u hj hu => ?_⟩
    obtain ⟨A2, c2, hv, hy⟩ := ha
    injection hv with hv1 hv2 hv3
    subst hv1
    obtain ⟨b2, o2, hA2, hc2⟩ := hy hp
    rw [hA1] at hA2
    injection hA2 with hA2
    injection hA2 with e1 e2
    subst e1 e2
    rw [hfar _ hne]
    have hd : ∀ (Z : World) (bz oz : Nat), (∀ i, i < xs.length → Z.cell? ⟨bz, oz + i * 2, none⟩ = some (.int .u8 (xs.getD i (0, 0)).1) ∧ Z.cell? ⟨bz, oz + i * 2 + 1, none⟩ = some (.int .i64 (xs.getD i (0, 0)).2)) → ∃ v, (refV xs)[j]? = some v ∧ Z.cell? ⟨bz, oz + j, none⟩ = some v := fun Z bz oz hz => by
      have hjl : j < (refV xs).length := by rw [refV_len]; exact hj
      exact ⟨_, List.getElem?_eq_getElem hjl, refV_at hz j _ (List.getElem?_eq_getElem hjl)⟩
    obtain ⟨v1, hv1, hz1⟩ := hd W b o hc2
    obtain ⟨v2, hv2, hz2⟩ := hd W5 b' o' hc'
    rw [hv1] at hv2
    injection hv2 with hv2
    rw [hz1] at hu
    injection hu with hu
    rw [hz2, ← hv2, hu]
  · obtain ⟨q4, cap, hv, hb4, _⟩ := own_formM hO hp
    injection hv with hv1 _ hv3
    subst hv1 hv3
    refine ⟨q4, 0, rfl, hS4 q4 rfl, fun j u hj hu => ?_⟩
    have hjl : j < csb.length := by rw [hl]; exact hj
    have h1 := hcc _ hA4 j _ (List.getElem?_eq_getElem hjl)
    rw [Go.WideShapes.add_plain, hu] at h1
    rw [hfar _ (by show q4 ≠ q; omega), own_cellsM hO j _ (List.getElem?_eq_getElem hjl)]
    exact h1.symm
end Go.Proofs.Ytpdebnecfknohaa
namespace Go.Proofs.Ytpdebnecfknohaa
open Go.RowKit
set_option linter.unusedVariables false
set_option maxRecDepth 20000
/-- A list of statements that is left, with the slice that says it. -/
structure Ln where
  A : Option Addr
  c : Nat
  t : Bd
def flatL (P : List Ln) : List Value := P.map fun p => .slice p.A p.t.len p.c
def wtL : List Ln → Nat
  | [] => 0
  | p :: P => p.t.size + 1 + wtL P
/-- Blocks of the call's own that are rows stay rows. -/
def Stay (W W' : World) : Prop := ∀ b T cs, Blk W b T cs → ∃ cs', Blk W' b T cs'
theorem Stay.refl (W : World) : Stay W W := fun b T cs h => ⟨cs, h⟩
theorem Stay.trans {W W' W2 : World} (h : Stay W W') (h2 : Stay W' W2) : Stay W W2 := fun b T cs hb => by
  obtain ⟨cs', hb'⟩ := h b T cs hb
  exact h2 b T cs' hb'
theorem Stay.set_ (W : World) (p : Addr) (hp : p = ⟨p.block, p.off, none⟩) (u : Value) : Stay W (W.setCell p u) := fun b T cs h => by
  by_cases hb : b = p.block
  · subst hb
    refine ⟨cs.setIfInBounds p.off u, ?_⟩
    rw [hp]
    exact Blk.set_ h p.off u
  · exact ⟨cs, h.far hb u⟩
theorem Stay.old {W W' : World} (hb : Below W.heap.size W W') : Stay W W' := fun b T cs h => ⟨cs, h.old hb⟩
/-- What may be changed of a statement. -/
def LooseAt (base : Nat) (W : World) (q k : Nat) : Prop := (∃ x, W.cell? ⟨q, k * 7, none⟩ = some (.int .u8 x)) ∧
  (∃ A m c, W.cell? ⟨q, k * 7 + 5, none⟩ = some (.slice A m c) ∧ (0 < m → ∃ b x T cs, A = some ⟨b, 0, none⟩ ∧ base ≤ b ∧ Blk W b T cs ∧ (T = 46 ∨ T = 50) ∧ W.cell? ⟨b, 1, none⟩ = some (.int .i64 x))) ∧
  (∃ A m c, W.cell? ⟨q, k * 7 + 6, none⟩ = some (.slice A m c) ∧ (0 < m → ∃ b x T cs, A = some ⟨b, 0, none⟩ ∧ base ≤ b ∧ Blk W b T cs ∧ (T = 46 ∨ T = 50) ∧ W.cell? ⟨b, 0, none⟩ = some (.int .u8 x)))
theorem LooseAt.swap {S S' : Nat → Prop} {base : Nat} {W W' : World} {q k qs ps : Nat} (h : LooseAt base W q k) (hs : SwapS S S' W W' qs ps) (hst : Stay W W') (hne : ¬ (q = qs ∧ (k * 7 + 5 = ps + 5 ∨ k * 7 + 5 = ps + 6))) (hne2 : ¬ (q = qs ∧ (k * 7 + 6 = ps + 5 ∨ k * 7 + 6 = ps + 6))) : LooseAt base W' q k := by
  obtain ⟨⟨x, h0⟩, ⟨A, m, c, h5, ha⟩, ⟨A', m', c', h6, hb⟩⟩ := h
  refine ⟨⟨x, hs.ints _ _ _ _ h0⟩, ⟨A, m, c, hs.rest _ _ _ _ _ h5 hne, fun hp => ?_⟩, ⟨A', m', c', hs.rest _ _ _ _ _ h6 hne2, fun hp => ?_⟩⟩
  · obtain ⟨b, x, T, cs, hA, hb, hB, hT, hc⟩ := ha hp
    obtain ⟨cs', hB'⟩ := hst b T cs hB
    exact ⟨b, x, T, cs', hA, hb, hB', hT, hs.ints _ _ _ _ hc⟩
  · obtain ⟨b, x, T, cs, hA, hb, hB, hT, hc⟩ := hb hp
    obtain ⟨cs', hB'⟩ := hst b T cs hB
    exact ⟨b, x, T, cs', hA, hb, hB', hT, hs.ints _ _ _ _ hc⟩
/-- A block that was there, of a kind, or one of the call's own that is no row of lists. -/
def NR (S0 : Nat → Prop) (base : Nat) (W : World) (k : Nat) : Prop := (k < base ∧ S0 k) ∨ (base ≤ k ∧ ∃ T cs, Blk W k T cs ∧ T ≠ 38)
theorem NR.stay {S0 : Nat → Prop} {base : Nat} {W W' : World} (hs : Stay W W') (k : Nat) (h : NR S0 base W k) : NR S0 base W' k := by
  rcases h with h | ⟨hk, T, cs, h, hT⟩
  · exact .inl h
  · obtain ⟨cs', h'⟩ := hs k T cs h
    exact .inr ⟨hk, T, cs', h', hT⟩
/-- What is left of copyBody's work: a list of statements in a row of the call's own. -/
def OKl (S0 : Nat → Prop) (base : Nat) (W : World) (p : Ln) : Prop := (0 < p.t.len → ∃ q cs, p.A = some ⟨q, 0, none⟩ ∧ base ≤ q ∧ Blk W q 50 cs) ∧ BodyS (NR S0 base W) W p.A p.t ∧ p.t.wide ≤ 1000000000
theorem OKl.swap {S0 : Nat → Prop} {base : Nat} {W W' : World} {qs ps : Nat} {p : Ln} (h : OKl S0 base W p) (hs : SwapS (NR S0 base W) (NR S0 base W') W W' qs ps) (hst : Stay W W') : OKl S0 base W' p := by
  refine ⟨fun hp => ?_, hs.bodyS h.2.1, h.2.2⟩
  obtain ⟨q, cs, hA, hq, hB⟩ := h.1 hp
  obtain ⟨cs', hB'⟩ := hst q 50 cs hB
  exact ⟨q, cs', hA, hq, hB'⟩
theorem own_geB {w : World} {base e size n : Nat} {v : Value} {xs : List Value} (h : w.ownsRow base e size v n xs) : ∀ k, some k = v.ownBlock → base ≤ k := fun k hk => by
  rcases h.2 with ⟨rfl, _⟩ | ⟨q, cap, cur, rfl, hq, hh, _⟩
  · simp [Value.ownBlock] at hk
  · have : k = q := by simpa [Value.ownBlock] using hk
    omega
/-- Behind an append to a row of lists. -/
theorem NR.kept {S0 : Nat → Prop} {base n : Nat} {W W' : World} {v : Value} {xs : List Value} (hO : W.ownsRow base 38 1 v n xs) (hg : W.grownBy W' v.ownBlock) : Kept (NR S0 base W) W W' := fun k hk hlt => by
  refine hg.block k hlt (fun e => ?_)
  rcases hk with ⟨hk, _⟩ | ⟨_, T, cs, hB, hT⟩
  · have := own_geB hO k e; omega
  · exact own_ne hO hB (fun x => hT x.symm) e
theorem NR.still {S0 : Nat → Prop} {base n : Nat} {W W' : World} {v : Value} {xs : List Value} (hO : W.ownsRow base 38 1 v n xs) (hg : W.grownBy W' v.ownBlock) (k : Nat) (hk : NR S0 base W k) (hlt : k < W.heap.size) : NR S0 base W' k := by
  rcases hk with hk | ⟨hk, T, cs, hB, hT⟩
  · exact .inl hk
  · exact .inr ⟨hk, T, cs, hB.grown hg (own_ne hO hB (fun x => hT x.symm)), hT⟩
theorem OKl.grown {S0 : Nat → Prop} {base n : Nat} {W W' : World} {v : Value} {xs : List Value} {p : Ln} (h : OKl S0 base W p) (hO : W.ownsRow base 38 1 v n xs) (hg : W.grownBy W' v.ownBlock) : OKl S0 base W' p := by
  refine ⟨fun hp => ?_, h.2.1.kept (NR.kept hO hg) (fun k hk hlt => NR.still hO hg k hk hlt), h.2.2⟩
  obtain ⟨q, cs, hA, hq, hB⟩ := h.1 hp
  exact ⟨q, cs, hA, hq, hB.grown hg (own_ne hO hB (by decide))⟩
theorem LooseAt.grown {base n : Nat} {W W' : World} {v : Value} {xs : List Value} {q k : Nat} {cs : Array Value} (h : LooseAt base W q k) (hq : Blk W q 50 cs) (hO : W.ownsRow base 38 1 v n xs) (hg : W.grownBy W' v.ownBlock) : LooseAt base W' q k := by
  have kc : ∀ (b T : Nat) (ds : Array Value), Blk W b T ds → ∀ (o : Nat) (u : Value), W.cell? ⟨b, o, none⟩ = some u → T ≠ 38 → W'.cell? ⟨b, o, none⟩ = some u := fun b T ds hB o u hu hT =>
    (World.cell?_of_block (hg.block b hB.lt (own_ne hO hB (fun x => hT x.symm)))).trans hu
  obtain ⟨⟨x, h0⟩, ⟨A, m, c, h5, ha⟩, ⟨A', m', c', h6, hb⟩⟩ := h
  refine ⟨⟨x, kc q 50 cs hq _ _ h0 (by decide)⟩, ⟨A, m, c, kc q 50 cs hq _ _ h5 (by decide), fun hp => ?_⟩, ⟨A', m', c', kc q 50 cs hq _ _ h6 (by decide), fun hp => ?_⟩⟩
  · obtain ⟨b, x, T, ds, hA, hb, hB, hT, hc⟩ := ha hp
    exact ⟨b, x, T, ds, hA, hb, hB.grown hg (own_ne hO hB (fun e => by rcases hT with rfl | rfl <;> cases e)), hT, kc b T ds hB _ _ hc (fun e => by rcases hT with rfl | rfl <;> cases e)⟩
  · obtain ⟨b, x, T, ds, hA, hb, hB, hT, hc⟩ := hb hp
    exact ⟨b, x, T, ds, hA, hb, hB.grown hg (own_ne hO hB (fun e => by rcases hT with rfl | rfl <;> cases e)), hT, kc b T ds hB _ _ hc (fun e => by rcases hT with rfl | rfl <;> cases e)⟩
theorem own_blk {w : World} {base e size n : Nat} {v : Value} {xs : List Value} (h : w.ownsRow base e size v n xs) (k : Nat) (hk : some k = v.ownBlock) : base ≤ k ∧ ∃ cur, Blk w k e cur := by
  rcases h.2 with ⟨rfl, _⟩ | ⟨q, cap, cur, rfl, hq, hh, _⟩
  · simp [Value.ownBlock] at hk
  · have : k = q := by simpa [Value.ownBlock] using hk
    subst this
    exact ⟨hq, cur, hh⟩
/-- Seven cells of a row. -/
def put7 (w : World) (q p : Nat) (v0 v1 v2 v3 v4 v5 v6 : Value) : World := ((((((w.setCell ⟨q, p, none⟩ v0).setCell ⟨q, p + 1, none⟩ v1).setCell ⟨q, p + 2, none⟩ v2).setCell ⟨q, p + 3, none⟩ v3).setCell ⟨q, p + 4, none⟩ v4).setCell ⟨q, p + 5, none⟩ v5).setCell ⟨q, p + 6, none⟩ v6
section
variable {w : World} {q p : Nat} {v0 v1 v2 v3 v4 v5 v6 : Value}
end
end Go.Proofs.Ytpdebnecfknohaa
namespace Go.Proofs.Ytpdebnecfknohaa
open Go.RowKit
set_option linter.unusedVariables false
set_option maxRecDepth 20000
theorem BdS.drop {S : Nat → Prop} {w : World} : ∀ (t : Bd) (b o i : Nat), BdS S w b o t → BdS S w b (o + i * 7) (t.drop i)
  | t, b, o, 0, h => by simpa [Bd.drop] using h
  | .nil, b, o, i + 1, h => by simp [Bd.drop, BdS]
  | .cons _ _ _ _ _ _ _ rest, b, o, i + 1, h => by
    have := BdS.drop rest b (o + 7) i h.2.2.2.2
    rw [show o + (i + 1) * 7 = o + 7 + i * 7 from by omega]
    exact this
/-- What one round leaves. -/
structure Round (S0 : Nat → Prop) (base : Nat) (wr W' : World) (qp i : Nat) (A4 : Option Addr) (c4 : Nat) (sub : Bd) : Prop where
  swap : SwapS (NR S0 base wr) (NR S0 base W') wr W' qp (i * 7)
  stay : Stay wr W'
  loose : LooseAt base W' qp i
  sub : ∀ (Ap : Option Addr) (cp : Nat) (tp : Bd) (k a1 a2 b1 b2 : Int) (xs : List (Int × Int)) (rest : Bd), Ap = some ⟨qp, 0, none⟩ → i < tp.len → tp.drop i = .cons k a1 a2 b1 b2 xs sub rest → OKl S0 base wr ⟨Ap, cp, tp⟩ → OKl S0 base W' ⟨A4, c4, sub⟩
  bel : ∀ w : World, base = w.heap.size → Below w.heap.size w wr → Below w.heap.size w W'
  own : ∀ (v : Value) (n : Nat) (xs : List Value), wr.ownsRow base 38 1 v n xs → W'.ownsRow base 38 1 v n xs
theorem OKl.old {S0 : Nat → Prop} {base : Nat} {W W' : World} {p : Ln} (h : OKl S0 base W p) (hb : Below W.heap.size W W') : OKl S0 base W' p := by
  refine ⟨fun hp => ?_, h.2.1.kept (Below.keptS hb) (fun k hk _ => NR.stay (Stay.old hb) k hk), h.2.2⟩
  obtain ⟨q, cs, h1, h2, h3⟩ := h.1 hp
  exact ⟨q, cs, h1, h2, h3.old hb⟩
theorem LooseAt.old {base : Nat} {W W' : World} {q k : Nat} (h : LooseAt base W q k) (hb : Below W.heap.size W W') : LooseAt base W' q k := by
  have kc : ∀ (b o : Nat) (u : Value), W.cell? ⟨b, o, none⟩ = some u → W'.cell? ⟨b, o, none⟩ = some u := fun b o u hu => cell_old hb (World.block_lt_of_cell? W ⟨b, o, none⟩ hu) hu
  obtain ⟨⟨x, h0⟩, ⟨A, m, c, h5, ha⟩, ⟨A', m', c', h6, hb'⟩⟩ := h
  refine ⟨⟨x, kc _ _ _ h0⟩, ⟨A, m, c, kc _ _ _ h5, fun hp => ?_⟩, ⟨A', m', c', kc _ _ _ h6, fun hp => ?_⟩⟩
  · obtain ⟨b, x, T, ds, hA, hbb, hB, hT, hc⟩ := ha hp
    exact ⟨b, x, T, ds, hA, hbb, hB.old hb, hT, kc _ _ _ hc⟩
  · obtain ⟨b, x, T, ds, hA, hbb, hB, hT, hc⟩ := hb' hp
    exact ⟨b, x, T, ds, hA, hbb, hB.old hb, hT, kc _ _ _ hc⟩
end Go.Proofs.Ytpdebnecfknohaa
namespace Go.Proofs.Ytpdebnecfknohaa
open Go.RowKit
set_option linter.unusedVariables false
set_option maxRecDepth 20000
theorem ArgsS.low {S : Nat → Prop} {w : World} {v : Value} {l : List (Int × Int)} (h : ArgsS S w v l) : ArgsS (fun k => k < w.heap.size ∧ S k) w v l := by
  obtain ⟨A, c, hv, h⟩ := h
  refine ⟨A, c, hv, fun hp => ?_⟩
  obtain ⟨b, o, hA, hS, hc⟩ := h hp
  exact ⟨b, o, hA, ⟨World.block_lt_of_cell? w ⟨b, o + 0 * 2, none⟩ (hc 0 hp).1, hS⟩, hc⟩
theorem BdS.low {S : Nat → Prop} {w : World} : ∀ (t : Bd) (b o : Nat), BdS S w b o t → BdS (fun k => k < w.heap.size ∧ S k) w b o t
  | .nil, _, _, _ => trivial
  | .cons k a1 a2 b1 b2 args sub rest, b, o, h => by
    obtain ⟨hS, h1, ⟨va, h2, h3⟩, ⟨A, c, h4, h5⟩, h6⟩ := h
    refine ⟨⟨World.block_lt_of_cell? w ⟨b, o, none⟩ h1.1, hS⟩, h1, ⟨va, h2, h3.low⟩, ⟨A, c, h4, fun hp => ?_⟩, BdS.low rest b _ h6⟩
    obtain ⟨b', o', hA, h7⟩ := h5 hp
    exact ⟨b', o', hA, BdS.low sub b' o' h7⟩
theorem BodyS.low {S : Nat → Prop} {w : World} {A : Option Addr} {t : Bd} (h : BodyS S w A t) : BodyS (fun k => k < w.heap.size ∧ S k) w A t := fun hp => by
  obtain ⟨b, o, hA, h1⟩ := h hp
  exact ⟨b, o, hA, BdS.low t b o h1⟩
/-- What copyBody leaves: a body like that, in rows of the call's own. -/
def CbPost (S0 : Nat → Prop) (w w' : World) (A : Option Addr) (t : Bd) : Prop := (0 < t.len → ∃ q cs, A = some ⟨q, 0, none⟩ ∧ w.heap.size ≤ q ∧ Blk w' q 50 cs ∧ ∀ k, k < t.len → LooseAt w.heap.size w' q k) ∧ BodyS (fun k => w.heap.size ≤ k ∨ S0 k) w' A t ∧ Below w.heap.size w w'
end Go.Proofs.Ytpdebnecfknohaa
namespace Go.Proofs.Ytpdebnecfknohaa
open Go.RowKit
set_option linter.unusedVariables false
set_option maxRecDepth 20000
theorem Bd.sub_size (t : Bd) (i : Nat) {k a1 a2 b1 b2 : Int} {xs : List (Int × Int)} {s r : Bd} (h : t.drop i = .cons k a1 a2 b1 b2 xs s r) : s.size + 1 ≤ t.size ∧ s.wide + xs.length ≤ t.wide := by
  have h1 := Bd.wide_drop t i
  have h2 := Bd.size_drop t i
  rw [h] at h1 h2
  simp only [Bd.wide, Bd.size] at h1 h2
  omega
theorem below_dN (w : World) (n B : Nat) : Below B w (w.drewN n) := ⟨rfl, rfl, rfl, Nat.le_refl _, fun _ _ => rfl⟩
end Go.Proofs.Ytpdebnecfknohaa
namespace Go.Proofs.Ytpdebnecfknohaa
open Go.RowKit
set_option linter.unusedVariables false
set_option maxRecDepth 20000
def St7.small (s : St7) : Prop := s.xs.length ≤ 3 ∧ s.sub.size ≤ 2 ∧ s.sub.wide ≤ 3
theorem stm0_small (nl ng nf ns : Nat) (par : Nat → Nat) (K A B C : Nat) (hp : ∀ i, par i ≤ 3) : (stm0 nl ng nf ns par K A B C).xs.length ≤ 3 ∧ (stm0 nl ng nf ns par K A B C).sub = .nil := by
  have := hp (B % nf)
  have h4 : C / 4 % 4 ≤ 3 := by omega
  unfold stm0
  repeat' split
  all_goals simp
  all_goals omega
theorem stm_small (nl ng nf ns : Nat) (par : Nat → Nat) (K A B C : Nat) (hp : ∀ i, par i ≤ 3) : (stm nl ng nf ns par K A B C).small := by
  unfold stm
  split
  · split
    · exact ⟨by simp, by simp [Bd.size], by simp [Bd.wide]⟩
    · obtain ⟨h1, h2⟩ := stm0_small nl ng nf ns par (C % 8) A B C hp
      refine ⟨by simp, ?_, ?_⟩
      · simp [St7.ahead, Bd.size, h2]
      · simp [St7.ahead, Bd.wide, h2]; exact h1
  · obtain ⟨h1, h2⟩ := stm0_small nl ng nf ns par K A B C hp
    exact ⟨h1, by rw [h2]; simp [Bd.size], by rw [h2]; simp [Bd.wide]⟩
theorem bdOf_small : ∀ l : List St7, (∀ s ∈ l, s.small) → (bdOf l).size ≤ 3 * l.length ∧ (bdOf l).wide ≤ 6 * l.length
  | [], _ => by simp [bdOf, Bd.size, Bd.wide]
  | s :: l, h => by
    obtain ⟨h1, h2⟩ := bdOf_small l (fun x hx => h x (by simp [hx]))
    obtain ⟨g1, g2, g3⟩ := h s (by simp)
    simp only [bdOf, St7.ahead, Bd.size, Bd.wide, List.length_cons]
    omega
theorem pF_le (F i : Nat) : pF F i ≤ 3 := by unfold pF; omega
theorem mkT_small (F ng n na : Nat) (acts : List Ac) (k : Nat) : ∀ T ∈ mkT F ng n na acts k, ∀ s ∈ T, s.small := by
  induction k with
  | zero => intro T hT; simp [mkT] at hT; simp [hT.2]
  | succ k ih =>
    intro T hT
    simp only [mkT] at hT
    rcases List.mem_or_eq_of_mem_set hT with h | rfl
    · exact ih T h
    · intro s hs
      rcases List.mem_append.1 hs with h | h
      · rw [List.getD_eq_getElem?_getD] at h
        by_cases hj : actJ n na k < (mkT F ng n na acts k).length
        · rw [List.getElem?_eq_getElem hj] at h
          exact ih _ (List.getElem_mem hj) s h
        · rw [List.getElem?_eq_none (by omega)] at h
          simp at h
      · simp at h; subst h
        exact stm_small _ _ _ _ _ _ _ _ _ (pF_le F)
/-- A module that is no greater than these. -/
structure Md.Small (M : Md) : Prop where
  fns : 0 < M.funcs.length ∧ M.funcs.length ≤ 4
  body : ∀ f ∈ M.funcs, f.body.size ≤ 1000 ∧ f.body.wide ≤ 1000
theorem mk_small (gs : List (List UInt8)) (gl : List Int) (F E : Nat) (acts : List Ac) : (canM (mkM gs gl F E acts)).Small := by
  have hl : (mkM gs gl F E acts).funcs.length = 1 + F % 4 := by
    simp only [mkM]
    rw [fillB_len _ _ (by rw [mkT_len, mkL_len]), mkL_len]
  refine ⟨by simp only [canM, List.length_map, hl]; omega, fun f hf => ?_⟩
  simp only [canM, List.mem_map] at hf
  obtain ⟨f0, hf0, rfl⟩ := hf
  simp only [canFn]
  simp only [mkM, fillB] at hf0
  obtain ⟨i, hi, rfl⟩ := List.mem_iff_getElem.1 hf0
  simp only [List.getElem_zipWith]
  have hm := List.getElem_mem (l := mkT F gl.length (1 + F % 4) acts.length acts (min acts.length 60)) (n := i) (by simp at hi; omega)
  have h1 := mkT_small F gl.length (1 + F % 4) acts.length acts (min acts.length 60) _ hm
  have h2 := mkT_le F gl.length (1 + F % 4) acts.length acts (min acts.length 60) _ hm
  have h3 := bdOf_small _ h1
  omega
/-- What is read of one function. -/
theorem FnRow.at_ {w : World} {base : Nat} {X : Nat → Prop} {A : Option Addr} {n c : Nat} {L : List Fn} (h : FnRow w base X (.slice A n c) L) (i : Nat) (hi : i < L.length) : ∃ q, A = some ⟨q, 0, none⟩ ∧ q < w.heap.size ∧ base ≤ q ∧ n = L.length ∧ n ≤ c ∧ ∃ Al cl At ct Ab cb, RdS (fun k => some k ≠ some q ∧ X k) w Al L[i].locals.length 1 (intV L[i].locals) ∧ RdS (fun k => some k ≠ some q ∧ X k) w At L[i].sites.length 1 (intV L[i].sites) ∧ BodyS (fun k => some k ≠ some q ∧ X k) w Ab L[i].body ∧
    ∀ j u, ([.int .i64 L[i].name, .int .i64 L[i].params, .slice Al L[i].locals.length cl, .slice At L[i].sites.length ct, .slice Ab L[i].body.len cb] : List Value)[j]? = some u → w.cell? ⟨q, i * 5 + j, none⟩ = some u := by
  obtain ⟨css, h1, h2, h3⟩ := h.own
  have hn : n = L.length := by
    rcases h1.2 with ⟨hv, h0⟩ | ⟨k, cap', cur, hv, _⟩
    · injection hv with _ hv; omega
    · injection hv
  subst hn
  obtain ⟨q, cap, hv, hbq, hq⟩ := own_formM h1 (by omega)
  injection hv with hv1 _ hv3
  subst hv1 hv3
  obtain ⟨cs, hcs, Al, cl, At, ct, Ab, cb, rfl, r1, r2, hb⟩ := h3 i hi
  refine ⟨q, rfl, hq, hbq, rfl, ?_, Al, cl, At, ct, Ab, cb, r1, r2, hb, fun j u hj => ?_⟩
  · rcases h1.2 with ⟨hv, _⟩ | ⟨k, cap', cur, hv, _, _, h5, _⟩
    · cases hv
    · injection hv with _ _ hv; subst hv; exact h5
  · have hj5 : j < 5 := by
      rcases Nat.lt_or_ge j 5 with h | h
      · exact h
      · rw [List.getElem?_eq_none (by simpa using h)] at hj; cases hj
    have hall : ∀ c ∈ css, c.length = 5 := fun c hc => by
      obtain ⟨m, hm, rfl⟩ := List.mem_iff_getElem.1 hc
      obtain ⟨c2, hc2, _, _, _, _, _, _, e, _⟩ := h3 m (by omega)
      rw [List.getElem?_eq_getElem hm] at hc2
      injection hc2 with hc2
      rw [hc2, e]; rfl
    have flat_get : ∀ (l : List (List Value)) (i : Nat) (r : List Value), (∀ c ∈ l, c.length = 5) → l[i]? = some r → ∀ j, j < 5 → l.flatten[i * 5 + j]? = r[j]? := by
      intro l
      induction l with
      | nil => intro i r _ h; simp at h
      | cons x l ih =>
        intro i r hl hi j hj
        have hx : x.length = 5 := hl x (by simp)
        cases i with
        | zero =>
          simp at hi; subst hi
          rw [List.flatten_cons, List.getElem?_append_left (by omega)]; simp
        | succ i =>
          rw [List.flatten_cons, List.getElem?_append_right (by omega), hx, show (i + 1) * 5 + j - 5 = i * 5 + j from by omega]
          exact ih i r (fun c hc => hl c (by simp [hc])) (by simpa using hi) j hj
    have := own_cellsM h1 (i * 5 + j) u (by rw [flat_get css i _ hall hcs j hj5]; exact hj)
    rwa [Nat.zero_add] at this
end Go.Proofs.Ytpdebnecfknohaa
namespace Go.Proofs.Ytpdebnecfknohaa
open Go.RowKit
set_option linter.unusedVariables false
set_option maxRecDepth 20000
/-- A truth, and nothing but draws. -/
def QuB (w : World) (v : Bool) (e : Ending) (w' : World) : Prop := e = .returned (.bool v) ∧ ∃ k, w' = w.drewN k
theorem RdS.at_ {S : Nat → Prop} {w w' : World} {A : Option Addr} {n : Nat} {xs : List Value} (h : RdS S w A n 1 xs) (hb : Below w.heap.size w w') (i : Nat) (hi : i < n) {u : Value} (hu : xs[i]? = some u) : ∃ b o, A = some ⟨b, o, none⟩ ∧ b < w'.heap.size ∧ w'.cell? ⟨b, o + i, none⟩ = some u := by
  obtain ⟨b, o, hA, _, hc⟩ := h.2 (by omega)
  have := hc i u hu
  have hl := World.block_lt_of_cell? w ⟨b, o + i, none⟩ this
  exact ⟨b, o, hA, Nat.lt_of_lt_of_le hl hb.size, cell_old hb hl this⟩
end Go.Proofs.Ytpdebnecfknohaa
namespace Go.Proofs.Ytpdebnecfknohaa
open Go.RowKit
set_option linter.unusedVariables false
set_option maxRecDepth 20000
set_option linter.unusedSimpArgs false
def fnSame (f g : Fn) : Bool := decide (f.name = g.name) && (decide (f.params = g.params) && (decide (f.locals = g.locals) && (decide (f.sites = g.sites) && f.body.same g.body)))
def fnsSame : List Fn → List Fn → Bool
  | [], [] => true
  | f :: l, g :: m => fnSame f g && fnsSame l m
  | _, _ => false
/-- A truth, and what was there is as it was. -/
def BoB (w : World) (v : Bool) (e : Ending) (w' : World) : Prop := e = .returned (.bool v) ∧ Below w.heap.size w w'
theorem QuB.bo {w w' : World} {v : Bool} {e : Ending} (h : QuB w v e w') : BoB w v e w' := by
  obtain ⟨he, k, rfl⟩ := h
  exact ⟨he, below_dN _ _ _⟩
/-- No list is too long. -/
structure Fn.Fit (f : Fn) : Prop where
  locals : f.locals.length ≤ 1000000
  sites : f.sites.length ≤ 1000000
  size : f.body.size ≤ 10000000
  wide : f.body.wide ≤ 10000000
end Go.Proofs.Ytpdebnecfknohaa
namespace Go.Proofs.Ytpdebnecfknohaa
open Go.RowKit
set_option linter.unusedVariables false
set_option maxRecDepth 20000
set_option linter.unusedSimpArgs false
theorem FnsS.at_ {S : Nat → Prop} {w w' : World} {A : Option Addr} {L : List Fn} (h : FnsS S w A L) (hb : Below w.heap.size w w') (i : Nat) (hi : i < L.length) : ∃ b o A1 a1 A2 a2 A3 a3, A = some ⟨b, o, none⟩ ∧ b < w'.heap.size ∧ (w'.cell? ⟨b, o + i * 5, none⟩ = some (.int .i64 L[i].name) ∧ w'.cell? ⟨b, o + i * 5 + 1, none⟩ = some (.int .i64 L[i].params) ∧ w'.cell? ⟨b, o + i * 5 + 2, none⟩ = some (.slice A1 L[i].locals.length a1) ∧ w'.cell? ⟨b, o + i * 5 + 3, none⟩ = some (.slice A2 L[i].sites.length a2) ∧ w'.cell? ⟨b, o + i * 5 + 4, none⟩ = some (.slice A3 L[i].body.len a3)) ∧ RdS (fun _ => True) w' A1 L[i].locals.length 1 (intV L[i].locals) ∧ RdS (fun _ => True) w' A2 L[i].sites.length 1 (intV L[i].sites) ∧ BodyV w' A3 L[i].body := by
  obtain ⟨b, o, hA, _, hc⟩ := h (by omega)
  obtain ⟨cs, ⟨A1, a1, A2, a2, A3, a3, rfl, r1, r2, r3⟩, hat⟩ := hc i hi
  have hl : b < w.heap.size := World.block_lt_of_cell? w ⟨b, o + i * 5 + 0, none⟩ (hat 0 _ rfl)
  refine ⟨b, o, A1, a1, A2, a2, A3, a3, hA, Nat.lt_of_lt_of_le hl hb.size, ⟨cell_old hb hl (hat 0 _ rfl), cell_old hb hl (hat 1 _ rfl), cell_old hb hl (hat 2 _ rfl), cell_old hb hl (hat 3 _ rfl), cell_old hb hl (hat 4 _ rfl)⟩, (r1.old hb (by omega)).below (fun _ _ => trivial), (r2.old hb (by omega)).below (fun _ _ => trivial), r3.at_.old hb⟩
/-- A module that is read. -/
structure MdR (w : World) (As Ag Af Ae : Option Addr) (M : Md) : Prop where
  strs : RdS (fun _ => True) w As M.strs.length 1 (strV M.strs)
  globs : RdS (fun _ => True) w Ag M.globs.length 1 (intV M.globs)
  funcs : FnsS (fun _ => True) w Af M.funcs
  ents : RdS (fun _ => True) w Ae M.ents.length 1 (intV M.ents)
theorem MdR.old {w w' : World} {As Ag Af Ae : Option Addr} {M : Md} (h : MdR w As Ag Af Ae M) (hb : Below w.heap.size w w') : MdR w' As Ag Af Ae M :=
  ⟨h.strs.old hb (by omega), h.globs.old hb (by omega), h.funcs.old hb, h.ents.old hb (by omega)⟩
structure Md.Fit (M : Md) : Prop where
  strs : M.strs.length ≤ 1000000
  globs : M.globs.length ≤ 1000000
  funcs : M.funcs.length ≤ 1000000
  ents : M.ents.length ≤ 1000000
  fns : ∀ f ∈ M.funcs, f.Fit
def mdSame (M N : Md) : Bool := decide (M.strs = N.strs) && (decide (M.globs = N.globs) && (fnsSame M.funcs N.funcs && decide (M.ents = N.ents)))
end Go.Proofs.Ytpdebnecfknohaa
namespace Go.Proofs.Ytpdebnecfknohaa
open Go.RowKit
set_option linter.unusedVariables false
set_option maxRecDepth 20000
/-- The cells of functions. -/
def FnCells (S : Nat → Prop) (w : World) (cs : List Value) (L : List Fn) : Prop := cs.length = L.length * 5 ∧ (∀ u ∈ cs, u.oneCell' = true) ∧ ∀ i (h : i < L.length), ∃ fs, FnS S w fs L[i] ∧ ∀ j u, fs[j]? = some u → cs[i * 5 + j]? = some u
theorem fnS_len {S : Nat → Prop} {w : World} {fs : List Value} {f : Fn} (h : FnS S w fs f) : fs.length = 5 := by
  obtain ⟨Al, cl, As, cs', Ab, cb, rfl, _⟩ := h
  rfl
theorem RdS.low {S : Nat → Prop} {w : World} {A : Option Addr} {n : Nat} {xs : List Value} (r : RdS S w A n 1 xs) : RdS (fun k => k < w.heap.size ∧ S k) w A n 1 xs := by
  refine ⟨r.1, fun hp => ?_⟩
  obtain ⟨b, o, hA, hS, hc⟩ := r.2 hp
  have hx : 0 < xs.length := by rw [r.1]; omega
  exact ⟨b, o, hA, ⟨World.block_lt_of_cell? w ⟨b, o + 0, none⟩ (hc 0 _ (List.getElem?_eq_getElem hx)), hS⟩, hc⟩
theorem FnsS.low {S : Nat → Prop} {w : World} {A : Option Addr} {L : List Fn} (h : FnsS S w A L) : FnsS (fun k => k < w.heap.size ∧ S k) w A L := fun hp => by
  obtain ⟨b, o, hA, hS, hb⟩ := h hp
  obtain ⟨fs0, hf0, hc0⟩ := hb 0 hp
  have hl0 := fnS_len hf0
  have hlt : b < w.heap.size := World.block_lt_of_cell? w ⟨b, o + 0 * 5 + 0, none⟩ (hc0 0 _ (List.getElem?_eq_getElem (by omega)))
  refine ⟨b, o, hA, ⟨hlt, hS⟩, fun i hi => ?_⟩
  obtain ⟨fs, ⟨Al, cl, As, cs', Ab, cb, e, r1, r2, r3⟩, hc⟩ := hb i hi
  exact ⟨fs, ⟨Al, cl, As, cs', Ab, cb, e, r1.low, r2.low, r3.low⟩, hc⟩
theorem FnCells.kept {S S' : Nat → Prop} {w w' : World} {cs : List Value} {L : List Fn} (h : FnCells S w cs L) (hk : Kept S w w') (hS : ∀ k, S k → k < w.heap.size → S' k) : FnCells S' w' cs L := ⟨h.1, h.2.1, fun i hi => by
  obtain ⟨fs, hf, hc⟩ := h.2.2 i hi
  exact ⟨fs, hf.kept hk hS, hc⟩⟩
/-- What may be changed of a function of a copy. -/
def FMut (base : Nat) (W : World) (qf j : Nat) : Prop := ∃ x Al ll cl Ab lb cb, W.cell? ⟨qf, j * 5, none⟩ = some (.int .i64 x) ∧ W.cell? ⟨qf, j * 5 + 2, none⟩ = some (.slice Al ll cl) ∧ W.cell? ⟨qf, j * 5 + 4, none⟩ = some (.slice Ab lb cb) ∧
  (0 < ll → ∃ ql y cs, Al = some ⟨ql, 0, none⟩ ∧ base ≤ ql ∧ Blk W ql 3 cs ∧ W.cell? ⟨ql, 0, none⟩ = some (.int .i64 y)) ∧
  (0 < lb → ∃ qb cs, Ab = some ⟨qb, 0, none⟩ ∧ base ≤ qb ∧ Blk W qb 50 cs ∧ ∀ k, k < lb → LooseAt base W qb k)
theorem LooseAt.far {base qf T0 : Nat} {cs0 : Array Value} {W W' : World} {q k : Nat} {cs : Array Value} (h : LooseAt base W q k) (hq : Blk W q 50 cs) (hf : Blk W qf T0 cs0) (h43 : T0 ≠ 46) (h46 : T0 ≠ 50) (hk : ∀ k, k < W.heap.size → k ≠ qf → W'.heap[k]? = W.heap[k]?) : LooseAt base W' q k := by
  have ne : ∀ b T (ds : Array Value), Blk W b T ds → (T = 46 ∨ T = 50) → b ≠ qf := fun b T ds hb hT e => by
    subst e
    have := hb.uniq hf
    rcases hT with rfl | rfl
    · exact h43 this.symm
    · exact h46 this.symm
  have kc : ∀ (b T : Nat) (ds : Array Value), Blk W b T ds → (T = 46 ∨ T = 50) → ∀ (o : Nat) (u : Value), W.cell? ⟨b, o, none⟩ = some u → W'.cell? ⟨b, o, none⟩ = some u := fun b T ds hB hT o u hu => (World.cell?_of_block (hk b hB.lt (ne b T ds hB hT))).trans hu
  have kb : ∀ (b T : Nat) (ds : Array Value), Blk W b T ds → (T = 46 ∨ T = 50) → Blk W' b T ds := fun b T ds hB hT => (hk b hB.lt (ne b T ds hB hT)).trans hB
  obtain ⟨⟨x, h0⟩, ⟨A, m, c, h5, ha⟩, ⟨A', m', c', h6, hb'⟩⟩ := h
  refine ⟨⟨x, kc _ _ _ hq (.inr rfl) _ _ h0⟩, ⟨A, m, c, kc _ _ _ hq (.inr rfl) _ _ h5, fun hp => ?_⟩, ⟨A', m', c', kc _ _ _ hq (.inr rfl) _ _ h6, fun hp => ?_⟩⟩
  · obtain ⟨b, x, T, ds, hA, hbb, hB, hT, hc⟩ := ha hp
    exact ⟨b, x, T, ds, hA, hbb, kb _ _ _ hB hT, hT, kc _ _ _ hB hT _ _ hc⟩
  · obtain ⟨b, x, T, ds, hA, hbb, hB, hT, hc⟩ := hb' hp
    exact ⟨b, x, T, ds, hA, hbb, kb _ _ _ hB hT, hT, kc _ _ _ hB hT _ _ hc⟩
theorem LooseAt.base {base base' : Nat} {W : World} {q k : Nat} (h : LooseAt base' W q k) (hb : base ≤ base') : LooseAt base W q k := by
  obtain ⟨h0, ⟨A, m, c, h5, ha⟩, ⟨A', m', c', h6, hb'⟩⟩ := h
  refine ⟨h0, ⟨A, m, c, h5, fun hp => ?_⟩, ⟨A', m', c', h6, fun hp => ?_⟩⟩
  · obtain ⟨b, x, T, ds, hA, hbb, r⟩ := ha hp
    exact ⟨b, x, T, ds, hA, by omega, r⟩
  · obtain ⟨b, x, T, ds, hA, hbb, r⟩ := hb' hp
    exact ⟨b, x, T, ds, hA, by omega, r⟩
/-- Behind changes of the functions' row that leave this function's cells. -/
theorem FMut.far {base qf j : Nat} {cs0 : Array Value} {W W' : World} (h : FMut base W qf j) (hf : Blk W qf 40 cs0) (hk : ∀ k, k < W.heap.size → k ≠ qf → W'.heap[k]? = W.heap[k]?) (hc : ∀ t, t < 5 → W'.cell? ⟨qf, j * 5 + t, none⟩ = W.cell? ⟨qf, j * 5 + t, none⟩) : FMut base W' qf j := by
  obtain ⟨x, Al, ll, cl, Ab, lb, cb, e0, e2, e4, h1, h2⟩ := h
  refine ⟨x, Al, ll, cl, Ab, lb, cb, (hc 0 (by omega)).trans e0, (hc 2 (by omega)).trans e2, (hc 4 (by omega)).trans e4, fun hp => ?_, fun hp => ?_⟩
  · obtain ⟨ql, y, cs, hA, hb, hB, hy⟩ := h1 hp
    have hh := hk ql hB.lt (fun e => by subst e; exact absurd (hB.uniq hf) (by decide))
    exact ⟨ql, y, cs, hA, hb, hh.trans hB, (World.cell?_of_block hh).trans hy⟩
  · obtain ⟨qb, cs, hA, hb, hB, hL⟩ := h2 hp
    have hh := hk qb hB.lt (fun e => by subst e; exact absurd (hB.uniq hf) (by decide))
    exact ⟨qb, cs, hA, hb, hh.trans hB, fun k hkk => (hL k hkk).far hB hf (by decide) (by decide) hk⟩
theorem FMut.base {base base' : Nat} {W : World} {qf j : Nat} (h : FMut base' W qf j) (hb : base ≤ base') : FMut base W qf j := by
  obtain ⟨x, Al, ll, cl, Ab, lb, cb, e0, e2, e4, h1, h2⟩ := h
  refine ⟨x, Al, ll, cl, Ab, lb, cb, e0, e2, e4, fun hp => ?_, fun hp => ?_⟩
  · obtain ⟨ql, y, cs, hA, hbb, r⟩ := h1 hp
    exact ⟨ql, y, cs, hA, by omega, r⟩
  · obtain ⟨qb, cs, hA, hbb, hB, hL⟩ := h2 hp
    exact ⟨qb, cs, hA, by omega, hB, fun k hk => (hL k hk).base hb⟩
theorem FMut.old {base qf j : Nat} {W W' : World} (h : FMut base W qf j) (hb : Below W.heap.size W W') : FMut base W' qf j := by
  have kc : ∀ (b o : Nat) (u : Value), W.cell? ⟨b, o, none⟩ = some u → W'.cell? ⟨b, o, none⟩ = some u := fun b o u hu => cell_old hb (World.block_lt_of_cell? W ⟨b, o, none⟩ hu) hu
  obtain ⟨x, Al, ll, cl, Ab, lb, cb, e0, e2, e4, h1, h2⟩ := h
  refine ⟨x, Al, ll, cl, Ab, lb, cb, kc _ _ _ e0, kc _ _ _ e2, kc _ _ _ e4, fun hp => ?_, fun hp => ?_⟩
  · obtain ⟨ql, y, cs, hA, hbb, hB, hy⟩ := h1 hp
    exact ⟨ql, y, cs, hA, hbb, hB.old hb, kc _ _ _ hy⟩
  · obtain ⟨qb, cs, hA, hbb, hB, hL⟩ := h2 hp
    exact ⟨qb, cs, hA, hbb, hB.old hb, fun k hk => (hL k hk).old hb⟩
/-- A body like that, in rows of the call's own. -/
def CbV (S0 : Nat → Prop) (B : Nat) (w' : World) (A : Option Addr) (t : Bd) : Prop := (0 < t.len → ∃ q cs, A = some ⟨q, 0, none⟩ ∧ B ≤ q ∧ Blk w' q 50 cs ∧ ∀ k, k < t.len → LooseAt B w' q k) ∧ BodyS (fun k => B ≤ k ∨ S0 k) w' A t
theorem CbV.far {S0 : Nat → Prop} {B g : Nat} {cs0 : Array Value} {w W' : World} {A : Option Addr} {t : Bd} (h : CbV S0 B w A t) (hf : Blk w g 40 cs0) (hg : g < B) (hS : ¬ S0 g) (hk : ∀ k, k < w.heap.size → k ≠ g → W'.heap[k]? = w.heap[k]?) : CbV S0 B W' A t := by
  refine ⟨fun hp => ?_, h.2.kept (fun k hk' hlt => hk k hlt (fun e => ?_)) (fun _ h _ => h)⟩
  · obtain ⟨q, cs, hA, hq, hB, hL⟩ := h.1 hp
    exact ⟨q, cs, hA, hq, (hk q hB.lt (by omega)).trans hB, fun k hkk => (hL k hkk).far hB hf (by decide) (by decide) hk⟩
  · subst e
    rcases hk' with h1 | h1
    · omega
    · exact hS h1
/-- What Copy's loop keeps. -/
structure CpF (S1 : Nat → Prop) (base : Nat) (wr : World) (qf : Nat) (L : List Fn) (i : Nat) : Prop where
  row : ∃ cs, Blk wr qf 40 cs ∧ L.length * 5 ≤ cs.size
  qb : base ≤ qf
  fns : ∀ j (h : j < L.length), ∃ fs, FnS S1 wr fs L[j] ∧ ∀ t u, fs[t]? = some u → wr.cell? ⟨qf, j * 5 + t, none⟩ = some u
  muts : ∀ j, j < i → FMut base wr qf j
theorem CpF.reads {S1 : Nat → Prop} {base : Nat} {wr : World} {qf i : Nat} {L : List Fn} (h : CpF S1 base wr qf L i) : FnsS (fun _ => True) wr (some ⟨qf, 0, none⟩) L := fun hp => by
  refine ⟨qf, 0, rfl, trivial, fun j hj => ?_⟩
  obtain ⟨fs, hf, hc⟩ := h.fns j hj
  refine ⟨fs, hf.kept (fun _ _ _ => rfl) (fun _ _ _ => trivial), fun t u ht => ?_⟩
  rw [Nat.zero_add]
  exact hc t u ht
theorem CpF.old {S1 : Nat → Prop} {base : Nat} {wr w' : World} {qf i : Nat} {L : List Fn} (h : CpF S1 base wr qf L i) (hb : Below wr.heap.size wr w') : CpF S1 base w' qf L i := by
  obtain ⟨cs, h1, h2⟩ := h.row
  refine ⟨⟨cs, h1.old hb, h2⟩, h.qb, fun j hj => ?_, fun j hj => (h.muts j hj).old hb⟩
  obtain ⟨fs, hf, hc⟩ := h.fns j hj
  exact ⟨fs, hf.kept (Below.keptS hb) (fun _ h _ => h), fun t u ht => cell_old hb h1.lt (hc t u ht)⟩
/-- Five cells of a row. -/
def put5 (w : World) (q p : Nat) (v0 v1 v2 v3 v4 : Value) : World := ((((w.setCell ⟨q, p, none⟩ v0).setCell ⟨q, p + 1, none⟩ v1).setCell ⟨q, p + 2, none⟩ v2).setCell ⟨q, p + 3, none⟩ v3).setCell ⟨q, p + 4, none⟩ v4
section
variable {w : World} {q p : Nat} {v0 v1 v2 v3 v4 : Value}
theorem put5_heap {k : Nat} (h : k ≠ q) : (put5 w q p v0 v1 v2 v3 v4).heap[k]? = w.heap[k]? := by
  unfold put5
  rw [Below.heap_setCell _ _ _ _ h, Below.heap_setCell _ _ _ _ h, Below.heap_setCell _ _ _ _ h, Below.heap_setCell _ _ _ _ h, Below.heap_setCell _ _ _ _ h]
theorem put5_same (o : Nat) (h : ∀ j, j < 5 → o ≠ p + j) : (put5 w q p v0 v1 v2 v3 v4).cell? ⟨q, o, none⟩ = w.cell? ⟨q, o, none⟩ := by
  have hn : ∀ j, j < 5 → (⟨q, p + j, none⟩ : Addr) ≠ ⟨q, o, none⟩ := fun j hj e => by
    injection e with _ e2
    exact h j hj e2.symm
  unfold put5
  rw [World.cell?_setCell_other _ _ _ _ (hn 4 (by omega)), World.cell?_setCell_other _ _ _ _ (hn 3 (by omega)), World.cell?_setCell_other _ _ _ _ (hn 2 (by omega)), World.cell?_setCell_other _ _ _ _ (hn 1 (by omega)), World.cell?_setCell_other _ _ _ _ (show (⟨q, p, none⟩ : Addr) ≠ ⟨q, o, none⟩ from hn 0 (by omega))]
theorem put5_blk {T : Nat} {cs : Array Value} (hB : Blk w q T cs) : ∃ cs', Blk (put5 w q p v0 v1 v2 v3 v4) q T cs' ∧ cs'.size = cs.size ∧ (p + 5 ≤ cs.size → cs'[p]? = some v0 ∧ cs'[p + 1]? = some v1 ∧ cs'[p + 2]? = some v2 ∧ cs'[p + 3]? = some v3 ∧ cs'[p + 4]? = some v4) := by
  refine ⟨((((cs.setIfInBounds p v0).setIfInBounds (p + 1) v1).setIfInBounds (p + 2) v2).setIfInBounds (p + 3) v3).setIfInBounds (p + 4) v4, ((((hB.set_ p v0).set_ (p + 1) v1).set_ (p + 2) v2).set_ (p + 3) v3).set_ (p + 4) v4, by simp, fun h => ?_⟩
  refine ⟨?_, ?_, ?_, ?_, ?_⟩ <;> simp [Array.getElem?_setIfInBounds] <;> omega
end
/-- One round of Copy's loop. -/
theorem CpF.step {S1 S0 : Nat → Prop} {base : Nat} {wr w5 : World} {qf i : Nat} {L : List Fn} (h : CpF S1 base wr qf L i) (hi : i < L.length) (hb : Below wr.heap.size wr w5) {Al As Ab : Option Addr} {ll cl ls cs' lb cb Bl Bs : Nat} (hll : ll = L[i].locals.length) (hls : ls = L[i].sites.length) (hlb : lb = L[i].body.len) (hBl : wr.heap.size ≤ Bl) (hBs : wr.heap.size ≤ Bs)
    (h1 : w5.ownsRow Bl 3 1 (.slice Al ll cl) ll (intV L[i].locals)) (h2 : w5.ownsRow Bs 3 1 (.slice As ls cs') ls (intV L[i].sites)) {B0 : Nat} (hw0 : wr.heap.size ≤ B0) (hS1 : ∀ k, S1 k → k ≠ qf) (hS2 : ∀ k, wr.heap.size ≤ k → S1 k) (hS3 : ∀ k, S0 k → S1 k) (h3 : CbV S0 B0 w5 Ab L[i].body) :
    CpF S1 base (put5 w5 qf (i * 5) (.int .i64 L[i].name) (.int .i64 L[i].params) (.slice Al ll cl) (.slice As ls cs') (.slice Ab lb cb)) qf L (i + 1) := by
  obtain ⟨csr, hR, hRs⟩ := h.row
  have hR5 := hR.old hb
  obtain ⟨cs2, hR', hsz, hat⟩ := put5_blk (p := i * 5) (v0 := .int .i64 L[i].name) (v1 := .int .i64 L[i].params) (v2 := .slice Al ll cl) (v3 := .slice As ls cs') (v4 := .slice Ab lb cb) hR5
  have hsame := @put5_same w5 qf (i * 5) (.int .i64 L[i].name) (.int .i64 L[i].params) (.slice Al ll cl) (.slice As ls cs') (.slice Ab lb cb)
  have hheap := @put5_heap w5 qf (i * 5) (.int .i64 L[i].name) (.int .i64 L[i].params) (.slice Al ll cl) (.slice As ls cs') (.slice Ab lb cb)
  generalize put5 w5 qf (i * 5) (.int .i64 L[i].name) (.int .i64 L[i].params) (.slice Al ll cl) (.slice As ls cs') (.slice Ab lb cb) = W' at *
  obtain ⟨g0, g1, g2, g3, g4⟩ := hat (by omega)
  have hkk : ∀ k, k ≠ qf → W'.heap[k]? = w5.heap[k]? := fun k hk => hheap hk
  have hne : ∀ {B e s n c : Nat} {A : Option Addr} {xs : List Value}, w5.ownsRow B e s (.slice A n c) n xs → e ≠ 40 → ∀ k, some k = (Value.slice A n c).ownBlock → k ≠ qf := fun ho he k hk e => by
    subst e
    exact own_ne ho hR5 he hk
  have hs : ∀ {n c B : Nat} {A : Option Addr} {xs : List Value}, w5.ownsRow B 3 1 (.slice A n c) n xs → wr.heap.size ≤ B → RdS S1 W' A n 1 xs := fun {n c B A xs} ho hB => by
    refine ⟨ho.1, fun hp => ?_⟩
    obtain ⟨q, cap, hv, hBq, _⟩ := own_formM ho hp
    have hq := hne ho (by decide) q (by rw [hv]; rfl)
    injection hv with hv1 hv2 hv3
    subst hv1 hv3
    exact ⟨q, 0, rfl, hS2 q (by omega), fun j u hj => (World.cell?_of_block (hkk q hq)).trans (own_cellsM ho j u hj)⟩
  have hS5 : ∀ k, (B0 ≤ k ∨ S0 k) → S1 k := fun k hk => by
    rcases hk with hk | hk
    · exact hS2 k (by omega)
    · exact hS3 k hk
  have hcold : ∀ j, j ≠ i → ∀ t, t < 5 → W'.cell? ⟨qf, j * 5 + t, none⟩ = wr.cell? ⟨qf, j * 5 + t, none⟩ := fun j hj t ht => (hsame (j * 5 + t) (fun s hs => by omega)).trans (World.cell?_of_block (hb.block qf hR.lt))
  refine ⟨⟨cs2, hR', by rw [hsz]; exact hRs⟩, h.qb, fun j hj => ?_, fun j hj => ?_⟩
  · by_cases hji : j = i
    · subst hji
      subst hll hls hlb
      refine ⟨[.int .i64 L[j].name, .int .i64 L[j].params, .slice Al L[j].locals.length cl, .slice As L[j].sites.length cs', .slice Ab L[j].body.len cb], ⟨Al, cl, As, cs', Ab, cb, rfl, hs h1 hBl, hs h2 hBs, h3.2.kept (S' := S1) (fun k hk _ => hkk k (hS1 k (hS5 k hk))) (fun k hk _ => hS5 k hk)⟩, fun t u ht => ?_⟩
      rw [hR'.cell]
      match t, ht with
      | 0, ht => simp at ht; subst ht; exact g0
      | 1, ht => simp at ht; subst ht; exact g1
      | 2, ht => simp at ht; subst ht; exact g2
      | 3, ht => simp at ht; subst ht; exact g3
      | 4, ht => simp at ht; subst ht; exact g4
      | t + 5, ht => simp at ht
    · obtain ⟨fs, hf, hc⟩ := h.fns j hj
      refine ⟨fs, hf.kept (fun k hk hlt => (hkk k (hS1 k hk)).trans (hb.block k hlt)) (fun _ h _ => h), fun t u ht => ?_⟩
      have hl := fnS_len hf
      have htl : t < 5 := by
        rcases Nat.lt_or_ge t fs.length with h | h
        · omega
        · rw [List.getElem?_eq_none h] at ht; cases ht
      exact (hcold j hji t htl).trans (hc t u ht)
  · by_cases hji : j = i
    · subst hji
      refine ⟨_, Al, ll, cl, Ab, lb, cb, by rw [hR'.cell]; exact g0, by rw [hR'.cell]; exact g2, by rw [hR'.cell]; exact g4, fun hp => ?_, fun hp => ?_⟩
      · obtain ⟨q, cap, hv, hbq, _⟩ := own_formM h1 hp
        have hq := hne h1 (by decide) q (by rw [hv]; rfl)
        obtain ⟨_, cur, hB⟩ := own_blk h1 q (by rw [hv]; rfl)
        injection hv with hv1 hv2 hv3
        subst hv1 hv3
        have hx : 0 < (intV L[j].locals).length := by rw [intV_len]; omega
        have hx' : 0 < L[j].locals.length := by omega
        refine ⟨q, L[j].locals[0], cur, rfl, ?_, (hkk q hq).trans hB, (World.cell?_of_block (hkk q hq)).trans (own_cellsM h1 0 _ (intV_get L[j].locals 0 hx'))⟩
        have := h.qb
        have := hR.lt
        omega
      · subst hlb
        obtain ⟨q, cs, hA, hbq, hB, hL⟩ := h3.1 hp
        have hq : q ≠ qf := fun e => by
          subst e
          exact absurd (hB.uniq hR5) (by decide)
        have hbase : base ≤ B0 := by have := h.qb; have := hR.lt; omega
        refine ⟨q, cs, hA, by omega, (hkk q hq).trans hB, fun k hk => ?_⟩
        have h6 := (hL k hk).far hB hR5 (by decide) (by decide) (fun k _ hk => hkk k hk)
        exact h6.base hbase
    · exact ((h.muts j (by omega)).old hb).far hR5 (fun k _ hk => hkk k hk) (fun t ht => hsame (j * 5 + t) (fun s hs => by omega))
theorem CpF.first {S1 : Nat → Prop} {base : Nat} {wz : World} {n c : Nat} {A : Option Addr} {cs : List Value} {L : List Fn} {S : Nat → Prop} (hn : n = L.length) (ho : wz.ownsRow base 40 5 (.slice A n c) n cs) (hf : FnCells S wz cs L) (hS : ∀ k, S k → S1 k) (hp : 0 < n) : ∃ qf, A = some ⟨qf, 0, none⟩ ∧ CpF S1 base wz qf L 0 := by
  obtain ⟨q, cap, hv, hb, _⟩ := own_formM ho hp
  injection hv with hv1 hv2 hv3
  subst hv1 hv3
  rcases ho.2 with ⟨h0, _⟩ | ⟨q', cap', cur, hv, h2, hk, h3, h4, h5, h6⟩
  · cases h0
  · injection hv with e1 e2 e3
    injection e1 with e1
    injection e1 with e1
    subst e1
    refine ⟨q, rfl, ⟨cur, hk, ?_⟩, hb, fun j hj => ?_, fun j hj => by omega⟩
    · have := congrArg List.length h6
      rw [hf.1, List.length_take] at this
      simp only [Array.length_toList] at this
      omega
    · obtain ⟨fs, hfs, hc⟩ := hf.2.2 j hj
      refine ⟨fs, hfs.kept (fun _ _ _ => rfl) (fun k hk _ => hS k hk), fun t u ht => ?_⟩
      have := own_cellsM ho _ _ (hc t u ht)
      rwa [Nat.zero_add] at this
/-- A copy's own lists, in a box: nothing copied of the functions yet. -/
def CpCut (B0 : Nat) (w1 wz : World) (q3 ls lg lf le : Nat) (M : Md) : Prop := ∃ A1 c1 A2 c2 A3 c3 A4 c4, Below w1.heap.size w1 wz ∧ w1.heap.size ≤ q3 ∧ Blk wz q3 30 #[.slice A1 ls c1, .slice A2 lg c2, .slice A3 lf c3, .slice A4 le c4] ∧ wz.ownsRow w1.heap.size 9 1 (.slice A1 ls c1) ls (strV M.strs) ∧ wz.ownsRow w1.heap.size 3 1 (.slice A2 lg c2) lg (intV M.globs) ∧ (∃ cs, wz.ownsRow w1.heap.size 40 5 (.slice A3 lf c3) lf cs ∧ FnCells (fun k => k < B0) wz cs M.funcs) ∧ wz.ownsRow w1.heap.size 3 1 (.slice A4 le c4) le (intV M.ents)
end Go.Proofs.Ytpdebnecfknohaa
namespace Go.Proofs.Ytpdebnecfknohaa
open Go.RowKit
set_option linter.unusedVariables false
set_option linter.unusedSimpArgs false
set_option maxRecDepth 20000
/-- A function that is copied: its names between a and b, its sites between b and c, its body old or between c and d. -/
def FnG (w0 : Nat) (W : World) (qf j : Nat) (f : Fn) (a d : Nat) : Prop := ∃ Al cl As cs' Ab cb b c, b ≤ c ∧ c ≤ d ∧ a ≤ b ∧
  (∀ t u, ([.int .i64 f.name, .int .i64 f.params, .slice Al f.locals.length cl, .slice As f.sites.length cs', .slice Ab f.body.len cb] : List Value)[t]? = some u → W.cell? ⟨qf, j * 5 + t, none⟩ = some u) ∧
  W.ownsRow a 3 1 (.slice Al f.locals.length cl) f.locals.length (intV f.locals) ∧ (∀ k, some k = (Value.slice Al f.locals.length cl).ownBlock → k < b) ∧
  W.ownsRow b 3 1 (.slice As f.sites.length cs') f.sites.length (intV f.sites) ∧ (∀ k, some k = (Value.slice As f.sites.length cs').ownBlock → k < c) ∧
  BodyS (fun k => k < w0 ∨ (c ≤ k ∧ k < d)) W Ab f.body
theorem FnG.kept {w0 : Nat} {W W' : World} {qf j a d : Nat} {f : Fn} (h : FnG w0 W qf j f a d) (hq : W'.heap[qf]? = W.heap[qf]?) (hk : ∀ k, (k < w0 ∨ (a ≤ k ∧ k < d)) → k < W.heap.size → W'.heap[k]? = W.heap[k]?) : FnG w0 W' qf j f a d := by
  obtain ⟨Al, cl, As, cs', Ab, cb, b, c, h1, h2, h3, h4, h5, h6, h7, h8, h9⟩ := h
  refine ⟨Al, cl, As, cs', Ab, cb, b, c, h1, h2, h3, fun t u ht => (World.cell?_of_block hq).trans (h4 t u ht), own_blocks h5 (fun k hk' => ?_), h6, own_blocks h7 (fun k hk' => ?_), h8, h9.kept (fun k hk' hlt => hk k ?_ hlt) (fun _ h _ => h)⟩
  · have h10 := h5.lt k hk'.symm
    have h11 := h6 k hk'
    exact hk k (.inr ⟨h10.1, by omega⟩) h10.2
  · have h10 := h7.lt k hk'.symm
    have h11 := h8 k hk'
    exact hk k (.inr ⟨by omega, by omega⟩) h10.2
  · rcases hk' with h | h
    · exact .inl h
    · exact .inr ⟨by omega, h.2⟩
/-- What Copy's loop keeps, with the rows. -/
structure CpG (w0 lo : Nat) (wr : World) (qf : Nat) (L : List Fn) (i : Nat) : Prop where
  row : ∃ cs, Blk wr qf 40 cs ∧ L.length * 5 ≤ cs.size
  qb : w0 ≤ qf ∧ qf < lo
  todo : ∀ j (h : j < L.length), i ≤ j → ∃ fs, FnS (fun k => k < w0) wr fs L[j] ∧ ∀ t u, fs[t]? = some u → wr.cell? ⟨qf, j * 5 + t, none⟩ = some u
  done : ∃ T : Nat → Nat, lo ≤ T 0 ∧ (∀ j, T j ≤ T (j + 1)) ∧ T i ≤ wr.heap.size ∧ ∀ j (h : j < L.length), j < i → FnG w0 wr qf j L[j] (T j) (T (j + 1))
theorem mono_le {T : Nat → Nat} (h : ∀ j, T j ≤ T (j + 1)) : ∀ j, T 0 ≤ T j
  | 0 => Nat.le_refl _
  | j + 1 => Nat.le_trans (mono_le h j) (h j)
theorem CpG.kept {w0 lo : Nat} {wr w' : World} {qf i : Nat} {L : List Fn} (h : CpG w0 lo wr qf L i) (hs : wr.heap.size ≤ w'.heap.size) (hk : ∀ k, (k < w0 ∨ lo ≤ k ∨ k = qf) → k < wr.heap.size → w'.heap[k]? = wr.heap[k]?) : CpG w0 lo w' qf L i := by
  obtain ⟨cs, h1, h2⟩ := h.row
  have hq := hk qf (.inr (.inr rfl)) h1.lt
  refine ⟨⟨cs, hq.trans h1, h2⟩, h.qb, fun j hj hij => ?_, ?_⟩
  · obtain ⟨fs, hf, hc⟩ := h.todo j hj hij
    exact ⟨fs, hf.kept (fun k hk' hlt => hk k (.inl hk') hlt) (fun _ h _ => h), fun t u ht => (World.cell?_of_block hq).trans (hc t u ht)⟩
  · obtain ⟨T, t0, t1, t2, t3⟩ := h.done
    refine ⟨T, t0, t1, by omega, fun j hj hji => (t3 j hj hji).kept hq (fun k hk' hlt => hk k ?_ hlt)⟩
    rcases hk' with h | h
    · exact .inl h
    · have := mono_le t1 j
      exact .inr (.inl (by omega))
theorem CpG.old {w0 lo : Nat} {wr w' : World} {qf i : Nat} {L : List Fn} (h : CpG w0 lo wr qf L i) (hb : Below wr.heap.size wr w') : CpG w0 lo w' qf L i :=
  h.kept hb.size (fun k _ hlt => hb.block k hlt)
/-- The beginning of the loop. -/
theorem CpG.first {w0 lo : Nat} {wz : World} {n c base : Nat} {A : Option Addr} {cs : List Value} {L : List Fn} (hn : n = L.length) (ho : wz.ownsRow base 40 5 (.slice A n c) n cs) (hb0 : w0 ≤ base) (hlo : lo = wz.heap.size) (hf : FnCells (fun k => k < w0) wz cs L) (hp : 0 < n) : ∃ qf, A = some ⟨qf, 0, none⟩ ∧ CpG w0 lo wz qf L 0 ∧ base ≤ qf := by
  obtain ⟨q, cap, hv, hb, _⟩ := own_formM ho hp
  injection hv with hv1 hv2 hv3
  subst hv1 hv3
  rcases ho.2 with ⟨h0, _⟩ | ⟨q', cap', cur, hv, h2, hk, h3, h4, h5, h6⟩
  · cases h0
  · injection hv with e1 e2 e3
    injection e1 with e1
    injection e1 with e1
    subst e1
    have hB : Blk wz q 40 cur := hk
    refine ⟨q, rfl, ⟨⟨cur, hk, ?_⟩, ⟨by omega, by have := hB.lt; omega⟩, fun j hj _ => ?_, ⟨fun _ => lo, Nat.le_refl _, fun _ => Nat.le_refl _, by show lo ≤ _; omega, fun j hj hji => by omega⟩⟩, hb⟩
    · have := congrArg List.length h6
      rw [hf.1, List.length_take] at this
      simp only [Array.length_toList] at this
      omega
    · obtain ⟨fs, hfs, hc⟩ := hf.2.2 j hj
      refine ⟨fs, hfs, fun t u ht => ?_⟩
      have := own_cellsM ho _ _ (hc t u ht)
      rwa [Nat.zero_add] at this
/-- One round of Copy's loop. -/
theorem CpG.step {w0 lo : Nat} {wr w5 : World} {qf i : Nat} {L : List Fn} (h : CpG w0 lo wr qf L i) (hi : i < L.length) (hb : Below wr.heap.size wr w5) {Al As Ab : Option Addr} {ll cl ls cs' lb cb Bl Bs B0 : Nat} (hll : ll = L[i].locals.length) (hls : ls = L[i].sites.length) (hlb : lb = L[i].body.len) (hBl : wr.heap.size ≤ Bl) (hBs : Bl ≤ Bs) (hB0 : Bs ≤ B0) (hB5 : B0 ≤ w5.heap.size) (hw : w0 ≤ wr.heap.size) (hlw : lo ≤ wr.heap.size)
    (h1 : w5.ownsRow Bl 3 1 (.slice Al ll cl) ll (intV L[i].locals)) (l1 : ∀ k, some k = (Value.slice Al ll cl).ownBlock → k < Bs) (h2 : w5.ownsRow Bs 3 1 (.slice As ls cs') ls (intV L[i].sites)) (l2 : ∀ k, some k = (Value.slice As ls cs').ownBlock → k < B0) (h3 : BodyS (fun k => B0 ≤ k ∨ k < w0) w5 Ab L[i].body) :
    CpG w0 lo (put5 w5 qf (i * 5) (.int .i64 L[i].name) (.int .i64 L[i].params) (.slice Al ll cl) (.slice As ls cs') (.slice Ab lb cb)) qf L (i + 1) := by
  have h5 := h.old hb
  obtain ⟨csr, hR5, hRs⟩ := h5.row
  obtain ⟨cs2, hR', hsz, hat⟩ := put5_blk (p := i * 5) (v0 := .int .i64 L[i].name) (v1 := .int .i64 L[i].params) (v2 := .slice Al ll cl) (v3 := .slice As ls cs') (v4 := .slice Ab lb cb) hR5
  have hsame := @put5_same w5 qf (i * 5) (.int .i64 L[i].name) (.int .i64 L[i].params) (.slice Al ll cl) (.slice As ls cs') (.slice Ab lb cb)
  have hheap := @put5_heap w5 qf (i * 5) (.int .i64 L[i].name) (.int .i64 L[i].params) (.slice Al ll cl) (.slice As ls cs') (.slice Ab lb cb)
  have hsize : (put5 w5 qf (i * 5) (.int .i64 L[i].name) (.int .i64 L[i].params) (.slice Al ll cl) (.slice As ls cs') (.slice Ab lb cb)).heap.size = w5.heap.size := by simp [put5, World.setCell]
  generalize put5 w5 qf (i * 5) (.int .i64 L[i].name) (.int .i64 L[i].params) (.slice Al ll cl) (.slice As ls cs') (.slice Ab lb cb) = W' at *
  obtain ⟨g0, g1, g2, g3, g4⟩ := hat (by omega)
  have hqb := h.qb
  obtain ⟨T, t0, t1, t2, t3⟩ := h.done
  obtain ⟨T5, s0, s1, s2, s3⟩ := h5.done
  have hcold : ∀ j, j ≠ i → ∀ t, t < 5 → W'.cell? ⟨qf, j * 5 + t, none⟩ = w5.cell? ⟨qf, j * 5 + t, none⟩ := fun j hj t ht => hsame (j * 5 + t) (fun s hs => by omega)
  refine ⟨⟨cs2, hR', by rw [hsz]; exact hRs⟩, h.qb, fun j hj hij => ?_, ⟨fun j => if j ≤ i then T j else w5.heap.size, by simpa using t0, fun j => ?_, by simp only [show ¬ i + 1 ≤ i from by omega, if_false]; rw [hsize]; exact Nat.le_refl _, fun j hj hji => ?_⟩⟩
  · obtain ⟨fs, hf, hc⟩ := h5.todo j hj (by omega)
    refine ⟨fs, hf.kept (fun k hk hlt => hheap (by omega)) (fun _ h _ => h), fun t u ht => ?_⟩
    have hl := fnS_len hf
    have htl : t < 5 := by
      rcases Nat.lt_or_ge t fs.length with h | h
      · omega
      · rw [List.getElem?_eq_none h] at ht; cases ht
    exact (hcold j (by omega) t htl).trans (hc t u ht)
  · have hs := hb.size
    by_cases h1 : j + 1 ≤ i
    · simp only [h1, if_true, show j ≤ i from by omega]; exact t1 j
    · by_cases h2 : j ≤ i
      · obtain rfl : j = i := by omega
        simp only [Nat.le_refl, if_true, h1, if_false]
        omega
      · simp only [h1, h2, if_false]; exact Nat.le_refl _
  · by_cases hje : j = i
    · subst hje
      subst hll hls hlb
      simp only [Nat.le_refl, if_true, show ¬ j + 1 ≤ j from by omega, if_false]
      have hne : ∀ {B n c : Nat} {A : Option Addr} {xs : List Value}, w5.ownsRow B 3 1 (.slice A n c) n xs → W'.ownsRow B 3 1 (.slice A n c) n xs := fun ho => own_blocks ho (fun k hk => hheap (fun e => by subst e; exact own_ne ho hR5 (by decide) hk))
      refine ⟨Al, cl, As, cs', Ab, cb, Bs, B0, hB0, hB5, by omega, fun t u ht => ?_, own_mono (hne h1) (by omega), l1, hne h2, l2, h3.kept (fun k hk hlt => hheap ?_) (fun k hk hlt => ?_)⟩
      · rw [hR'.cell]
        match t, ht with
        | 0, ht => simp at ht; subst ht; exact g0
        | 1, ht => simp at ht; subst ht; exact g1
        | 2, ht => simp at ht; subst ht; exact g2
        | 3, ht => simp at ht; subst ht; exact g3
        | 4, ht => simp at ht; subst ht; exact g4
        | t + 5, ht => simp at ht
      · rcases hk with hk | hk <;> omega
      · rcases hk with hk | hk
        · exact .inr ⟨hk, hlt⟩
        · exact .inl hk
    · have hjl : j < i := by omega
      simp only [show j ≤ i from by omega, show j + 1 ≤ i from by omega, if_true]
      have hG := t3 j hj hjl
      have hG5 : FnG w0 w5 qf j L[j] (T j) (T (j + 1)) := hG.kept (hb.block qf (by have := hqb; omega)) (fun k _ hlt => hb.block k hlt)
      obtain ⟨Al, cl, As, cs', Ab, cb, b, c, x1, x2, x3, x4, x5, x6, x7, x8, x9⟩ := hG5
      have hm := mono_le t1 j
      refine ⟨Al, cl, As, cs', Ab, cb, b, c, x1, x2, x3, fun t u ht => ?_, own_blocks x5 (fun k hk => hheap ?_), x6, own_blocks x7 (fun k hk => hheap ?_), x8, x9.kept (fun k hk hlt => hheap ?_) (fun _ h _ => h)⟩
      · have htl : t < 5 := by
          rcases Nat.lt_or_ge t 5 with h | h
          · exact h
          · rw [List.getElem?_eq_none (by simpa using h)] at ht; cases ht
        exact (hcold j hje t htl).trans (x4 t u ht)
      · have := (x5.lt k hk.symm).1; omega
      · have := (x7.lt k hk.symm).1; omega
      · rcases hk with hk | hk <;> omega
theorem CpG.reads {w0 lo : Nat} {wr : World} {qf : Nat} {L : List Fn} (h : CpG w0 lo wr qf L L.length) : FnsS (fun _ => True) wr (some ⟨qf, 0, none⟩) L := fun hp => by
  refine ⟨qf, 0, rfl, trivial, fun j hj => ?_⟩
  obtain ⟨T, t0, t1, t2, t3⟩ := h.done
  obtain ⟨Al, cl, As, cs', Ab, cb, b, c, x1, x2, x3, x4, x5, x6, x7, x8, x9⟩ := t3 j hj hj
  refine ⟨_, ⟨Al, cl, As, cs', Ab, cb, rfl, (RdS.own x5).below (fun _ _ => trivial), (RdS.own x7).below (fun _ _ => trivial), x9.kept (fun _ _ _ => rfl) (fun _ _ _ => trivial)⟩, fun t u ht => ?_⟩
  rw [Nat.zero_add]
  exact x4 t u ht
end Go.Proofs.Ytpdebnecfknohaa
namespace Go.Proofs.Ytpdebnecfknohaa
open Go.RowKit
set_option linter.unusedVariables false
set_option maxRecDepth 20000
set_option linter.unusedSimpArgs false
/-- A copy's own lists, in a box, those of numbers apart. -/
def CpCut2 (B0 : Nat) (w1 wz : World) (q3 ls lg lf le : Nat) (M : Md) : Prop := ∃ A1 c1 A2 c2 A3 c3 A4 c4, Below w1.heap.size w1 wz ∧ w1.heap.size ≤ q3 ∧ Blk wz q3 30 #[.slice A1 ls c1, .slice A2 lg c2, .slice A3 lf c3, .slice A4 le c4] ∧ wz.ownsRow w1.heap.size 9 1 (.slice A1 ls c1) ls (strV M.strs) ∧ wz.ownsRow w1.heap.size 3 1 (.slice A2 lg c2) lg (intV M.globs) ∧ (∃ cs, wz.ownsRow w1.heap.size 40 5 (.slice A3 lf c3) lf cs ∧ FnCells (fun k => k < B0) wz cs M.funcs) ∧ wz.ownsRow w1.heap.size 3 1 (.slice A4 le c4) le (intV M.ents) ∧ (∀ k, some k = (Value.slice A2 lg c2).ownBlock → some k ≠ (Value.slice A4 le c4).ownBlock)
/-- What Copy leaves: a module that reads the same, in rows of the call's own. -/
def CopyPostR (w0 : Nat) (w : World) (M : Md) (e : Ending) (w' : World) : Prop := ∃ As cs Ag cg Af cf Ae ce, e = .returned (.agg #[.slice As M.strs.length cs, .slice Ag M.globs.length cg, .slice Af M.funcs.length cf, .slice Ae M.ents.length ce]) ∧ MdR w' As Ag Af Ae M ∧ Below w.heap.size w w' ∧
  w'.ownsRow w.heap.size 3 1 (.slice Ag M.globs.length cg) M.globs.length (intV M.globs) ∧
  w'.ownsRow w.heap.size 3 1 (.slice Ae M.ents.length ce) M.ents.length (intV M.ents) ∧ (∀ k, some k = (Value.slice Ag M.globs.length cg).ownBlock → some k ≠ (Value.slice Ae M.ents.length ce).ownBlock) ∧
  (0 < M.funcs.length → ∃ q lo, Af = some ⟨q, 0, none⟩ ∧ CpG w0 lo w' q M.funcs M.funcs.length ∧ (∀ k, some k = (Value.slice Ag M.globs.length cg).ownBlock ∨ some k = (Value.slice Ae M.ents.length ce).ownBlock → k < lo) ∧ w.heap.size ≤ q ∧ w.heap.size ≤ lo)
end Go.Proofs.Ytpdebnecfknohaa
namespace Go.Proofs.Ytpdebnecfknohaa
open Go.RowKit
set_option linter.unusedVariables false
set_option linter.unusedSimpArgs false
/-- A string more, if it isn't there. -/
def addF (l : List (List UInt8)) (x : List UInt8) : List (List UInt8) := if l.contains x = true then l else l ++ [x]
def addsF : List (List UInt8) → List (List UInt8) → List (List UInt8)
  | l, [] => l
  | l, x :: xs => addsF (addF l x) xs
/-- Rising, each once. -/
def Rising (l : List (List UInt8)) : Prop := l.Pairwise (· < ·)
/-- Sorted. -/
def srtF (l : List (List UInt8)) : List (List UInt8) := l.mergeSort fun x y => decide (x ≤ y)
end Go.Proofs.Ytpdebnecfknohaa
