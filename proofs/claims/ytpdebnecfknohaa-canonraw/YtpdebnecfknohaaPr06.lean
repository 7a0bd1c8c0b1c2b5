/-
  Parts: Xb Shelf Xc.
-/
import Derived.Test.YtpdebnecfknohaaPr00
import Derived.Test.YtpdebnecfknohaaPr01
import Derived.Test.YtpdebnecfknohaaPr02
import Derived.Test.YtpdebnecfknohaaPr03
import Derived.Test.YtpdebnecfknohaaPr04
import Derived.Test.YtpdebnecfknohaaPr05
import Derived.Maps.OwnSet
import Derived.Deep.CutBlock
import Derived.Deep.DeepCutAuto
import Derived.Shelf.Small.Bits
import Derived.Shelf.Strconv.Itoa0
import Derived.Shelf.LaysM
import Derived.Shelf.Strconv.Clone
import Derived.Shelf.Sort.Plain
import Derived.Ground.Names2Prog
import Derived.Shelf.Slices.Clone
import Derived.Shelf.Slices.In.SortNone
import Derived.Ground.SlgnProg
import Derived.Shelf.SlicesE.Clone
import Derived.Shelf.Spec.SearchS
import Derived.Test.YtpdebnecfknohaaProg
import Derived.Sort.OwnSorted
namespace Go.Proofs.Ytpdebnecfknohaa
open Go.RowKit Go.Maps
set_option linter.unusedVariables false
set_option linter.unusedSimpArgs false
set_option maxRecDepth 20000
/-- The numbers of these. -/
structure TabD (l : List (List UInt8)) (D : DataW Unit) : Prop where
  ism : IsMap D
  has_ : ∀ x : List UInt8, Maps.has D (.string x) = l.contains x
  at_ : ∀ (x : List UInt8) (z : DataW Unit), x ∈ l → D.atKey (.string x) z = .lit (.int .i64 (numF l x 0))
theorem numF_app : ∀ (l r : List (List UInt8)) (x : List UInt8) (i : Nat), x ∈ l → numF (l ++ r) x i = numF l x i
  | [], r, x, i, h => by simp at h
  | y :: l, r, x, i, h => by
    rw [List.cons_append, numF, numF]
    by_cases hy : y = x
    · rw [if_pos hy, if_pos hy]
    · rw [if_neg hy, if_neg hy]
      rcases List.mem_cons.1 h with e | e
      · exact absurd e.symm hy
      · exact numF_app l r x (i + 1) e
theorem numF_end : ∀ (l : List (List UInt8)) (x : List UInt8) (i : Nat), x ∉ l → numF (l ++ [x]) x i = ((i + l.length : Nat) : Int)
  | [], x, i, h => by simp [numF]
  | y :: l, x, i, h => by
    have h1 : ¬ y = x := fun e => h (by rw [e]; simp)
    rw [List.cons_append, numF, if_neg h1, numF_end l x (i + 1) (fun e => h (List.mem_cons_of_mem _ e))]
    simp only [List.length_cons]
    congr 1; omega
theorem TabD.nil : TabD [] (.map []) := ⟨⟨[], rfl⟩, fun x => rfl, fun x z h => by simp at h⟩
theorem TabD.put {l : List (List UInt8)} {D : DataW Unit} (h : TabD l D) (x : List UInt8) (hx : x ∉ l) : TabD (l ++ [x]) (D.put (.string x) (.lit (.int .i64 (l.length : Int)))) := by
  refine ⟨?_, fun y => ?_, fun y z hy => ?_⟩
  · exact h.ism.put _ _
  · by_cases hyx : y = x
    · subst hyx
      rw [has_put_same h.ism (show WideAt.IsKeyLit (.string y) from trivial)]
      simp
    · rw [has_put_other (by intro e; injection e with e; exact hyx e), h.has_]
      simp [hyx]
  · by_cases hyx : y = x
    · subst hyx
      rw [atKey_put_same h.ism (show WideAt.IsKeyLit (.string y) from trivial), numF_end l y 0 hx]
      simp
    · have hyl : y ∈ l := by
        rcases List.mem_append.1 hy with e | e
        · exact e
        · exact absurd (by simpa using e) hyx
      rw [atKey_put_other (by intro e; injection e with e; exact hyx e), h.at_ y z hyl, numF_app l [x] y 0 hyl]
/-- A table in its box. -/
structure Tab (base : Nat) (w : World) (q : Nat) (l : List (List UInt8)) : Prop where
  st : ∃ A c mv, Blk w q 68 #[.slice A l.length c, mv] ∧ w.ownsRow base 9 1 (.slice A l.length c) l.length (strV l) ∧
    ((l = [] ∧ mv = .map none) ∨ ∃ b D, mv = .map (some b) ∧ base ≤ b ∧ w.ownsMap Try.prog 9 (plainElem (H := Unit) Try.prog 3) b l.length D ∧ TabD l D)
theorem Tab.old {base q : Nat} {w w' : World} {l : List (List UInt8)} (h : Tab base w q l) (hb : Below w.heap.size w w') : Tab base w' q l := by
  obtain ⟨A, c, mv, h1, h2, h3⟩ := h.st
  refine ⟨A, c, mv, h1.old hb, own_old h2 hb, ?_⟩
  rcases h3 with h3 | ⟨b, D, h4, h5, h6, h7⟩
  · exact .inl h3
  · exact .inr ⟨b, D, h4, h5, ownsMap_old h6 hb, h7⟩
theorem Tab.new (w : World) (base : Nat) : Tab base (w.alloc (.cells #[.slice none 0 0, .map none] 68)) w.heap.size [] :=
  ⟨none, 0, .map none, Blk.new w 68 _, World.ownsRow_nil _ _ _ _, .inl ⟨rfl, rfl⟩⟩
/-- What Add leaves. -/
def AddB (base q : Nat) (w : World) (l : List (List UInt8)) (x : List UInt8) (e : Ending) (w' : World) : Prop :=
  e = .returned (.int .i64 (numF (addF l x) x 0)) ∧ Tab base w' q (addF l x) ∧ Below base w w' ∧ ∀ k t cs, Blk w k t cs → t ≠ 68 → t ≠ 9 → Blk w' k t cs
theorem law9' : Keyed Try.prog 9 := string_keyed Try.underlying9
theorem zero3 (w : World) : (zeroValue 3).run Try.prog w = .ok (.int .i64 0) w := by kernel_rfl
theorem map_ne {w : World} {k b n g t : Nat} {R : Value → Option (DataW Unit × List MemPlace)} {D : DataW Unit} {cs : Array Value} (h : w.ownsMap Try.prog k R b n D) (hB : Blk w g t cs) : g ≠ b := fun e => by
  subst e
  obtain ⟨es, clock, hb, _⟩ := h
  unfold Blk at hB
  rw [hb] at hB
  cases hB
theorem map_ne_row {w : World} {k b n base e size m : Nat} {R : Value → Option (DataW Unit × List MemPlace)} {D : DataW Unit} {v : Value} {xs : List Value} (h : w.ownsMap Try.prog k R b n D) (hO : w.ownsRow base e size v m xs) : some b ≠ v.ownBlock := fun e => by
  rcases hO.2 with ⟨rfl, _⟩ | ⟨q, cap, cur, rfl, _, hk, _⟩
  · simp [Value.ownBlock] at e
  · have : b = q := by simpa [Value.ownBlock] using e
    subst this
    exact map_ne h hk rfl
theorem blk_uniq {w : World} {k t t' : Nat} {cs cs' : Array Value} (h1 : Blk w k t cs) (h2 : Blk w k t' cs') : t = t' := by
  unfold Blk at h1 h2
  rw [h1] at h2
  injection h2 with h2
  injection h2 with h3 h4
/-- Behind the numbers' change. -/
theorem tab_put {base q b n : Nat} {A : Option Addr} {c : Nat} {D : DataW Unit} {w w3 : World} {xs : List Value} (hB : Blk w q 68 #[.slice A n c, .map (some b)]) (hO : w.ownsRow base 9 1 (.slice A n c) n xs) (hM : w.ownsMap Try.prog 9 (plainElem (H := Unit) Try.prog 3) b n D) (hg : w.grownBy w3 (some b)) :
    Blk w3 q 68 #[.slice A n c, .map (some b)] ∧ w3.ownsRow base 9 1 (.slice A n c) n xs ∧ ∀ k t cs, Blk w k t cs → Blk w3 k t cs := by
  refine ⟨hB.grown hg (by intro e; injection e with e; exact map_ne hM hB e), ?_, fun k t cs hk => hk.grown hg (by intro e; injection e with e; exact map_ne hM hk e)⟩
  exact own_blocks hO (fun k hk => by
    have h1 : some k ≠ some b := fun e => map_ne_row hM hO (by rw [← e]; exact hk)
    have h2 : k < w.heap.size := by
      rcases hO.2 with ⟨h0, _⟩ | ⟨q', cap, cur, h0, _, hkk, _⟩
      · rw [h0] at hk; simp [Value.ownBlock] at hk
      · rw [h0] at hk
        have : k = q' := by simpa [Value.ownBlock] using hk
        subst this
        exact (Array.getElem?_eq_some_iff.1 hkk).1
    exact hg.block k h2 h1)
/-- Behind the string's, too: the row's new head is laid into the box. -/
theorem tab_fin {base q b n : Nat} {A : Option Addr} {c : Nat} {D : DataW Unit} {w3 w5 : World} {l : List (List UInt8)} {x : List UInt8} {q5 c5 : Nat} {v0 : Value} (hn : n = l.length) (hx : x ∉ l) (hbb : base ≤ b) (hq : base ≤ q)
    (hB : Blk w3 q 68 #[v0, .map (some b)]) (hO : w3.ownsRow base 9 1 (.slice A n c) n (strV l)) (hM : w3.ownsMap Try.prog 9 (plainElem (H := Unit) Try.prog 3) b (n + 1) D) (hD : TabD (l ++ [x]) D)
    (hO5 : w5.ownsRow base 9 1 (.slice (some ⟨q5, 0, none⟩) (n + 1) c5) (n + 1) (strV (l ++ [x]))) (o : Obj) (hg : (w3.alloc o).grownBy w5 (Value.slice A n c).ownBlock) :
    Tab base (w5.setCell ⟨q, 0, none⟩ (.slice (some ⟨q5, 0, none⟩) (n + 1) c5)) q (addF l x) ∧ (∀ a, Below base a w3 → Below base a (w5.setCell ⟨q, 0, none⟩ (.slice (some ⟨q5, 0, none⟩) (n + 1) c5))) ∧ ∀ k t cs, Blk w3 k t cs → t ≠ 68 → t ≠ 9 → Blk (w5.setCell ⟨q, 0, none⟩ (.slice (some ⟨q5, 0, none⟩) (n + 1) c5)) k t cs := by
  have hadd : addF l x = l ++ [x] := by unfold addF; rw [if_neg (by simpa using hx)]
  have hBA := hB.alloc o
  have hOA := hO.alloc o
  have hB5 : Blk w5 q 68 #[v0, .map (some b)] := hBA.grown hg (fun e => own_ne hOA hBA (by decide) e)
  have hMA := hM.alloc o
  have hM5 : w5.ownsMap Try.prog 9 (plainElem (H := Unit) Try.prog 3) b (n + 1) D := hMA.kept hg (map_ne_row hMA hOA)
  have hq5 : q5 ≠ q := fun e => own_ne hO5 hB5 (by decide) (by rw [← e]; rfl)
  have hbq : b ≠ q := fun e => map_ne hM5 hB5 e.symm
  rw [hadd]
  refine ⟨⟨some ⟨q5, 0, none⟩, c5, .map (some b), ?_, ?_, .inr ⟨b, D, rfl, hbb, ?_, hD⟩⟩, fun a ha => ?_, fun k t cs hk h68 h9 => ?_⟩
  · have := hB5.set_ 0 (.slice (some ⟨q5, 0, none⟩) (n + 1) c5)
    rw [show (l ++ [x]).length = n + 1 from by simp [hn]]
    exact this
  · rw [show (l ++ [x]).length = n + 1 from by simp [hn]]
    exact own_blocks hO5 (fun k hk => by
      have : k = q5 := by simpa [Value.ownBlock] using hk
      subst this
      exact Below.heap_setCell _ _ _ _ hq5)
  · rw [show (l ++ [x]).length = n + 1 from by simp [hn]]
    exact hM5.setCell (a := ⟨q, 0, none⟩) hbq _
  · exact ((ha.alloc (by have := hB.lt; omega) o).grown hg (by have := hB.lt; simp; omega) (fun k hk => (hOA.lt k hk).1)).setCell (p := ⟨q, 0, none⟩) hq _
  · have hk5 : Blk w5 k t cs := (hk.alloc o).grown hg (fun e => own_ne hOA (hk.alloc o) (fun e => h9 e.symm) e)
    exact hk5.far (p := ⟨q, 0, none⟩) (fun e => by subst e; exact h68 (blk_uniq hk5 hB5)) _
theorem mapeq_some (b : Nat) (w : World) : (binOp .eql 66 (.map (some b)) (.map none)).run Try.prog w = .ok (.bool false) w := by kernel_rfl
theorem mapeq_none (w : World) : (binOp .eql 66 (.map none) (.map none)).run Try.prog w = .ok (.bool true) w := by kernel_rfl
theorem wf_small (n : Nat) (h : n ≤ 100000) : (Lit.int .i64 (n : Int)).wf = true := by
  show (decide (IntKind.i64.min ≤ (n : Int)) && decide ((n : Int) ≤ IntKind.i64.max)) = true
  rw [show IntKind.i64.min = -9223372036854775808 from rfl, show IntKind.i64.max = 9223372036854775807 from rfl]
  simp; omega
set_option maxHeartbeats 8000000 in
theorem add_any (base q : Nat) (l : List (List UInt8)) (x : List UInt8) (w : World) (h : Tab base w q l) (hq : base ≤ q) (hl : l.length ≤ 100000) (hx : x.length ≤ maxLen) :
    Calls Try.prog 30 #[.pointer (some ⟨q, 0, none⟩), .string (bs x)] w (AddB base q w l x) := by
  obtain ⟨A, c, mv, h1, h2, h3⟩ := h.st
  have hkey : keyOf Try.prog 9 (.string (bs x)) = some (.string x) := by
    have := Go.WideMaps.keyOf_string_mk (P := Try.prog) (k := 9) (s := bs x) Try.underlying9 (by rw [bs_size]; exact hx)
    rwa [bs_data] at this
  have hzq := h1.lt
  have HH1 := Lib.hid h1
  obtain ⟨n, hn⟩ : ∃ n, n = l.length := ⟨_, rfl⟩
  rw [← hn] at h1 h2 hl HH1
  have HO := Lib.hid h2
  have HBq : Hid (Below base w w) := Below.refl base w
  obtain ⟨S, hS⟩ : ∃ S, S = bs x := ⟨_, rfl⟩
  rw [← hS] at hkey ⊢
  have HS := Lib.hid hS
  have HN := Lib.hid hn
  have HT := Lib.hid h
  obtain ⟨k0, k1⟩ := (show w.cell? ⟨q, 0, none⟩ = some (.slice A n c) ∧ w.cell? ⟨q, 1, none⟩ = some mv from ⟨h1.cell 0, h1.cell 1⟩)
  have f0 := h1.frozen 0
  have f1 := h1.frozen 1
  clear hS h h1 h2
  rcases h3 with ⟨hl0, rfl⟩ | ⟨b, D, rfl, hb, hM, hD⟩
  · subst hl0
    obtain rfl : n = 0 := hn
    have hlk : (Instr.lookup 66 (.map none) (.string S) true).run Try.prog w = .ok (.tuple #[.int .i64 0, .bool false]) w := Maps.look_nil true law9' Try.underlying66 (zero3 w) hkey
    have hme := mapeq_none w
    have hmm := @run_makeMap Try.prog
    have hxl : x ∉ ([] : List (List UInt8)) := by simp
    have HXL := Lib.hid hxl
    have HNum : Hid (numF (addF [] x) x 0 = ((0 : Nat) : Int)) := by show _ = _; simp [addF, numF]
    clear hxl
    go_enter Try.func30, Try.ntmps30
    go_upto_region 9 with (fail)
    obtain ⟨b, hbe⟩ : ∃ b, b = w.heap.size := ⟨_, rfl⟩
    obtain ⟨n, hn0⟩ : ∃ n, n = 0 := ⟨_, rfl⟩
    obtain ⟨w2, hw2⟩ : ∃ w2, w2 = (w.setCell ⟨q, 1, none⟩ (.map (some b))).alloc (.map #[] 0) := ⟨_, rfl⟩
    obtain ⟨l, hl0⟩ : ∃ l : List (List UInt8), l = [] := ⟨_, rfl⟩
    have HB2 : Hid (Below base w w2) := by rw [hw2]; exact (HBq.out.setCell (p := ⟨q, 1, none⟩) hq _).alloc (by show base ≤ _; simp; omega) _
    have HH2 : Hid (Blk w2 q 68 #[.slice A n c, .map (some b)]) := by rw [hw2, hn0]; exact (HH1.out.set_ 1 _).alloc _
    have HK2 : Hid (∀ k t cs, Blk w k t cs → t ≠ 68 → Blk w2 k t cs) := fun k t cs hk h68 => by rw [hw2]; exact (hk.far (p := ⟨q, 1, none⟩) (fun e => by subst e; exact h68 (blk_uniq hk HH1.out)) _).alloc _
    have HO2 : Hid (w2.ownsRow base 9 1 (.slice A n c) n (strV l)) := by
      show World.ownsRow _ _ _ _ _ _ _
      rw [hn0, hl0, hw2]
      exact (own_blocks HO.out (fun k hk => Below.heap_setCell _ _ _ _ (fun e => by subst e; exact own_ne HO.out HH1.out (by decide) hk))).alloc _
    have HM : Hid (w2.ownsMap Try.prog 9 (plainElem (H := Unit) Try.prog 3) b n (.map [])) := by
      show World.ownsMap _ _ _ _ _ _ _
      rw [hn0, hw2, hbe]
      have := World.ownsMap_made (w.setCell ⟨q, 1, none⟩ (.map (some w.heap.size))) Try.prog 9 (plainElem (H := Unit) Try.prog 3)
      simpa using this
    have HD2 : Hid (TabD (l ++ [x]) ((DataW.map [] : DataW Unit).put (.string x) (.lit (.int .i64 (n : Int))))) := by
      show TabD _ _
      rw [hn0, hl0]
      exact TabD.nil.put x (by simp)
    have HXL : Hid (x ∉ l) := by rw [hl0]; exact HXL.out
    have HNum : Hid (numF (addF l x) x 0 = (n : Int)) := by rw [hl0, hn0]; exact HNum.out
    have HN : Hid (n = l.length) := by rw [hl0, hn0]; rfl
    have hl : n ≤ 100000 := by omega
    have hpl : plainElem (H := Unit) Try.prog 3 (.int .i64 0) = some (.lit (.int .i64 0), []) := plainElem_int Try.underlying3 (by decide)
    have hb : base ≤ b := by omega
    subst hn0
    have hw2' := hw2.symm
    rw [hbe] at hw2'
    have HL0 := Lib.hid hl0
    simp only [hw2']
    rw [← hbe]
    have z2 : q < w2.heap.size := HH2.out.lt
    obtain ⟨k0, k1⟩ := (show w2.cell? ⟨q, 0, none⟩ = some (.slice A 0 c) ∧ w2.cell? ⟨q, 1, none⟩ = some (.map (some b)) from ⟨HH2.out.cell 0, HH2.out.cell 1⟩)
    clear hw2 hw2' hl0 hlk hme hmm hbe
    go_upto_region 10 with (first
        | (at_mapUpdate; refine wpList_mapUpdate_own _ rfl _ _ _ 66 rfl 9 3 law9' Try.underlying66 (plainElem (H := Unit) Try.prog 3) b 0 _ rfl HM.out (by unfold maxLen; omega) _ _ _ rfl rfl hkey _ [] hpl ?_; intro w3 hown3 hgrow3)
        | go_in)
    obtain ⟨g0, g1, gk⟩ := tab_put HH2.out HO2.out HM.out hgrow3
    have hb3 : base ≤ w3.heap.size := by have := g0.lt; omega
    have HB3 : Hid (Below base w w3) := HB2.out.grown hgrow3 (by have := g0.lt; omega) (fun k hk => by injection hk with hk; omega)
    obtain ⟨q5, c5, w5, hr5, hO5, hg5, _⟩ := pushS base (.slice A 0 c) l x w3 (by rw [← HN.out]; exact g1) (by rw [← HN.out]; omega) hb3
    rw [← HN.out, ← HS.out] at hr5
    rw [show (l ++ [x]).length = 0 + 1 from by simp [HN.out]] at hO5
    rw [← HN.out] at hO5
    have hF := tab_fin HN.out HXL.out hb hq g0 g1 hown3 HD2.out hO5 _ hg5
    have hB5 : Blk w5 q 68 #[.slice A 0 c, .map (some b)] := (g0.alloc _).grown hg5 (fun e => own_ne g1 g0 (by decide) e)
    have HF := Lib.hid hF
    have HGK := Lib.hid gk
    obtain ⟨p0, p1⟩ := (show w3.cell? ⟨q, 0, none⟩ = some (.slice A 0 c) ∧ w3.cell? ⟨q, 1, none⟩ = some (.map (some b)) from ⟨g0.cell 0, g0.cell 1⟩)
    obtain ⟨r0, r1⟩ := (show w5.cell? ⟨q, 0, none⟩ = some (.slice A 0 c) ∧ w5.cell? ⟨q, 1, none⟩ = some (.map (some b)) from ⟨hB5.cell 0, hB5.cell 1⟩)
    have s0 := hB5.frozen 0
    have z3 : q < w3.heap.size := g0.lt
    have z5 : q < w5.heap.size := hB5.lt
    clear hown3 hgrow3 g0 g1 gk hO5 hg5 hF hB5 hb3
    go_wp2_with (at_builtin; refine Lib.wpList_append_run _ rfl _ _ 26 26 rfl _ _ rfl rfl _ _ hr5 ?_)
    go_ret
    obtain rfl : l = [] := HL0.out
    exact ⟨by rw [HNum.out]; rfl, HF.out.1, HF.out.2.1 _ HB3.out, fun k t cs hk h68 h9 => HF.out.2.2 k t cs (HGK.out k t cs (HK2.out k t cs hk h68)) h68 h9⟩
  · by_cases hc : l.contains x = true
    · have hadd : addF l x = l := by unfold addF; rw [if_pos hc]
      have hhas : Maps.has D (.string x) = true := by rw [hD.has_, hc]
      have HAT := Lib.hid (hD.at_ x (.lit (.int .i64 0)) (by simpa using hc))
      have HADD := Lib.hid hadd
      rw [← hn] at hM
      have HM := Lib.hid hM
      clear hD hc hadd hM hn
      go_enter Try.func30, Try.ntmps30
      go_wp2_with (first
        | (at_lookup; refine wpList_lookup_own_ok_int _ rfl _ _ 66 rfl 9 3 .i64 law9' Try.underlying66 Try.underlying3 (zero3 _) b n D rfl HM.out _ _ rfl hkey ?_; intro cv hcv hwc)
        | go_in)
      have hcv2 : cv = numF l x 0 := by
        have := HAT.out
        rw [hcv] at this
        injection this with this
        injection this
      clear hcv hwc hhas
      go_ret
      exact ⟨by rw [HADD.out, hcv2]; rfl, by rw [HADD.out]; exact HT.out, HBq.out, fun k t cs hk _ _ => hk⟩
    · have hcf : l.contains x = false := by simpa using hc
      have hxl : x ∉ l := by simpa using hc
      have hhas : Maps.has D (.string x) = false := by rw [hD.has_, hcf]
      have HD2 : Hid (TabD (l ++ [x]) (D.put (.string x) (.lit (.int .i64 (n : Int))))) := by rw [hn]; exact hD.put x hxl
      have HNum : Hid (numF (addF l x) x 0 = (n : Int)) := by
        show _ = _
        unfold addF
        rw [if_neg hc, numF_end l x 0 hxl, hn]
        simp
      have HXL := Lib.hid hxl
      rw [← hn] at hM
      have HM := Lib.hid hM
      clear hD hc hcf hxl hM hn
      go_enter Try.func30, Try.ntmps30
      have hme := mapeq_some b w
      have hwf : (Lit.int .i64 (n : Int)).wf = true := wf_small n hl
      have hpl := plainElem_int (H := Unit) (P := Try.prog) Try.underlying3 hwf
      go_upto_region 10 with (first
        | (at_lookup; refine wpList_lookup_own_ok_int _ rfl _ _ 66 rfl 9 3 .i64 law9' Try.underlying66 Try.underlying3 (zero3 _) b n D rfl HM.out _ _ rfl hkey ?_; intro cv hcv hwc)
        | (at_mapUpdate; refine wpList_mapUpdate_own _ rfl _ _ _ 66 rfl 9 3 law9' Try.underlying66 (plainElem (H := Unit) Try.prog 3) b n _ rfl HM.out (by unfold maxLen; omega) _ _ _ rfl rfl hkey _ [] hpl ?_; intro w3 hown3 hgrow3)
        | go_in)
      obtain ⟨g0, g1, gk⟩ := tab_put HH1.out HO.out HM.out hgrow3
      have hb3 : base ≤ w3.heap.size := by have := g0.lt; omega
      have HB3 : Hid (Below base w w3) := HBq.out.grown hgrow3 (by have := g0.lt; omega) (fun k hk => by injection hk with hk; omega)
      obtain ⟨q5, c5, w5, hr5, hO5, hg5, _⟩ := pushS base (.slice A n c) l x w3 (by rw [← HN.out]; exact g1) (by rw [← HN.out]; omega) hb3
      rw [← HN.out, ← HS.out] at hr5
      rw [show (l ++ [x]).length = n + 1 from by simp [HN.out]] at hO5
      rw [← HN.out] at hO5
      have hF := tab_fin HN.out HXL.out hb hq g0 g1 hown3 HD2.out hO5 _ hg5
      have hB5 : Blk w5 q 68 #[.slice A n c, .map (some b)] := (g0.alloc _).grown hg5 (fun e => own_ne g1 g0 (by decide) e)
      have HF := Lib.hid hF
      have HGK := Lib.hid gk
      obtain ⟨p0, p1⟩ := (show w3.cell? ⟨q, 0, none⟩ = some (.slice A n c) ∧ w3.cell? ⟨q, 1, none⟩ = some (.map (some b)) from ⟨g0.cell 0, g0.cell 1⟩)
      obtain ⟨r0, r1⟩ := (show w5.cell? ⟨q, 0, none⟩ = some (.slice A n c) ∧ w5.cell? ⟨q, 1, none⟩ = some (.map (some b)) from ⟨hB5.cell 0, hB5.cell 1⟩)
      have s0 := hB5.frozen 0
      have z3 : q < w3.heap.size := g0.lt
      have z5 : q < w5.heap.size := hB5.lt
      clear hown3 hgrow3 g0 g1 gk hO5 hg5 hF hB5 hb3
      go_wp2_with (at_builtin; refine Lib.wpList_append_run _ rfl _ _ 26 26 rfl _ _ rfl rfl _ _ hr5 ?_)
      go_ret
      exact ⟨by rw [HNum.out]; rfl, HF.out.1, HF.out.2.1 _ HB3.out, fun k t cs hk h68 h9 => HF.out.2.2 k t cs (HGK.out k t cs hk) h68 h9⟩
end Go.Proofs.Ytpdebnecfknohaa
namespace Go.Proofs
open Go.Shelf
def Try.lays128_ren : Go.Shelf.Ren := ⟨fun | 128 => 97 | n => n, fun | 51 => 141 | 3 => 3 | 4 => 4 | 46 => 120 | 5 => 5 | 9 => 9 | n => n, fun | n => n⟩
def Try.lays125_ren : Go.Shelf.Ren := ⟨fun | 125 => 86 | 128 => 97 | 129 => 98 | n => n, fun | 46 => 120 | 3 => 3 | 51 => 141 | 53 => 143 | 4 => 4 | 5 => 5 | 9 => 9 | n => n, fun | n => n⟩
def Try.lays129_ren : Go.Shelf.Ren := ⟨fun | 129 => 98 | n => n, fun | 53 => 143 | 3 => 3 | 4 => 4 | 46 => 120 | 5 => 5 | 9 => 9 | n => n, fun | n => n⟩
def Try.laysM316_ren : Go.Shelf.Ren := ⟨fun | 316 => 87 | n => n, fun | 9 => 9 | 3 => 3 | 4 => 4 | 37 => 53 | 0 => 0 | 127 => 144 | 5 => 5 | n => n, fun | n => n⟩
theorem Try.laysM316 : Go.Proofs.LaysM.n316 Try.prog Try.laysM316_ren := {
  mixed := by kernel_rfl
  f316 := Try.func87.trans (congrArg some (by kernel_rfl))
  t0 := Try.underlying0
  a0 := Try.isAgg0
  z0 := Try.sizeOf0
  v0 := Try.zeroValue0
  t3 := Try.underlying3
  a3 := Try.isAgg3
  z3 := Try.sizeOf3
  v3 := Try.zeroValue3
  t4 := Try.underlying4
  a4 := Try.isAgg4
  z4 := Try.sizeOf4
  v4 := Try.zeroValue4
  t9 := Try.underlying9
  a9 := Try.isAgg9
  z9 := Try.sizeOf9
  v9 := Try.zeroValue9
  t37 := Try.underlying53
  a37 := Try.isAgg53
  z37 := Try.sizeOf53
  v37 := Try.zeroValue53
  t127 := Try.underlying144
  a127 := Try.isAgg144
  z127 := Try.sizeOf144
  v127 := Try.zeroValue144
  t5 := Try.underlying5
  a5 := Try.isAgg5
  z5 := Try.sizeOf5
  v5 := Try.zeroValue5
  i0 := by kernel_rfl
  i3 := by kernel_rfl
  i4 := by kernel_rfl
  i5 := by kernel_rfl
  i9 := by kernel_rfl
  i37 := by kernel_rfl
  i127 := by kernel_rfl }
open Go.RowKit in
theorem Try.stringslite_Clone (s : ByteArray) (w : World) (hlim : s.size ≤ 281474976710656) :
    Calls Try.prog 87 #[.string s] w fun e w' => e = .returned (.string s) ∧ Below w.heap.size w w' := Any.stringslite_Clone Try.laysM316 s w hlim
def Try.lays190_ren : Go.Shelf.Ren := ⟨fun | 190 => 73 | 125 => 86 | 258 => 85 | 128 => 97 | 129 => 98 | 302 => 89 | 303 => 90 | 304 => 91 | 305 => 92 | 306 => 93 | 307 => 94 | 308 => 75 | 309 => 95 | 310 => 96 | 333 => 99 | 329 => 100 | 330 => 101 | 334 => 102 | 335 => 103 | 336 => 88 | 344 => 104 | n => n, fun | 31 => 26 | 9 => 9 | 3 => 3 | 46 => 120 | 0 => 0 | 51 => 141 | 53 => 143 | 4 => 4 | 183 => 135 | 182 => 134 | 131 => 93 | 5 => 5 | 218 => 145 | 222 => 149 | 228 => 151 | 229 => 152 | n => n, fun | n => n⟩
theorem Try.lays190 : Go.Proofs.Lays.n190 Try.prog Try.lays190_ren := {
  mixed := by kernel_rfl
  f125 := Try.func86.trans (congrArg some (by kernel_rfl))
  f128 := Try.func97.trans (congrArg some (by kernel_rfl))
  f129 := Try.func98.trans (congrArg some (by kernel_rfl))
  f190 := Try.func73.trans (congrArg some (by kernel_rfl))
  f258 := Try.func85.trans (congrArg some (by kernel_rfl))
  f302 := Try.func89.trans (congrArg some (by kernel_rfl))
  f303 := Try.func90.trans (congrArg some (by kernel_rfl))
  f304 := Try.func91.trans (congrArg some (by kernel_rfl))
  f305 := Try.func92.trans (congrArg some (by kernel_rfl))
  f306 := Try.func93.trans (congrArg some (by kernel_rfl))
  f307 := Try.func94.trans (congrArg some (by kernel_rfl))
  f308 := Try.func75.trans (congrArg some (by kernel_rfl))
  f309 := Try.func95.trans (congrArg some (by kernel_rfl))
  f310 := Try.func96.trans (congrArg some (by kernel_rfl))
  f329 := Try.func100.trans (congrArg some (by kernel_rfl))
  f330 := Try.func101.trans (congrArg some (by kernel_rfl))
  f333 := Try.func99.trans (congrArg some (by kernel_rfl))
  f334 := Try.func102.trans (congrArg some (by kernel_rfl))
  f335 := Try.func103.trans (congrArg some (by kernel_rfl))
  f336 := Try.func88.trans (congrArg some (by kernel_rfl))
  f344 := Try.func104.trans (congrArg some (by kernel_rfl))
  t0 := Try.underlying0
  a0 := Try.isAgg0
  z0 := Try.sizeOf0
  v0 := Try.zeroValue0
  t3 := Try.underlying3
  a3 := Try.isAgg3
  z3 := Try.sizeOf3
  v3 := Try.zeroValue3
  t4 := Try.underlying4
  a4 := Try.isAgg4
  z4 := Try.sizeOf4
  v4 := Try.zeroValue4
  t5 := Try.underlying5
  a5 := Try.isAgg5
  z5 := Try.sizeOf5
  v5 := Try.zeroValue5
  t9 := Try.underlying9
  a9 := Try.isAgg9
  z9 := Try.sizeOf9
  v9 := Try.zeroValue9
  t31 := Try.underlying26
  a31 := Try.isAgg26
  z31 := Try.sizeOf26
  v31 := Try.zeroValue26
  t46 := Try.underlying120
  a46 := Try.isAgg120
  z46 := Try.sizeOf120
  v46 := Try.zeroValue120
  t51 := Try.underlying141
  a51 := Try.isAgg141
  z51 := Try.sizeOf141
  v51 := Try.zeroValue141
  t53 := Try.underlying143
  a53 := Try.isAgg143
  z53 := Try.sizeOf143
  v53 := Try.zeroValue143
  t131 := Try.underlying93
  a131 := Try.isAgg93
  z131 := Try.sizeOf93
  v131 := Try.zeroValue93
  t182 := Try.underlying134
  a182 := Try.isAgg134
  z182 := Try.sizeOf134
  v182 := Try.zeroValue134
  t183 := Try.underlying135
  a183 := Try.isAgg135
  z183 := Try.sizeOf135
  v183 := Try.zeroValue135
  t218 := Try.underlying145
  a218 := Try.isAgg145
  z218 := Try.sizeOf145
  v218 := Try.zeroValue145
  t222 := Try.underlying149
  a222 := Try.isAgg149
  z222 := Try.sizeOf149
  v222 := Try.zeroValue149
  t228 := Try.underlying151
  a228 := Try.isAgg151
  z228 := Try.sizeOf151
  v228 := Try.zeroValue151
  t229 := Try.underlying152
  a229 := Try.isAgg152
  z229 := Try.sizeOf152
  v229 := Try.zeroValue152 }
open Go.Sort Go.RowKit in
theorem Try.slices_Sort_string (blk off cap : Nat) (ss : List (List UInt8)) (w : World) (hH : Holds encStr w blk off ss.toArray) (hblk : blk < w.heap.size) (hsz : ss.length < 4611686018427387904) :
    Calls Try.prog 73 #[.slice (some ⟨blk, off, none⟩) ss.length cap] w fun e w' =>
      e = .returned (.tuple #[]) ∧ ∃ n os, w' = grow (putRow encStr (Sort.ahead w n) blk off (ss.mergeSort fun x y => decide (x ≤ y)).toArray) os := Any.slices_Sort_string Try.lays190 blk off cap ss w hH hblk hsz
def Try.laysNm215_ren : Go.Shelf.Ren := ⟨fun | 15 => 77 | n => n, fun | 22 => 27 | 3 => 3 | 4 => 4 | n => n, fun | n => n⟩
open Go.RowKit Go.Lib in
open Go.RowKit Go.Lib in
def Try.laysNm216_ren : Go.Shelf.Ren := ⟨fun | 16 => 57 | n => n, fun | 24 => 26 | 9 => 9 | 4 => 4 | n => n, fun | n => n⟩
open Go.RowKit Go.Lib in
open Go.RowKit Go.Lib in
open Go.RowKit Go.Lib in
open Go.RowKit Go.Lib in
open Go.RowKit Go.Sort in
theorem Try.slices_Sort_string_none (p : Option Addr) (cap : Nat) (w : World) :
    Calls Try.prog 73 #[.slice p 0 cap] w fun e w' => e = .returned (.tuple #[]) ∧ w' = w := Any.slices_Sort_string_none Try.lays190 p cap w
def Try.laysSlE041_f57_ren : Go.Shelf.Ren := ⟨fun | 41 => 57 | n => n, fun | 22 => 26 | 23 => 9 | 4 => 4 | n => n, fun | n => n⟩
open Go.RowKit Go.Lib in
def Try.laysSlE041_f77_ren : Go.Shelf.Ren := ⟨fun | 41 => 77 | n => n, fun | 22 => 27 | 23 => 3 | 4 => 4 | n => n, fun | n => n⟩
open Go.RowKit Go.Lib in
open Go.RowKit Go.Lib in
open Go.RowKit Go.Lib in
def Try.laysNm226_ren : Go.Shelf.Ren := ⟨fun | 26 => 47 | 33 => 75 | 34 => 76 | 38 => 88 | n => n, fun | 24 => 26 | 9 => 9 | 3 => 3 | 4 => 4 | 40 => 120 | 0 => 0 | n => n, fun | n => n⟩
theorem Try.laysNm226 : Go.Proofs.Lays2.n26 Try.prog Try.laysNm226_ren := {
  mixed := by kernel_rfl
  f26 := Try.func47.trans (congrArg some (by kernel_rfl))
  f33 := Try.func75.trans (congrArg some (by kernel_rfl))
  f34 := Try.func76.trans (congrArg some (by kernel_rfl))
  f38 := Try.func88.trans (congrArg some (by kernel_rfl))
  t0 := Try.underlying0
  a0 := Try.isAgg0
  z0 := Try.sizeOf0
  v0 := Try.zeroValue0
  t3 := Try.underlying3
  a3 := Try.isAgg3
  z3 := Try.sizeOf3
  v3 := Try.zeroValue3
  t4 := Try.underlying4
  a4 := Try.isAgg4
  z4 := Try.sizeOf4
  v4 := Try.zeroValue4
  t9 := Try.underlying9
  a9 := Try.isAgg9
  z9 := Try.sizeOf9
  v9 := Try.zeroValue9
  t24 := Try.underlying26
  a24 := Try.isAgg26
  z24 := Try.sizeOf26
  v24 := Try.zeroValue26
  t40 := Try.underlying120
  a40 := Try.isAgg120
  z40 := Try.sizeOf120
  v40 := Try.zeroValue120 }
open Go.RowKit in
theorem Try.slices_BinarySearch_string (b off n c : Nat) (Sx : Nat → ByteArray) (x : ByteArray) (w : World) (hbig : n < 4611686018427387904) (hc : ∀ j, j < n → w.cell? ⟨b, off + j, none⟩ = some (.string (Sx j))) :
    Calls Try.prog 47 #[.slice (some ⟨b, off, none⟩) n c, .string x] w fun e w' =>
      e = .returned (.tuple #[.int .i64 (Lib.bsGo (fun t => Op.bytesLess (Sx t).toList x.toList) n 0 n : Nat), .bool (decide (Lib.bsGo (fun t => Op.bytesLess (Sx t).toList x.toList) n 0 n < n ∧ Sx (Lib.bsGo (fun t => Op.bytesLess (Sx t).toList x.toList) n 0 n) = x))]) ∧ ∃ q, w' = w.drewN q := Any2.slices_BinarySearch_string Try.laysNm226 b off n c Sx x w hbig hc
end Go.Proofs
namespace Go.Proofs.Ytpdebnecfknohaa
open Go.RowKit Go.Maps
set_option linter.unusedVariables false
set_option linter.unusedSimpArgs false
set_option maxRecDepth 20000
theorem all_nil (w : World) : Calls Try.prog 31 #[.pointer none] w fun e w' => e = .returned (.slice none 0 0) ∧ w = w' := by
  go_enter Try.func31, Try.ntmps31
  go_wp2
  go_ret
  exact ⟨rfl, rfl⟩
theorem rds_any {w : World} {base n size e c : Nat} {A : Option Addr} {xs : List Value} (h : w.ownsRow base e size (.slice A n c) n xs) : RdS (fun _ => True) w A n size xs :=
  ⟨(RdS.own h).1, fun hp => by obtain ⟨b, o, hA, _, hc⟩ := (RdS.own h).2 hp; exact ⟨b, o, hA, trivial, hc⟩⟩
theorem all_any (base q : Nat) (l : List (List UInt8)) (w : World) (h : Tab base w q l) (hl : l.length ≤ 1000000) :
    Calls Try.prog 31 #[.pointer (some ⟨q, 0, none⟩)] w fun e w' => ∃ A c, e = .returned (.slice A l.length c) ∧ w'.ownsRow w.heap.size 9 1 (.slice A l.length c) l.length (strV l) ∧ Below w.heap.size w w' := by
  obtain ⟨A, c, mv, h1, h2, _⟩ := h.st
  have hC := cloneStr_any A c l w (rds_any h2) hl
  obtain ⟨n, hn⟩ : ∃ n, n = l.length := ⟨_, rfl⟩
  rw [← hn] at hC h1 ⊢
  obtain ⟨k0, k1⟩ := (show w.cell? ⟨q, 0, none⟩ = some (.slice A n c) ∧ w.cell? ⟨q, 1, none⟩ = some mv from ⟨h1.cell 0, h1.cell 1⟩)
  have hz : q < w.heap.size := h1.lt
  have HC := Lib.hid hC
  clear hC h h1 h2 hn
  go_enter Try.func31, Try.ntmps31
  go_wp2_with fail
  refine HC.out.mono ?_
  rintro e w2 ⟨A', c', rfl, hO, hb⟩
  have HO := Lib.hid hO
  have HB := Lib.hid hb
  clear hO hb HC k0 k1
  go_wp2
  go_ret
  exact ⟨A', c', rfl, HO.out, HB.out⟩
theorem strclone_any (x : List UInt8) (w : World) (hx : x.length ≤ 281474976710656) : Calls Try.prog 74 #[.string (bs x)] w fun e w' => e = .returned (.string (bs x)) ∧ Below w.heap.size w w' := by
  have hC := Try.stringslite_Clone (bs x) w (by rw [bs_size]; exact hx)
  generalize bs x = S at *
  have HC := Lib.hid hC
  clear hC
  go_enter Try.func74, Try.ntmps74
  go_wp2_with fail
  refine HC.out.mono ?_
  rintro e w2 ⟨rfl, hb⟩
  have HB := Lib.hid hb
  clear hb
  go_wp2
  go_ret
  exact ⟨rfl, HB.out⟩
theorem ssort_any (base n c : Nat) (A : Option Addr) (l : List (List UInt8)) (w : World) (hn : n = l.length) (h : w.ownsRow base 9 1 (.slice A n c) n (strV l)) (hl : n ≤ 1000000) :
    Calls Try.prog 73 #[.slice A n c] w fun e w' => e = .returned (.tuple #[]) ∧ w'.ownsRow base 9 1 (.slice A n c) n (strV (srtF l)) ∧ w.grownBy w' (Value.slice A n c).ownBlock := by
  subst hn
  rcases h.2 with ⟨hv, hn⟩ | ⟨g, cap, cur, hv, hb, hg, hc, hm, hs, ht⟩
  · injection hv with h1 h2 h3
    subst h1 h3
    have : l = [] := List.eq_nil_of_length_eq_zero hn
    subst this
    refine (Try.slices_Sort_string_none none 0 w).mono ?_
    rintro e w' ⟨rfl, rfl⟩
    exact ⟨rfl, by rw [show srtF [] = [] from by simp [srtF]]; exact h, World.grownBy.refl _ _⟩
  · injection hv with h1 h2 h3
    subst h1 h3
    have ht2 : cur.toList.take l.length = l.map Go.Proofs.encStr := by rw [Nat.mul_one] at ht; exact ht
    refine (Try.slices_Sort_string g 0 c l w (holds_of_block hg ht2) (heap_ltM hg) (by omega)).mono ?_
    rintro e w' ⟨rfl, n, os, rfl⟩
    refine ⟨rfl, ?_, grownBy_sorted _⟩
    exact ownsRow_sorted (n := n) (os := os) (ss := l) (ts := l.mergeSort (fun x y => decide (x ≤ y))) (List.length_mergeSort _) hb hg hc hm hs
end Go.Proofs.Ytpdebnecfknohaa
