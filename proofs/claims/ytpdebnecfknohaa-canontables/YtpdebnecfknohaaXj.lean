/-
  Table.Add, and what it leaves of blocks beside the table's.
-/
import Derived.Test.YtpdebnecfknohaaXc
namespace Go.Proofs.Ytpdebnecfknohaa
open Go.RowKit Go.Maps
set_option linter.unusedVariables false
set_option linter.unusedSimpArgs false
set_option maxRecDepth 20000
/-- The block k isn't the one in which the table's list stands. -/
def Away (w : World) (q k : Nat) : Prop := ∀ A n c, w.cell? ⟨q, 0, none⟩ = some (.slice A n c) → some k ≠ (Value.slice A n c).ownBlock
/-- What Add leaves, with the blocks beside the table's. -/
def AddK (base q : Nat) (w : World) (l : List (List UInt8)) (x : List UInt8) (e : Ending) (w' : World) : Prop :=
  e = .returned (.int .i64 (numF (addF l x) x 0)) ∧ Tab base w' q (addF l x) ∧ Below base w w' ∧ ∀ k t cs, Blk w k t cs → t ≠ 68 → Away w q k → Blk w' k t cs ∧ Away w' q k
theorem fin_keep {base q n : Nat} {A : Option Addr} {c : Nat} {w3 w5 : World} {xs : List Value} {q5 : Nat} {v0 mv : Value} {o : Obj} (hB : Blk w3 q 68 #[v0, mv]) (hO : w3.ownsRow base 9 1 (.slice A n c) n xs) (hg : (w3.alloc o).grownBy w5 (Value.slice A n c).ownBlock) (hat : some q5 = (Value.slice A n c).ownBlock ∨ q5 = w3.heap.size + 1) (m c5 : Nat) :
    ∀ k t cs, Blk w3 k t cs → t ≠ 68 → some k ≠ (Value.slice A n c).ownBlock → Blk (w5.setCell ⟨q, 0, none⟩ (.slice (some ⟨q5, 0, none⟩) m c5)) k t cs ∧ Away (w5.setCell ⟨q, 0, none⟩ (.slice (some ⟨q5, 0, none⟩) m c5)) q k := by
  intro k t cs hk h68 hne
  have hOA := hO.alloc o
  have hBA := hB.alloc o
  have hB5 : Blk w5 q 68 #[v0, mv] := hBA.grown hg (fun e => own_ne hOA hBA (by decide) e)
  have hk5 : Blk w5 k t cs := (hk.alloc o).grown hg hne
  refine ⟨hk5.far (p := ⟨q, 0, none⟩) (fun e => by subst e; exact h68 (blk_uniq hk5 hB5)) _, fun A' n' c' h e => ?_⟩
  have h1 := (hB5.set_ 0 (.slice (some ⟨q5, 0, none⟩) m c5)).cell 0
  rw [h] at h1
  have h2 : Value.slice A' n' c' = .slice (some ⟨q5, 0, none⟩) m c5 := by simpa using h1
  rw [h2] at e
  have h3 : k = q5 := by simpa [Value.ownBlock] using e
  rcases hat with h4 | h4
  · exact hne (by rw [h3]; exact h4)
  · have := hk.lt
    omega
set_option maxHeartbeats 8000000 in
theorem addK_any (base q : Nat) (l : List (List UInt8)) (x : List UInt8) (w : World) (h : Tab base w q l) (hq : base ≤ q) (hl : l.length ≤ 100000) (hx : x.length ≤ maxLen) :
    Calls Try.prog 30 #[.pointer (some ⟨q, 0, none⟩), .string (bs x)] w (AddK base q w l x) := by
  obtain ⟨A, c, mv, h1, h2, h3⟩ := h.st
  have hkey : keyOf Try.prog 9 (.string (bs x)) = some (.string x) := by
    have := Go.WideMaps.keyOf_string_mk (P := Try.prog) (k := 9) (s := bs x) Try.underlying9 (by rw [bs_size]; exact hx)
    rwa [bs_data] at this
  have hzq := h1.lt
  have HH1 := Lib.hid h1
  obtain ⟨n, hn⟩ : ∃ n, n = l.length := ⟨_, rfl⟩
  rw [← hn] at h1 h2 hl HH1
  have HO := Lib.hid h2
  have HBq : Hid (Below base w w) := Below.refl base w
  obtain ⟨S, hS⟩ : ∃ S, S = bs x := ⟨_, rfl⟩
  rw [← hS] at hkey ⊢
  have HS := Lib.hid hS
  have HN := Lib.hid hn
  have HT := Lib.hid h
  obtain ⟨k0, k1⟩ := (show w.cell? ⟨q, 0, none⟩ = some (.slice A n c) ∧ w.cell? ⟨q, 1, none⟩ = some mv from ⟨h1.cell 0, h1.cell 1⟩)
  have HK0 := Lib.hid k0
  have f0 := h1.frozen 0
  have f1 := h1.frozen 1
  clear hS h h1 h2
  rcases h3 with ⟨hl0, rfl⟩ | ⟨b, D, rfl, hb, hM, hD⟩
  · subst hl0
    obtain rfl : n = 0 := hn
    have hlk : (Instr.lookup 66 (.map none) (.string S) true).run Try.prog w = .ok (.tuple #[.int .i64 0, .bool false]) w := Maps.look_nil true law9' Try.underlying66 (zero3 w) hkey
    have hme := mapeq_none w
    have hmm := @run_makeMap Try.prog
    have hxl : x ∉ ([] : List (List UInt8)) := by simp
    have HXL := Lib.hid hxl
    have HNum : Hid (numF (addF [] x) x 0 = ((0 : Nat) : Int)) := by show _ = _; simp [addF, numF]
    clear hxl
    go_enter Try.func30, Try.ntmps30
    go_upto_region 9 with (fail)
    obtain ⟨b, hbe⟩ : ∃ b, b = w.heap.size := ⟨_, rfl⟩
    obtain ⟨n, hn0⟩ : ∃ n, n = 0 := ⟨_, rfl⟩
    obtain ⟨w2, hw2⟩ : ∃ w2, w2 = (w.setCell ⟨q, 1, none⟩ (.map (some b))).alloc (.map #[] 0) := ⟨_, rfl⟩
    obtain ⟨l, hl0⟩ : ∃ l : List (List UInt8), l = [] := ⟨_, rfl⟩
    have HB2 : Hid (Below base w w2) := by rw [hw2]; exact (HBq.out.setCell (p := ⟨q, 1, none⟩) hq _).alloc (by show base ≤ _; simp; omega) _
    have HH2 : Hid (Blk w2 q 68 #[.slice A n c, .map (some b)]) := by rw [hw2, hn0]; exact (HH1.out.set_ 1 _).alloc _
    have HK2 : Hid (∀ k t cs, Blk w k t cs → t ≠ 68 → Blk w2 k t cs) := fun k t cs hk h68 => by rw [hw2]; exact (hk.far (p := ⟨q, 1, none⟩) (fun e => by subst e; exact h68 (blk_uniq hk HH1.out)) _).alloc _
    have HO2 : Hid (w2.ownsRow base 9 1 (.slice A n c) n (strV l)) := by
      show World.ownsRow _ _ _ _ _ _ _
      rw [hn0, hl0, hw2]
      exact (own_blocks HO.out (fun k hk => Below.heap_setCell _ _ _ _ (fun e => by subst e; exact own_ne HO.out HH1.out (by decide) hk))).alloc _
    have HM : Hid (w2.ownsMap Try.prog 9 (plainElem (H := Unit) Try.prog 3) b n (.map [])) := by
      show World.ownsMap _ _ _ _ _ _ _
      rw [hn0, hw2, hbe]
      have := World.ownsMap_made (w.setCell ⟨q, 1, none⟩ (.map (some w.heap.size))) Try.prog 9 (plainElem (H := Unit) Try.prog 3)
      simpa using this
    have HD2 : Hid (TabD (l ++ [x]) ((DataW.map [] : DataW Unit).put (.string x) (.lit (.int .i64 (n : Int))))) := by
      show TabD _ _
      rw [hn0, hl0]
      exact TabD.nil.put x (by simp)
    have HXL : Hid (x ∉ l) := by rw [hl0]; exact HXL.out
    have HNum : Hid (numF (addF l x) x 0 = (n : Int)) := by rw [hl0, hn0]; exact HNum.out
    have HN : Hid (n = l.length) := by rw [hl0, hn0]; rfl
    have hl : n ≤ 100000 := by omega
    have hpl : plainElem (H := Unit) Try.prog 3 (.int .i64 0) = some (.lit (.int .i64 0), []) := plainElem_int Try.underlying3 (by decide)
    have hb : base ≤ b := by omega
    subst hn0
    have hw2' := hw2.symm
    rw [hbe] at hw2'
    have HL0 := Lib.hid hl0
    simp only [hw2']
    rw [← hbe]
    have z2 : q < w2.heap.size := HH2.out.lt
    obtain ⟨k0, k1⟩ := (show w2.cell? ⟨q, 0, none⟩ = some (.slice A 0 c) ∧ w2.cell? ⟨q, 1, none⟩ = some (.map (some b)) from ⟨HH2.out.cell 0, HH2.out.cell 1⟩)
    clear hw2 hw2' hl0 hlk hme hmm hbe
    go_upto_region 10 with (first
        | (at_mapUpdate; refine wpList_mapUpdate_own _ rfl _ _ _ 66 rfl 9 3 law9' Try.underlying66 (plainElem (H := Unit) Try.prog 3) b 0 _ rfl HM.out (by unfold maxLen; omega) _ _ _ rfl rfl hkey _ [] hpl ?_; intro w3 hown3 hgrow3)
        | go_in)
    obtain ⟨g0, g1, gk⟩ := tab_put HH2.out HO2.out HM.out hgrow3
    have hb3 : base ≤ w3.heap.size := by have := g0.lt; omega
    have HB3 : Hid (Below base w w3) := HB2.out.grown hgrow3 (by have := g0.lt; omega) (fun k hk => by injection hk with hk; omega)
    obtain ⟨q5, c5, w5, hr5, hO5, hg5, hat5⟩ := pushS base (.slice A 0 c) l x w3 (by rw [← HN.out]; exact g1) (by rw [← HN.out]; omega) hb3
    rw [← HN.out, ← HS.out] at hr5
    rw [show (l ++ [x]).length = 0 + 1 from by simp [HN.out]] at hO5
    rw [← HN.out] at hO5
    have hF := tab_fin HN.out HXL.out hb hq g0 g1 hown3 HD2.out hO5 _ hg5
    have hB5 : Blk w5 q 68 #[.slice A 0 c, .map (some b)] := (g0.alloc _).grown hg5 (fun e => own_ne g1 g0 (by decide) e)
    have HF := Lib.hid hF
    have HF2 := Lib.hid (fin_keep g0 g1 hg5 hat5 (0 + 1) c5)
    have HGK := Lib.hid gk
    obtain ⟨p0, p1⟩ := (show w3.cell? ⟨q, 0, none⟩ = some (.slice A 0 c) ∧ w3.cell? ⟨q, 1, none⟩ = some (.map (some b)) from ⟨g0.cell 0, g0.cell 1⟩)
    obtain ⟨r0, r1⟩ := (show w5.cell? ⟨q, 0, none⟩ = some (.slice A 0 c) ∧ w5.cell? ⟨q, 1, none⟩ = some (.map (some b)) from ⟨hB5.cell 0, hB5.cell 1⟩)
    have s0 := hB5.frozen 0
    have z3 : q < w3.heap.size := g0.lt
    have z5 : q < w5.heap.size := hB5.lt
    clear hown3 hgrow3 g0 g1 gk hO5 hg5 hF hB5 hb3 hat5
    go_wp2_with (at_builtin; refine Lib.wpList_append_run _ rfl _ _ 26 26 rfl _ _ rfl rfl _ _ hr5 ?_)
    go_ret
    obtain rfl : l = [] := HL0.out
    exact ⟨by rw [HNum.out]; rfl, HF.out.1, HF.out.2.1 _ HB3.out, fun k t cs hk h68 ha => HF2.out k t cs (HGK.out k t cs (HK2.out k t cs hk h68)) h68 (ha _ _ _ HK0.out)⟩
  · by_cases hc : l.contains x = true
    · have hadd : addF l x = l := by unfold addF; rw [if_pos hc]
      have hhas : Maps.has D (.string x) = true := by rw [hD.has_, hc]
      have HAT := Lib.hid (hD.at_ x (.lit (.int .i64 0)) (by simpa using hc))
      have HADD := Lib.hid hadd
      rw [← hn] at hM
      have HM := Lib.hid hM
      clear hD hc hadd hM hn
      go_enter Try.func30, Try.ntmps30
      go_wp2_with (first
        | (at_lookup; refine wpList_lookup_own_ok_int _ rfl _ _ 66 rfl 9 3 .i64 law9' Try.underlying66 Try.underlying3 (zero3 _) b n D rfl HM.out _ _ rfl hkey ?_; intro cv hcv hwc)
        | go_in)
      have hcv2 : cv = numF l x 0 := by
        have := HAT.out
        rw [hcv] at this
        injection this with this
        injection this
      clear hcv hwc hhas
      go_ret
      exact ⟨by rw [HADD.out, hcv2]; rfl, by rw [HADD.out]; exact HT.out, HBq.out, fun k t cs hk _ ha => ⟨hk, ha⟩⟩
    · have hcf : l.contains x = false := by simpa using hc
      have hxl : x ∉ l := by simpa using hc
      have hhas : Maps.has D (.string x) = false := by rw [hD.has_, hcf]
      have HD2 : Hid (TabD (l ++ [x]) (D.put (.string x) (.lit (.int .i64 (n : Int))))) := by rw [hn]; exact hD.put x hxl
      have HNum : Hid (numF (addF l x) x 0 = (n : Int)) := by
        show _ = _
        unfold addF
        rw [if_neg hc, numF_end l x 0 hxl, hn]
        simp
      have HXL := Lib.hid hxl
      rw [← hn] at hM
      have HM := Lib.hid hM
      clear hD hc hcf hxl hM hn
      go_enter Try.func30, Try.ntmps30
      have hme := mapeq_some b w
      have hwf : (Lit.int .i64 (n : Int)).wf = true := wf_small n hl
      have hpl := plainElem_int (H := Unit) (P := Try.prog) Try.underlying3 hwf
      go_upto_region 10 with (first
        | (at_lookup; refine wpList_lookup_own_ok_int _ rfl _ _ 66 rfl 9 3 .i64 law9' Try.underlying66 Try.underlying3 (zero3 _) b n D rfl HM.out _ _ rfl hkey ?_; intro cv hcv hwc)
        | (at_mapUpdate; refine wpList_mapUpdate_own _ rfl _ _ _ 66 rfl 9 3 law9' Try.underlying66 (plainElem (H := Unit) Try.prog 3) b n _ rfl HM.out (by unfold maxLen; omega) _ _ _ rfl rfl hkey _ [] hpl ?_; intro w3 hown3 hgrow3)
        | go_in)
      obtain ⟨g0, g1, gk⟩ := tab_put HH1.out HO.out HM.out hgrow3
      have hb3 : base ≤ w3.heap.size := by have := g0.lt; omega
      have HB3 : Hid (Below base w w3) := HBq.out.grown hgrow3 (by have := g0.lt; omega) (fun k hk => by injection hk with hk; omega)
      obtain ⟨q5, c5, w5, hr5, hO5, hg5, hat5⟩ := pushS base (.slice A n c) l x w3 (by rw [← HN.out]; exact g1) (by rw [← HN.out]; omega) hb3
      rw [← HN.out, ← HS.out] at hr5
      rw [show (l ++ [x]).length = n + 1 from by simp [HN.out]] at hO5
      rw [← HN.out] at hO5
      have hF := tab_fin HN.out HXL.out hb hq g0 g1 hown3 HD2.out hO5 _ hg5
      have hB5 : Blk w5 q 68 #[.slice A n c, .map (some b)] := (g0.alloc _).grown hg5 (fun e => own_ne g1 g0 (by decide) e)
      have HF := Lib.hid hF
      have HF2 := Lib.hid (fin_keep g0 g1 hg5 hat5 (n + 1) c5)
      have HGK := Lib.hid gk
      obtain ⟨p0, p1⟩ := (show w3.cell? ⟨q, 0, none⟩ = some (.slice A n c) ∧ w3.cell? ⟨q, 1, none⟩ = some (.map (some b)) from ⟨g0.cell 0, g0.cell 1⟩)
      obtain ⟨r0, r1⟩ := (show w5.cell? ⟨q, 0, none⟩ = some (.slice A n c) ∧ w5.cell? ⟨q, 1, none⟩ = some (.map (some b)) from ⟨hB5.cell 0, hB5.cell 1⟩)
      have s0 := hB5.frozen 0
      have z3 : q < w3.heap.size := g0.lt
      have z5 : q < w5.heap.size := hB5.lt
      clear hown3 hgrow3 g0 g1 gk hO5 hg5 hF hB5 hb3 hat5
      go_wp2_with (at_builtin; refine Lib.wpList_append_run _ rfl _ _ 26 26 rfl _ _ rfl rfl _ _ hr5 ?_)
      go_ret
      exact ⟨by rw [HNum.out]; rfl, HF.out.1, HF.out.2.1 _ HB3.out, fun k t cs hk h68 ha => HF2.out k t cs (HGK.out k t cs hk) h68 (ha _ _ _ HK0.out)⟩
end Go.Proofs.Ytpdebnecfknohaa
