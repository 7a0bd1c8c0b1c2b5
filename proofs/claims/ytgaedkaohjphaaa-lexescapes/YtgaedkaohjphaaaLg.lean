/-
  Lex: blocks that are known whole; tokens; what read leaves.
-/
import Derived.Test.YtgaedkaohjphaaaLf
namespace Go.Proofs.Ytgaedkaohjphaaa
open Go.RowKit
set_option linter.unusedVariables false
set_option linter.unusedSimpArgs false
set_option maxRecDepth 20000

theorem heap_ltM {w : World} {g : Nat} {o : Obj} (h : w.heap[g]? = some o) : g < w.heap.size := by
  rcases Nat.lt_or_ge g w.heap.size with h1 | h1
  · exact h1
  · rw [Array.getElem?_eq_none h1] at h; cases h
def Blk (w : World) (g : Nat) (t : TypeId) (cs : Array Value) : Prop := w.heap[g]? = some (.cells cs t (0, 0))
section
variable {w w' : World} {g : Nat} {t : TypeId} {cs : Array Value}
theorem Blk.lt (h : Blk w g t cs) : g < w.heap.size := heap_ltM h
theorem Blk.cell (h : Blk w g t cs) (i : Nat) : w.cell? ⟨g, i, none⟩ = cs[i]? := cell_of_row w g i cs t (0, 0) h
theorem Blk.frozen (h : Blk w g t cs) (i : Nat) : w.frozen? ⟨g, i, none⟩ = false := by
  unfold Blk at h
  simp [World.frozen?, h]
theorem Blk.new (w : World) (t : TypeId) (cs : Array Value) : Blk (w.alloc (.cells cs t)) w.heap.size t cs := heap_alloc_new w _
theorem Blk.new' (w : World) (t : TypeId) (cs : Array Value) (g : Nat) (h : g = w.heap.size) : Blk (w.alloc (.cells cs t)) g t cs := by subst h; exact heap_alloc_new w _
theorem Blk.alloc (h : Blk w g t cs) (o : Obj) : Blk (w.alloc o) g t cs := (heap_alloc_old w o h.lt).trans h
theorem Blk.below {B : Nat} (h : Blk w g t cs) (hb : Below B w w') (hg : g < B) : Blk w' g t cs := (hb.block g hg).trans h
theorem Blk.old (h : Blk w g t cs) (hb : Below w.heap.size w w') : Blk w' g t cs := h.below hb h.lt
theorem Blk.drew (h : Blk w g t cs) : Blk w.drew g t cs := h
theorem Blk.set_ (h : Blk w g t cs) (i : Nat) (u : Value) : Blk (w.setCell ⟨g, i, none⟩ u) g t (cs.setIfInBounds i u) := by
  unfold Blk at h ⊢
  simp [World.setCell, Array.getElem?_modify, h]
theorem Blk.far (h : Blk w g t cs) {p : Addr} (hp : g ≠ p.block) (u : Value) : Blk (w.setCell p u) g t cs := (Below.heap_setCell w p u g hp).trans h
theorem Blk.grown {row : Option Nat} (h : Blk w g t cs) (hb : w.grownBy w' row) (hg : some g ≠ row) : Blk w' g t cs := (hb.block g h.lt hg).trans h
theorem Blk.c2 {a b : Value} (h : Blk w g t #[a, b]) : w.cell? ⟨g, 0, none⟩ = some a ∧ w.cell? ⟨g, 1, none⟩ = some b := ⟨h.cell 0, h.cell 1⟩
theorem Blk.c4 {a b c d : Value} (h : Blk w g t #[a, b, c, d]) : w.cell? ⟨g, 0, none⟩ = some a ∧ w.cell? ⟨g, 1, none⟩ = some b ∧ w.cell? ⟨g, 2, none⟩ = some c ∧ w.cell? ⟨g, 3, none⟩ = some d := ⟨h.cell 0, h.cell 1, h.cell 2, h.cell 3⟩
theorem Blk.c5 {a b c d e : Value} (h : Blk w g t #[a, b, c, d, e]) : w.cell? ⟨g, 0, none⟩ = some a ∧ w.cell? ⟨g, 1, none⟩ = some b ∧ w.cell? ⟨g, 2, none⟩ = some c ∧ w.cell? ⟨g, 3, none⟩ = some d ∧ w.cell? ⟨g, 4, none⟩ = some e := ⟨h.cell 0, h.cell 1, h.cell 2, h.cell 3, h.cell 4⟩
theorem Blk.c7 {a b c d e f i : Value} (h : Blk w g t #[a, b, c, d, e, f, i]) : w.cell? ⟨g, 0, none⟩ = some a ∧ w.cell? ⟨g, 1, none⟩ = some b ∧ w.cell? ⟨g, 2, none⟩ = some c ∧ w.cell? ⟨g, 3, none⟩ = some d ∧ w.cell? ⟨g, 4, none⟩ = some e ∧ w.cell? ⟨g, 5, none⟩ = some f ∧ w.cell? ⟨g, 6, none⟩ = some i := ⟨h.cell 0, h.cell 1, h.cell 2, h.cell 3, h.cell 4, h.cell 5, h.cell 6⟩
end

/-- A token. -/
structure Tok where
  kind : Nat
  mark : UInt8
  text : List UInt8
  at_ : Nat
def Tok.cells (t : Tok) : Array Value := #[.int .u8 (t.kind : Int), .int .u8 (t.mark.toNat : Int), .string (bs t.text), .int .i64 (t.at_ : Int)]
def tok0 : Tok := ⟨0, 0, [], 0⟩
def marks : List UInt8 := [37, 36, 64, 35]
def signs : List UInt8 := [59, 61, 38, 42, 40, 41, 44, 123, 125]
theorem mark_any (x : Int) (w : World) : Calls Try.prog 35 #[.string ⟨#[37, 36, 64, 35]⟩, .int .u8 x] w fun e w' => e = .returned (.int .i64 (Lib.indexByte marks x.toNat.toUInt8)) ∧ w = w' :=
  (Try.strings_IndexByte _ x w).mono fun e w' h => ⟨h.1, h.2.symm⟩
theorem sign_any (x : Int) (w : World) : Calls Try.prog 35 #[.string ⟨#[59, 61, 38, 42, 40, 41, 44, 123, 125]⟩, .int .u8 x] w fun e w' => e = .returned (.int .i64 (Lib.indexByte signs x.toNat.toUInt8)) ∧ w = w' :=
  (Try.strings_IndexByte _ x w).mono fun e w' h => ⟨h.1, h.2.symm⟩
/-- The token that begins at a place, and where it ends. -/
def readF (p : List UInt8) (a : Nat) : Tok × Nat × Bool :=
  if a = p.length then (⟨0, 0, [], a⟩, a, true)
  else if smallB (p.getD a 0) = true then (⟨1, 0, (p.drop a).take (cntW smallB (p.drop a)), a⟩, a + cntW smallB (p.drop a), true)
  else if 0 ≤ Lib.indexByte marks (p.getD a 0) then (⟨2, p.getD a 0, (rnF p (a + 1)).1, a⟩, (rnF p (a + 1)).2.1, (rnF p (a + 1)).2.2)
  else if 0 ≤ Lib.indexByte signs (p.getD a 0) then (⟨3, 0, [p.getD a 0], a⟩, a + 1, true)
  else (tok0, a, false)
theorem set4B {B q : Nat} {a w : World} (h : Below B a w) (hq : B ≤ q) (v0 v1 v2 v3 : Value) : Below B a ((((w.setCell ⟨q, 0, none⟩ v0).setCell ⟨q, 1, none⟩ v1).setCell ⟨q, 2, none⟩ v2).setCell ⟨q, 3, none⟩ v3) :=
  (((h.setCell (p := ⟨q, 0, none⟩) hq _).setCell (p := ⟨q, 1, none⟩) hq _).setCell (p := ⟨q, 2, none⟩) hq _).setCell (p := ⟨q, 3, none⟩) hq _
theorem Blk.set4 {w : World} {g t : Nat} {a b c d : Value} (h : Blk w g t #[a, b, c, d]) (v0 v1 v2 v3 : Value) : Blk ((((w.setCell ⟨g, 0, none⟩ v0).setCell ⟨g, 1, none⟩ v1).setCell ⟨g, 2, none⟩ v2).setCell ⟨g, 3, none⟩ v3) g t #[v0, v1, v2, v3] := (((h.set_ 0 v0).set_ 1 v1).set_ 2 v2).set_ 3 v3
/-- What a call that answers a token, a number and a truth leaves. -/
def ReB (w : World) (v : Tok × Nat × Bool) (e : Ending) (w' : World) : Prop := e = .returned (.tuple #[.agg v.1.cells, .int .i64 (v.2.1 : Int), .bool v.2.2]) ∧ Below w.heap.size w w'
set_option maxHeartbeats 8000000 in
theorem read_any (A : Option Addr) (n c a : Nat) (p : List UInt8) (w : World) (h : Src w A n p) (hc : n ≤ c) (hn : n ≤ 1000000000) (ha : a ≤ n) :
    Calls Try.prog 24 #[.slice A n c, .int .i64 (a : Int)] w (ReB w (readF p a)) := by
  obtain ⟨v, hv⟩ : ∃ v, v = readF p a := ⟨_, rfl⟩
  rw [← hv]
  unfold readF at hv
  have hl : p.length = n := h.1
  rw [hl] at hv
  have HL := Lib.hid hl
  obtain ⟨w1, hw1⟩ : ∃ w1, w1 = w.alloc (.cells #[.int .u8 0, .int .u8 0, .string ⟨#[]⟩, .int .i64 0] 30) := ⟨_, rfl⟩
  have HB1 : Hid (Below w.heap.size w w1) := by rw [hw1]; exact (Below.refl _ _).alloc (Nat.le_refl _) _
  have K1 : Hid (Blk w1 w.heap.size 30 #[.int .u8 0, .int .u8 0, .string ⟨#[]⟩, .int .i64 0]) := by rw [hw1]; exact Blk.new w 30 _
  have H := Lib.hid (h.old HB1.out)
  have HFin : Hid (∀ (wx : World) (v0 v1 v2 v3 : Value), Below w1.heap.size w1 wx → ∀ wy, wy = ((((wx.setCell ⟨w.heap.size, 0, none⟩ v0).setCell ⟨w.heap.size, 1, none⟩ v1).setCell ⟨w.heap.size, 2, none⟩ v2).setCell ⟨w.heap.size, 3, none⟩ v3) → Below w.heap.size w wy ∧ Blk wy w.heap.size 30 #[v0, v1, v2, v3]) := fun wx v0 v1 v2 v3 hx wy hy => by
    subst hy
    have hk := K1.out.old hx
    exact ⟨set4B (HB1.out.trans (hx.mono HB1.out.size)) (Nat.le_refl _) _ _ _ _, hk.set4 _ _ _ _⟩
  clear hl h
  have HV := Lib.hid hv
  clear hv
  go_enter Try.func24, Try.ntmps24
  go_upto_region 1 with (fail)
  rw [← hw1]
  clear hw1
  by_cases hae : a = n
  · have hvv := HV.out
    rw [if_pos hae] at hvv
    subst hvv
    subst hae
    have hai : ((a : Int) == (a : Int)) = true := by simp
    clear HV
    obtain ⟨k0, k1, k2, k3⟩ := K1.out.c4
    have f0 := K1.out.frozen 0
    have f1 := K1.out.frozen 1
    have f2 := K1.out.frozen 2
    have f3 := K1.out.frozen 3
    have z1 : w.heap.size < w1.heap.size := K1.out.lt
    go_wp2
    obtain ⟨hbf, hKf⟩ := HFin.out w1 (.int .u8 0) (.int .u8 0) (.string ⟨#[]⟩) (.int .i64 (a : Int)) (Below.refl _ _) _ rfl
    obtain ⟨q0, q1, q2, q3⟩ := Blk.c4 hKf
    refine bodyPost_ret (v := .tuple #[.agg #[.int .u8 0, .int .u8 0, .string ⟨#[]⟩, .int .i64 (a : Int)], .int .i64 (a : Int), .bool true]) (by simp [results, Try.results24, go_sem, q0, q1, q2, q3]) rfl ?_
    exact ⟨rfl, hbf⟩
  have hvv := HV.out
  rw [if_neg hae] at hvv
  have hlt : a < n := by omega
  have h1 : (a : Int) < (n : Int) := by omega
  have hai : ((a : Int) == (n : Int)) = false := by simp; omega
  have hne : ¬ c = a := by omega
  have hac : a ≤ c := by omega
  obtain ⟨b, o, rfl, hcc⟩ := H.out.2 (by omega)
  have hap : a < p.length := by rw [HL.out]; exact hlt
  have e0 := hcc a hap
  have hgd : p.getD a 0 = p[a] := by rw [List.getD_eq_getElem?_getD, List.getElem?_eq_getElem hap]; rfl
  rw [hgd] at hvv
  have hS := small_any (p[a].toNat : Int) w1
  rw [show smallF (p[a].toNat : Int) = smallB p[a] from rfl] at hS
  have hM := fun wx => mark_any (p[a].toNat : Int) wx
  have hG := fun wx => sign_any (p[a].toNat : Int) wx
  rw [show ((p[a].toNat : Int).toNat.toUInt8) = p[a] from by simp] at hM hG
  have h1t : (p.drop a).take 1 = [p[a]] := by rw [List.drop_eq_getElem_cons hap]; rfl
  have HV := Lib.hid hvv
  generalize p[a] = x at *
  clear hcc hvv hgd hae
  have HM := Lib.hid hM
  have HG := Lib.hid hG
  have H1T := Lib.hid h1t
  clear hM hG h1t
  go_upto_block 0 with (fail)
  go_wp2_with fail
  refine hS.mono ?_
  rintro e w2 ⟨rfl, rfl⟩
  clear hS
  by_cases hsm : smallB x = true
  · have hvv := HV.out
    rw [if_pos hsm] at hvv
    rw [hsm]
    have hbl := cntW_le smallB (p.drop a)
    rw [List.length_drop, HL.out] at hbl
    have hB := word_any (some ⟨b, o + a, none⟩) (n - a) (c - a) (p.drop a) w1 (H.out.drop a) (by omega)
    have hcv : (convert 22 9 (.slice (some ⟨b, o + a, none⟩) (cntW smallB (p.drop a)) (c - a))).run Try.prog w1 = .ok (.string (bs ((p.drop a).take (cntW smallB (p.drop a))))) w1 := conv_back w1 b (o + a) _ _ _ (Src.take (H.out.drop a) _ (by omega))
    generalize (p.drop a).take (cntW smallB (p.drop a)) = t at *
    generalize cntW smallB (p.drop a) = k at *
    have HVV := Lib.hid hvv
    have HCV := Lib.hid hcv
    clear hvv hcv HV hsm
    go_wp2_with fail
    refine hB.mono ?_
    rintro e w2 ⟨rfl, rfl⟩
    have hcv := HCV.out
    have hak : a + k ≤ c := by omega
    have hsub : a + k - a = k := by omega
    clear hB HCV
    obtain ⟨k0, k1, k2, k3⟩ := K1.out.c4
    have f0 := K1.out.frozen 0
    have f1 := K1.out.frozen 1
    have f2 := K1.out.frozen 2
    have f3 := K1.out.frozen 3
    have z1 : w.heap.size < w1.heap.size := K1.out.lt
    go_wp2
    rw [HVV.out]
    obtain ⟨hbf, hKf⟩ := HFin.out w1 (.int .u8 1) (.int .u8 0) (.string (bs t)) (.int .i64 (a : Int)) (Below.refl _ _) _ rfl
    obtain ⟨q0, q1, q2, q3⟩ := Blk.c4 hKf
    refine bodyPost_ret (v := .tuple #[.agg #[.int .u8 1, .int .u8 0, .string (bs t), .int .i64 (a : Int)], .int .i64 ((a : Int) + (k : Int)), .bool true]) (by simp [results, Try.results24, go_sem, q0, q1, q2, q3]) rfl ?_
    exact ⟨rfl, hbf⟩
  have hvv := HV.out
  rw [if_neg hsm] at hvv
  rw [show smallB x = false from (Bool.not_eq_true _).mp hsm]
  have HV := Lib.hid hvv
  clear hvv hsm
  go_wp2_with fail
  refine (HM.out w1).mono ?_
  rintro e w2 ⟨rfl, rfl⟩
  have hr1 := Lib.indexByte_ge marks x
  clear HM
  generalize Lib.indexByte marks x = k1 at *
  by_cases hk1 : 0 ≤ k1
  · have hvv := HV.out
    rw [if_pos hk1] at hvv
    have hR := rn_any b o n c (a + 1) p w1 H.out hc hn (by omega)
    rw [show ((a + 1 : Nat) : Int) = (a : Int) + 1 from by push_cast; rfl] at hR
    generalize rnF p (a + 1) = r at *
    obtain ⟨r1, r2, r3⟩ := r
    dsimp only at hvv hR
    have HVV := Lib.hid hvv
    clear hvv HV
    go_wp2_with fail
    refine hR.mono ?_
    rintro e w3 ⟨rfl, hb3⟩
    have K3 := Lib.hid (K1.out.old hb3)
    have HB3 := Lib.hid hb3
    clear hR hb3
    dsimp only
    obtain ⟨k0, k1, k2, k3⟩ := K3.out.c4
    have f0 := K3.out.frozen 0
    have f1 := K3.out.frozen 1
    have f2 := K3.out.frozen 2
    have f3 := K3.out.frozen 3
    have z1 : w.heap.size < w3.heap.size := K3.out.lt
    go_wp2
    rw [HVV.out]
    obtain ⟨hbf, hKf⟩ := HFin.out w3 (.int .u8 2) (.int .u8 (x.toNat : Int)) (.string (bs r1)) (.int .i64 (a : Int)) HB3.out _ rfl
    obtain ⟨q0, q1, q2, q3⟩ := Blk.c4 hKf
    refine bodyPost_ret (v := .tuple #[.agg #[.int .u8 2, .int .u8 (x.toNat : Int), .string (bs r1), .int .i64 (a : Int)], .int .i64 (r2 : Int), .bool r3]) (by simp [results, Try.results24, go_sem, q0, q1, q2, q3]) rfl ?_
    exact ⟨rfl, hbf⟩
  have hvv := HV.out
  rw [if_neg hk1] at hvv
  have HV := Lib.hid hvv
  clear hvv
  go_wp2_with fail
  refine (HG.out w1).mono ?_
  rintro e w2 ⟨rfl, rfl⟩
  have hr2 := Lib.indexByte_ge signs x
  clear HG
  generalize Lib.indexByte signs x = k2 at *
  by_cases hk2 : 0 ≤ k2
  · have hvv := HV.out
    rw [if_pos hk2] at hvv
    have hcv : (convert 22 9 (.slice (some ⟨b, o + a, none⟩) 1 (c - a))).run Try.prog w1 = .ok (.string (bs ((p.drop a).take 1))) w1 := conv_back w1 b (o + a) _ _ _ (Src.take (H.out.drop a) _ (by omega))
    rw [H1T.out] at hcv
    have hak : a + 1 ≤ c := by omega
    have hsub : a + 1 - a = 1 := by omega
    have HVV := Lib.hid hvv
    clear hvv HV
    obtain ⟨k0, k1, k2, k3⟩ := K1.out.c4
    have f0 := K1.out.frozen 0
    have f1 := K1.out.frozen 1
    have f2 := K1.out.frozen 2
    have f3 := K1.out.frozen 3
    have z1 : w.heap.size < w1.heap.size := K1.out.lt
    go_wp2
    rw [HVV.out]
    obtain ⟨hbf, hKf⟩ := HFin.out w1 (.int .u8 3) (.int .u8 0) (.string (bs [x])) (.int .i64 (a : Int)) (Below.refl _ _) _ rfl
    obtain ⟨q0, q1, q2, q3⟩ := Blk.c4 hKf
    refine bodyPost_ret (v := .tuple #[.agg #[.int .u8 3, .int .u8 0, .string (bs [x]), .int .i64 (a : Int)], .int .i64 ((a : Int) + 1), .bool true]) (by simp [results, Try.results24, go_sem, q0, q1, q2, q3]) rfl ?_
    exact ⟨rfl, hbf⟩
  have hvv := HV.out
  rw [if_neg hk2] at hvv
  subst hvv
  clear HV
  obtain ⟨k0, k1, k2, k3⟩ := K1.out.c4
  have f0 := K1.out.frozen 0
  have f1 := K1.out.frozen 1
  have f2 := K1.out.frozen 2
  have f3 := K1.out.frozen 3
  have z1 : w.heap.size < w1.heap.size := K1.out.lt
  go_wp2
  obtain ⟨hbf, hKf⟩ := HFin.out w1 (.int .u8 0) (.int .u8 0) (.string ⟨#[]⟩) (.int .i64 0) (Below.refl _ _) _ rfl
  obtain ⟨q0, q1, q2, q3⟩ := Blk.c4 hKf
  refine bodyPost_ret (v := .tuple #[.agg #[.int .u8 0, .int .u8 0, .string ⟨#[]⟩, .int .i64 0], .int .i64 (a : Int), .bool false]) (by simp [results, Try.results24, go_sem, q0, q1, q2, q3]) rfl ?_
  exact ⟨rfl, hbf⟩
end Go.Proofs.Ytgaedkaohjphaaa
