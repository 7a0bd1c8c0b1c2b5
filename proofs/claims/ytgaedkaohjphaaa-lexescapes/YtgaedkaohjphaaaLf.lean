/-
  Lex: names in quotes, and names.
-/
import Derived.Test.YtgaedkaohjphaaaLe
import Derived.OwnWalk
import Derived.Maps.AppendAt
import Derived.Room.AppendZeros
namespace Go.Proofs.Ytgaedkaohjphaaa
open Go.RowKit
set_option linter.unusedVariables false
set_option linter.unusedSimpArgs false
set_option maxRecDepth 20000

theorem qbF_le (p : List UInt8) (hp : 0 < p.length) : (qbF p).2 ≤ p.length := by
  unfold qbF
  split
  · simp only; omega
  · split
    · rename_i h
      simp only
      rcases h with h | h <;>
      · have h1 := (List.isPrefixOf_iff_prefix.1 h).length_le
        simp only [List.length_cons, List.length_nil] at h1
        omega
    · split
      · rename_i h
        split
        · simp only; omega
        · simp
      · simp
/-- The name in quotes from a place on, behind what has been read of it. -/
def rqF (p : List UInt8) : Nat → Nat → List UInt8 → List UInt8 × Nat × Bool
  | 0, a, _ => ([], a, false)
  | f + 1, a, acc => if a < p.length ∧ p.getD a 0 ≠ 34 then (if (qbF (p.drop a)).2 = 0 then ([], a, false) else rqF p f (a + (qbF (p.drop a)).2) (acc ++ [(qbF (p.drop a)).1])) else if a = p.length then ([], a, false) else (acc, a + 1, true)
def bytesV (l : List UInt8) : List Value := l.map fun b => .int .u8 (b.toNat : Int)
theorem info5 : (Try.prog.info? 5).map (fun i => (i.zero, i.size, i.bytes)) = some (some (.int .u8 0), 1, 1) := by kernel_rfl
/-- A byte more. -/
theorem pushB (base : Nat) (v : Value) (m : Nat) (l : List UInt8) (x : UInt8) (w : World) (hm : m = l.length) (h : w.ownsRow base 5 1 v m (bytesV l)) (hl : m ≤ 1000000000) (hb : base ≤ w.heap.size) :
    ∃ A c w', (Builtin.append_ #[22, 22] 22 #[v, .slice (some ⟨w.heap.size, 0, none⟩) 1 1]).run Try.prog (w.alloc (.cells #[.int .u8 (x.toNat : Int)] 5)) = .ok (.slice A (m + 1) c) w' ∧ w'.ownsRow base 5 1 (.slice A (m + 1) c) (m + 1) (bytesV (l ++ [x])) ∧ Below base w w' := by
  subst hm
  obtain ⟨i0, hi0, hz0, hz1, hz2⟩ := info_parts info5
  have hc : ∀ j u, ([.int .u8 (x.toNat : Int)] : List Value)[j]? = some u → (w.alloc (.cells #[.int .u8 (x.toNat : Int)] 5)).cell? ((⟨w.heap.size, 0, none⟩ : Addr).add j) = some u := by
    intro j u hj
    rw [Go.WideShapes.add_plain, cell_of_row _ w.heap.size _ _ 5 (0, 0) (heap_alloc_new w _), Nat.zero_add]
    simpa using hj
  obtain ⟨v5, w5, hr5, hO5, hg5, _, hat⟩ := run_append_own_at (P := Try.prog) (w.alloc (.cells #[.int .u8 (x.toNat : Int)] 5)) base 22 22 5 i0 (.int .u8 0) 1 1 Try.underlying22 hi0 hz0 hz1 hz2 rfl (by decide) v l.length _ (h.alloc _) ⟨w.heap.size, 0, none⟩ 1 1 [.int .u8 (x.toNat : Int)] rfl hc (by intro u hu; simp at hu; subst hu; rfl) (by unfold maxLen; omega) (by omega) (by simp; omega)
  obtain ⟨q5, c5, rfl⟩ : ∃ q5 c5, v5 = .slice (some ⟨q5, 0, none⟩) (l.length + 1) c5 := by
    rcases hO5.2 with ⟨_, h1⟩ | ⟨k, cap, cur, hv, _⟩
    · omega
    · exact ⟨k, cap, hv⟩
  refine ⟨_, c5, w5, hr5, ?_, ?_⟩
  · rw [show bytesV (l ++ [x]) = bytesV l ++ [.int .u8 (x.toNat : Int)] from by simp [bytesV]]; exact hO5
  · exact ((Below.refl base w).alloc hb _).grown hg5 (by simp; omega) (fun k hk => (h.lt k hk).1)
theorem own_old {w w' : World} {base e size n : Nat} {v : Value} {xs : List Value} (h : w.ownsRow base e size v n xs) (hb : Below w.heap.size w w') : w'.ownsRow base e size v n xs := by
  refine ⟨h.1, ?_⟩
  rcases h.2 with h1 | ⟨k, cap, cur, hv, h2, hk, rest⟩
  · exact .inl h1
  · exact .inr ⟨k, cap, cur, hv, h2, (hb.block k (Array.getElem?_eq_some_iff.1 hk).1).trans hk, rest⟩
/-- A row of the call's own as a string. -/
theorem own_str {w : World} {base n : Nat} {v : Value} {l : List UInt8} (h : w.ownsRow base 5 1 v n (bytesV l)) : (convert 22 9 v).run Try.prog w = .ok (.string (bs l)) w := by
  rcases h.2 with ⟨rfl, h0⟩ | ⟨q, cap, cur, rfl, h2, hk, h3, h4, h5, h6⟩
  · have hl : l = [] := List.eq_nil_of_length_eq_zero (by have := h.1; simp [bytesV] at this; omega)
    subst hl
    rw [run_convert_bytes_nil (P := Try.prog) w 22 5 Try.underlying22 Try.underlying5 0 0 9 Try.underlying9]
    rfl
  · have hl : l.length = n := by have := h.1; simpa [bytesV] using this
    refine conv_back w q 0 n cap l ⟨hl, fun hp => ⟨q, 0, rfl, fun i hi => ?_⟩⟩
    have := h.cells (g := q) rfl i (.int .u8 (l[i].toNat : Int)) (by simp [bytesV, hi])
    rwa [Go.WideShapes.add_plain] at this
set_option maxHeartbeats 4000000 in
theorem rq_any (A : Option Addr) (n c a F : Nat) (p : List UInt8) (w : World) (h : Src w A n p) (hc : n ≤ c) (hn : n ≤ 1000000000) (ha : a ≤ n) (hF : n - a < F) :
    Calls Try.prog 49 #[.slice A n c, .int .i64 (a : Int)] w fun e w' => e = .returned (.tuple #[.string (bs (rqF p F a []).1), .int .i64 ((rqF p F a []).2.1 : Nat), .bool (rqF p F a []).2.2]) ∧ Below w.heap.size w w' := by
  obtain ⟨v, hv⟩ : ∃ v, v = rqF p F a [] := ⟨_, rfl⟩
  rw [← hv]
  have HV0 : Hid (v = rqF p F a []) := hv
  have H := Lib.hid h
  have hl : p.length = n := h.1
  have HL := Lib.hid hl
  clear hv h hl
  go_enter Try.func49, Try.ntmps49
  go_wp2_with fail
  go_loopw [1, 7] (fun s1 s7 wr => ∃ (a f m : Nat) (acc : List UInt8) (A7 : Option Addr) (c7 : Nat), s7 = .slice A7 m c7 ∧ a ≤ n ∧ m ≤ a ∧ n - a < f ∧ s1 = .int .i64 (a : Int) ∧ Hid (m = acc.length) ∧ Hid (wr.ownsRow w.heap.size 5 1 (.slice A7 m c7) m (bytesV acc)) ∧ Hid (Below w.heap.size w wr) ∧ Hid (v = rqF p f a acc)) (fun s1 _ _ => n - (intOf s1).toNat)
  case atStart => exact ⟨a, F, 0, [], none, 0, rfl, ha, Nat.zero_le _, hF, rfl, rfl, World.ownsRow_nil _ _ _ _, Below.refl _ _, HV0⟩
  case round =>
    clear HV0 ha hF
    obtain ⟨a, f, m, acc, A7, c7, rfl, ha, hma, hf, rfl, hm, hO, hB, hE⟩ := hrel
    obtain ⟨f, rfl⟩ : ∃ g, f = g + 1 := ⟨f - 1, by omega⟩
    have hE2 := hE.out
    rw [rqF, HL.out] at hE2
    by_cases hlt : a < n
    · have h1 : (a : Int) < (n : Int) := by omega
      have hne : ¬ c = a := by omega
      have hac : a ≤ c := by omega
      obtain ⟨b, o, rfl, hcc⟩ := H.out.2 (by omega)
      have hap : a < p.length := by rw [HL.out]; exact hlt
      have e0 := cell_old hB.out (World.block_lt_of_cell? w _ (hcc a hap)) (hcc a hap)
      have hgd : p.getD a 0 = p[a] := by rw [List.getD_eq_getElem?_getD, List.getElem?_eq_getElem hap]; rfl
      rw [hgd] at hE2
      by_cases h34 : p[a] = 34
      · have hxb : ((p[a].toNat : Int) == 34) = true := by rw [h34]; rfl
        have hxn : ((p[a].toNat : Int) != 34) = false := by simp only [bne, hxb]; rfl
        rw [if_neg (fun h => h.2 h34), if_neg (by omega)] at hE2
        subst hE2
        have hr := own_str hO.out
        have hab : ((a : Int) == (n : Int)) = false := by simp; omega
        generalize (p[a].toNat : Int) = x at *
        clear hE hcc hO h34
        go_wp2
        go_ret3
        exact ⟨rfl, hB.out⟩
      · have hxb : ((p[a].toNat : Int) == 34) = false := by
          have : p[a].toNat ≠ 34 := fun h => h34 (UInt8.toNat_inj.1 h)
          simp; omega
        have hxn : ((p[a].toNat : Int) != 34) = true := by simp only [bne, hxb]; rfl
        rw [if_pos ⟨hlt, h34⟩] at hE2
        have hql := qbF_le (p.drop a) (by rw [List.length_drop, HL.out]; omega)
        rw [List.length_drop, HL.out] at hql
        have hS := qb_any b (o + a) (n - a) (c - a) (p.drop a) wr ((H.out.old hB.out).drop a) (by omega) (by omega) (by omega)
        generalize qbF (p.drop a) = qv at *
        obtain ⟨q1, q2⟩ := qv
        have HE2 := Lib.hid hE2
        generalize (p[a].toNat : Int) = x at *
        clear hE hE2 hcc h34 hgd
        dsimp only at *
        go_wp2_with fail
        refine hS.mono ?_
        rintro e w2 ⟨rfl, hb2⟩
        have HB2 := Lib.hid (hB.out.trans (hb2.mono hB.out.size))
        have hO2 : w2.ownsRow w.heap.size 5 1 (.slice A7 m c7) m (bytesV acc) := by
          exact own_old hO.out hb2
        clear hS hb2
        by_cases hz : q2 = 0
        · have := HE2.out
          rw [if_pos hz] at this
          subst this
          subst hz
          clear HE2 hO2 hO
          go_wp2
          go_ret3
          exact ⟨rfl, HB2.out⟩
        · have hE3 := HE2.out
          rw [if_neg hz] at hE3
          have hzi : ((q2 : Int) == 0) = false := by simp; omega
          have HE3 := Lib.hid hE3
          have hml := hm.out
          obtain ⟨A5, c5, w5, hr5, hO5, hb5⟩ := pushB w.heap.size (.slice A7 m c7) m acc q1 w2 hml hO2 (by omega) HB2.out.size
          have HO5 := Lib.hid hO5
          have HB5 := Lib.hid (HB2.out.trans hb5)
          have HM5 : Hid (m + 1 = (acc ++ [q1]).length) := by show _ = _; rw [hml]; simp
          have hq1 : 1 ≤ q2 := by omega
          clear HE2 hE3 hO2 hO hO5 hb5 hz hml hm
          go_wp2_with (at_builtin; refine Lib.wpList_append_run _ rfl _ _ 22 22 rfl _ _ rfl rfl _ _ hr5 ?_)
          go_roundw
          case rel => exact ⟨a + q2, f, m + 1, acc ++ [q1], A5, c5, rfl, by omega, by omega, by omega, by go_num, HM5, HO5, HB5, HE3⟩
          case measure => simp [intOf]; omega
    · obtain rfl : a = n := by omega
      rw [if_neg (fun h => hlt h.1), if_pos rfl] at hE2
      subst hE2
      clear hE hO hm
      go_wp2
      go_ret3
      exact ⟨rfl, hB.out⟩

/-- The name at a place. -/
def rnF (p : List UInt8) (a : Nat) : List UInt8 × Nat × Bool :=
  if a < p.length ∧ p.getD a 0 = 34 then rqF p (p.length + 1) (a + 1) [] else ((p.drop a).take (bareF (p.drop a)), a + bareF (p.drop a), decide (0 < bareF (p.drop a)))
set_option maxHeartbeats 4000000 in
theorem rn_any (b o n c a : Nat) (p : List UInt8) (w : World) (h : Src w (some ⟨b, o, none⟩) n p) (hc : n ≤ c) (hn : n ≤ 1000000000) (ha : a ≤ n) :
    Calls Try.prog 36 #[.slice (some ⟨b, o, none⟩) n c, .int .i64 (a : Int)] w fun e w' => e = .returned (.tuple #[.string (bs (rnF p a).1), .int .i64 ((rnF p a).2.1 : Nat), .bool (rnF p a).2.2]) ∧ Below w.heap.size w w' := by
  obtain ⟨v, hv⟩ : ∃ v, v = rnF p a := ⟨_, rfl⟩
  rw [← hv]
  unfold rnF at hv
  have H := Lib.hid h
  have hl : p.length = n := h.1
  have HL := Lib.hid hl
  clear h
  go_enter Try.func36, Try.ntmps36
  by_cases hlt : a < n
  · have h1 : (a : Int) < (n : Int) := by omega
    have hne : ¬ c = a := by omega
    have hac : a ≤ c := by omega
    obtain ⟨b', o', hA, hcc⟩ := H.out.2 (by omega)
    injection hA with hA
    injection hA with g1 g2
    subst g1; subst g2
    have hap : a < p.length := by omega
    have e0 := hcc a hap
    have hgd : p.getD a 0 = p[a] := by rw [List.getD_eq_getElem?_getD, List.getElem?_eq_getElem hap]; rfl
    rw [hgd] at hv
    by_cases h34 : p[a] = 34
    · have hxb : ((p[a].toNat : Int) == 34) = true := by rw [h34]; rfl
      rw [if_pos ⟨hap, h34⟩] at hv
      have hQ := rq_any (some ⟨b, o, none⟩) n c (a + 1) (p.length + 1) p w H.out hc hn (by omega) (by omega)
      rw [← hv] at hQ
      rw [show (((a + 1 : Nat)) : Int) = (a : Int) + 1 from by push_cast; rfl] at hQ
      generalize (p[a].toNat : Int) = x at *
      clear hv hcc h34 hgd
      go_wp2_with fail
      refine hQ.mono ?_
      rintro e w2 ⟨rfl, hb2⟩
      go_wp2
      go_ret3
      exact ⟨rfl, hb2⟩
    · have hxb : ((p[a].toNat : Int) == 34) = false := by
        have : p[a].toNat ≠ 34 := fun h => h34 (UInt8.toNat_inj.1 h)
        simp; omega
      have hneg : ¬ (a < p.length ∧ p[a] = 34) := fun h => h34 h.2
      generalize (p[a].toNat : Int) = x at *
      clear hcc
      have HE : Hid (v = ((p.drop a).take (bareF (p.drop a)), a + bareF (p.drop a), decide (0 < bareF (p.drop a)))) := by
        show _ = _
        rw [hv, if_neg hneg]
      have hbl := bareF_le (p.drop a)
      rw [List.length_drop, HL.out] at hbl
      have hB := bare_any (some ⟨b, o + a, none⟩) (n - a) (c - a) (p.drop a) w (H.out.drop a) (by omega)
      have hcv : (convert 22 9 (.slice (some ⟨b, o + a, none⟩) (bareF (p.drop a)) (c - a))).run Try.prog w = .ok (.string (bs ((p.drop a).take (bareF (p.drop a))))) w := conv_back w b (o + a) _ _ _ (Src.take (H.out.drop a) _ (by omega))
      generalize (p.drop a).take (bareF (p.drop a)) = t at *
      generalize bareF (p.drop a) = k at *
      have HCV := Lib.hid hcv
      clear hv hcv
      go_wp2_with fail
      refine hB.mono ?_
      rintro e w2 ⟨rfl, rfl⟩
      have hcv := HCV.out
      have hak : a + k ≤ c := by omega
      have hsub : a + k - a = k := by omega
      clear hB HCV
      go_wp2
      have hd : decide ((a : Int) < (a : Int) + (k : Int)) = decide (0 < k) := decide_eq_decide.2 (by omega)
      rw [hd, HE.out]
      go_ret3
      exact ⟨rfl, Below.refl _ _⟩

  · obtain rfl : a = n := by omega
    have hneg : ¬ (a < p.length ∧ p.getD a 0 = 34) := fun h => by have := h.1; omega
    have HE : Hid (v = ([], a, false)) := by
      show _ = _
      rw [hv, if_neg hneg, List.drop_of_length_le (by omega)]
      rfl
    have hai : ¬ (a : Int) < (a : Int) := by omega
    clear hv
    by_cases hca : c = a
    · subst hca
      have hB := bare_any (some ⟨b, o, none⟩) 0 0 [] w (Src.none_ _ _) (by omega)
      have hcv : (convert 22 9 (.slice (some ⟨b, o, none⟩) 0 0)).run Try.prog w = .ok (.string (bs [])) w := conv_back w b o 0 0 [] (Src.none_ _ _)
      rw [show bareF [] = 0 from rfl] at hB
      have HCV := Lib.hid hcv
      clear hcv
      go_wp2_with fail
      refine hB.mono ?_
      rintro e w2 ⟨rfl, rfl⟩
      have hcv := HCV.out
      clear hB HCV
      go_wp2
      rw [HE.out]
      go_ret3
      exact ⟨rfl, Below.refl _ _⟩
    · have hB := bare_any (some ⟨b, o + a, none⟩) 0 (c - a) [] w (Src.none_ _ _) (by omega)
      have hcv : (convert 22 9 (.slice (some ⟨b, o + a, none⟩) 0 (c - a))).run Try.prog w = .ok (.string (bs [])) w := conv_back w b (o + a) 0 _ [] (Src.none_ _ _)
      rw [show bareF [] = 0 from rfl] at hB
      have HCV := Lib.hid hcv
      clear hcv
      go_wp2_with fail
      refine hB.mono ?_
      rintro e w2 ⟨rfl, rfl⟩
      have hcv := HCV.out
      clear hB HCV
      go_wp2
      rw [HE.out]
      go_ret3
      exact ⟨rfl, Below.refl _ _⟩
end Go.Proofs.Ytgaedkaohjphaaa
