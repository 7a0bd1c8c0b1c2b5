/-
  The walk of LexRows.
-/
import Derived.Test.YtgaedkaohjphaaaOf
import Derived.Test.YtgaedkaohjphaaaOh
import Derived.Test.YtgaedkaohjphaaaNb2
import Derived.Test.YtgaedkaohjphaaaNw
import Derived.Test.YtgaedkaohjphaaaMw
import Derived.Deep.QuietTactic
import Derived.BigQuiet
import Derived.Deep.LoopGhost
namespace Go.Proofs.Ytgaedkaohjphaaa
open Go.RowKit
set_option linter.unusedVariables false
set_option linter.unusedSimpArgs false
set_option maxRecDepth 20000
/-- A string as a slice, with its room. -/
theorem conv_str2 (w : World) (s : List UInt8) : ∃ c w', (convert 9 22 (.string (bs s))).run Try.prog w = .ok (.slice (some ⟨w.heap.size, 0, none⟩) s.length c) w' ∧ Src w' (some ⟨w.heap.size, 0, none⟩) s.length s ∧ Below w.heap.size w w' ∧ s.length ≤ c := by
  have hz : (bs s).size = s.length := by simp [bs, ByteArray.size]
  obtain ⟨c, w', h1, h2, h3, _⟩ := conv_str w s
  have h := Lib.run_convert_string_bytes (P := Try.prog) w 9 22 5 (bs s) Try.underlying9 Try.underlying22 Try.underlying5
  rw [h1] at h
  injection h with h4 h5
  injection h4 with h6 h7 h8
  refine ⟨c, w', h1, h2, h3, ?_⟩
  rw [h8, hz]
  exact grownCap_ge _ _ _ _
/-- A slice of strings that reads as these. -/
def StrsL (w : World) (A : Option Addr) (l : List (List UInt8)) : Prop := 0 < l.length → ∃ b o, A = some ⟨b, o, none⟩ ∧ ∀ i (h : i < l.length), w.cell? ⟨b, o + i, none⟩ = some (.string (bs l[i]))
theorem StrsL.old {w w' : World} {A : Option Addr} {l : List (List UInt8)} (h : StrsL w A l) (hb : Below w.heap.size w w') : StrsL w' A l := fun hp => by
  obtain ⟨b, o, rfl, hc⟩ := h hp
  exact ⟨b, o, rfl, fun i hi => cell_old hb (World.block_lt_of_cell? w _ (hc i hi)) (hc i hi)⟩
def sgnAt (sg : List UInt8) (i : Nat) : List UInt8 := if i < sg.length then [signs.getD ((sg.getD i 0).toNat % 9) 0] else []
def itAt (l : List (List UInt8)) (sg : List UInt8) (i : Nat) : List UInt8 × List UInt8 := (l.getD i [], sgnAt sg i)
def itX (l : List (List UInt8)) (sg : List UInt8) : List (List UInt8 × List UInt8) := (List.range l.length).map (itAt l sg)
theorem itX_len (l : List (List UInt8)) (sg : List UInt8) : (itX l sg).length = l.length := by simp [itX]
theorem itX_get (l : List (List UInt8)) (sg : List UInt8) (i : Nat) (h : i < (itX l sg).length) : (itX l sg)[i] = itAt l sg i := by simp [itX]
theorem sgn_mem : ∀ k, k < 9 → signs.getD k 0 ∈ signs := by decide
theorem okI_at (l : List (List UInt8)) (sg : List UInt8) (i : Nat) : okI (itAt l sg i) := by
  unfold okI itAt sgnAt
  by_cases h : i < sg.length
  · right; simp only [if_pos h]; exact ⟨_, sgn_mem _ (Nat.mod_lt _ (by omega)), rfl⟩
  · left; simp only [if_neg h]
theorem okI_all (l : List (List UInt8)) (sg : List UInt8) : ∀ x ∈ itX l sg, okI x := fun x hx => by
  simp only [itX, List.mem_map] at hx
  obtain ⟨i, _, rfl⟩ := hx
  exact okI_at l sg i
theorem take_snoc (X : List (List UInt8 × List UInt8)) (k : Nat) (h : k < X.length) : (X.take (k + 1)).flatMap itF = (X.take k).flatMap itF ++ itF X[k] := by
  rw [List.take_succ_eq_append_getElem h, List.flatMap_append]
  simp
theorem take_mid (X : List (List UInt8 × List UInt8)) (k : Nat) (h : k < X.length) : X.flatMap itF = (X.take k).flatMap itF ++ (itF X[k] ++ (X.drop (k + 1)).flatMap itF) := by
  rw [← List.append_assoc, ← take_snoc X k h, ← List.flatMap_append, List.take_append_drop]
theorem sgn_ext : ∀ k : Nat, k < 9 → (⟨#[59, 61, 38, 42, 40, 41, 44, 123, 125]⟩ : ByteArray).extract ((k : Int).toNat) (((k : Int) + 1).toNat) = bs [signs.getD k 0] := fun k hk => by
  rw [show (⟨#[59, 61, 38, 42, 40, 41, 44, 123, 125]⟩ : ByteArray) = bs signs from rfl, one_ext signs k hk]
  rw [List.getD_eq_getElem?_getD, List.getElem?_eq_getElem hk]; rfl
set_option maxHeartbeats 8000000 in
theorem rows_walk (A0 : Option Addr) (c0 : Nat) (A1 : Option Addr) (ns c1 : Nat) (l : List (List UInt8)) (sg : List UInt8) (n : Nat) (w : World) (hl : l.length = n) (h0 : StrsL w A0 l) (h1 : Src w A1 ns sg) (hc0 : n ≤ c0) (hc1 : ns ≤ c1) (hg : G0 w) :
    Calls Try.prog 9 #[.slice A0 n c0, .slice A1 ns c1] w fun e w' => e = .returned (.bool true) ∧ Below w.heap.size w w' := by
  have HG := Lib.hid hg
  have H0 := Lib.hid h0
  have H1 := Lib.hid h1
  have HL := Lib.hid hl
  have HAw := fun wx (hx : Below w.heap.size w wx) => awake_any wx (HG.out.old hx)
  clear hg h0 h1 hl
  go_enter Try.func9, Try.ntmps9
  go_wp2_with fail
  refine (HAw w (Below.refl _ _)).mono ?_
  rintro e w1 ⟨rfl, hb1⟩
  have HB1 := Lib.hid hb1
  clear hb1
  by_cases h12 : 12 < n
  · have h3i : (12 : Int) < (n : Int) := by omega
    go_wp2_with fail
    refine (HAw w1 HB1.out).mono ?_
    rintro e w2 ⟨rfl, hb2⟩
    go_wp2
    go_ret
    exact ⟨rfl, HB1.out.trans (hb2.mono HB1.out.size)⟩
  have h3i : ¬ (12 : Int) < (n : Int) := by omega
  have hn : n ≤ 12 := by omega
  clear HAw h12
  obtain ⟨X, hX⟩ : ∃ X, X = itX l sg := ⟨_, rfl⟩
  have HX : Hid (X = itX l sg) := hX
  have hXl : X.length = n := by rw [hX, itX_len, HL.out]
  have HXl := Lib.hid hXl
  have HXg : Hid (∀ k (hk : k < X.length), X[k] = (l.getD k [], sgnAt sg k)) := fun k hk => by subst hX; exact itX_get l sg k hk
  have HXo : Hid (∀ x ∈ X, okI x) := by rw [hX]; exact okI_all l sg
  clear hX hXl
  go_wp2_with fail
  go_loopg [5, 6] (n + 1) (fun f s5 s6 wr => ∃ (k m : Nat) (T : ByteArray), k ≤ n ∧ m ≤ 124 * k ∧ n - k < f ∧ s6 = .int .i64 (k : Int) ∧ s5 = .string T ∧ T.size = m ∧ Hid (T = bs ((X.take k).flatMap itF)) ∧ Hid (Below w.heap.size w wr))
  case atStart => exact ⟨0, 0, ⟨#[]⟩, Nat.zero_le _, by omega, by omega, rfl, rfl, rfl, rfl, HB1⟩
  case round =>
    obtain ⟨k, m, T, hk, hmk, hkf, rfl, rfl, hsz, hT, hBl⟩ := hrel
    obtain ⟨f, rfl⟩ : ∃ g, gk = g + 1 := ⟨gk - 1, by omega⟩
    by_cases hlt : k < n
    · have hki : (k : Int) < (n : Int) := by omega
      have hkc : k < c0 := by omega
      have hkl : k < l.length := by rw [HL.out]; exact hlt
      have hkX : k < X.length := by rw [HXl.out]; exact hlt
      obtain ⟨b0, o0, rfl, hcc⟩ := (H0.out.old hBl.out) (by omega)
      have e0 := hcc k hkl
      obtain ⟨s, hs⟩ : ∃ s, s = l[k] := ⟨_, rfl⟩
      rw [← hs] at e0
      have hgd : l.getD k [] = s := by rw [hs, List.getD_eq_getElem?_getD, List.getElem?_eq_getElem hkl]; rfl
      have hXk := HXg.out k hkX
      rw [hgd] at hXk
      have hsn := take_snoc X k hkX
      rw [hXk] at hsn
      have HSN := Lib.hid hsn
      have hzs : (bs s).size = s.length := by simp [bs, ByteArray.size]
      obtain ⟨zs, hzs2⟩ : ∃ z, z = s.length := ⟨_, rfl⟩
      rw [← hzs2] at hzs
      have HZS := Lib.hid hzs2
      obtain ⟨S, hS⟩ : ∃ S, S = bs s := ⟨_, rfl⟩
      rw [← hS] at hzs e0
      have HS := Lib.hid hS
      clear hcc hs hgd hXk hsn hzs2 hS
      by_cases h30 : 30 < zs
      · have h30i : (30 : Int) < (zs : Int) := by omega
        go_wp2
        go_ret
        exact ⟨rfl, hBl.out⟩
      · have h30i : ¬ (30 : Int) < (zs : Int) := by omega
        have hQ := fun wx => quote_any s wx (by have := HZS.out; omega)
        rw [← HS.out] at hQ
        have HQ := Lib.hid hQ
        clear hQ
        have hql : (qF s).length ≤ 122 := by
          have h1 := flat_len s
          have h2 := HZS.out
          unfold qF
          split
          · omega
          · simp only [List.length_append, List.length_cons, List.length_nil]; omega
        obtain ⟨QS, hQS⟩ : ∃ S, S = bs (qF s) := ⟨_, rfl⟩
        obtain ⟨zq, hzq⟩ : ∃ z, z = (qF s).length := ⟨_, rfl⟩
        have zQ : QS.size = zq := by rw [hQS, hzq]; simp [bs, ByteArray.size]
        rw [← hzq] at hql
        rw [← hQS] at HQ
        have HQS := Lib.hid hQS
        clear hzq hQS
        have z1 : ((⟨#[64]⟩ : ByteArray) ++ QS).size = zq + 1 := by rw [ByteArray.size_append, zQ]; show 1 + zq = zq + 1; omega
        have z2 : (T ++ ((⟨#[64]⟩ : ByteArray) ++ QS)).size = m + (zq + 1) := by rw [ByteArray.size_append, z1, hsz]
        have hT2 : T ++ ((⟨#[64]⟩ : ByteArray) ++ QS) = bs ((X.take k).flatMap itF ++ 64 :: qF s) := by
          rw [hT.out, HQS.out]; apply ByteArray.ext; simp [bs]
        have HT2 := Lib.hid hT2
        clear hT2
        go_wp2_with fail
        refine (HQ.out _).mono ?_
        rintro e w2 ⟨rfl, hb2⟩
        have HB2 := Lib.hid (hBl.out.trans (hb2.mono hBl.out.size))
        clear hb2 HQ e0 hBl
        generalize hT3 : T ++ ((⟨#[64]⟩ : ByteArray) ++ QS) = T2 at *
        by_cases hks : k < ns
        · have hksi : (k : Int) < (ns : Int) := by omega
          have hks1 : k < c1 := by omega
          have hksl : k < sg.length := by rw [H1.out.1]; exact hks
          obtain ⟨b1, o1, rfl, hcc⟩ := (H1.out.old HB2.out).2 (by omega)
          have e1 := hcc k hksl
          obtain ⟨y, hy⟩ : ∃ y, y = sg[k] := ⟨_, rfl⟩
          rw [← hy] at e1
          have hgy : sg.getD k 0 = y := by rw [hy, List.getD_eq_getElem?_getD, List.getElem?_eq_getElem hksl]; rfl
          obtain ⟨k1, hk1⟩ : ∃ j : Nat, j = y.toNat % 9 := ⟨_, rfl⟩
          have hk1l : k1 < 9 := by omega
          have hd1 : (y.toNat : Int).tmod 9 = (k1 : Int) := by rw [Int.tmod_eq_emod_of_nonneg (by omega)]; omega
          have hd2 : (y.toNat : Int) % 9 = (k1 : Int) := by omega
          have hw1 : IntKind.u8.wrap (k1 : Int) = (k1 : Int) := by simp [IntKind.wrap, IntKind.signed, IntKind.bits]; omega
          have hw2 : IntKind.u8.wrap ((k1 : Int) + 1) = (k1 : Int) + 1 := by simp [IntKind.wrap, IntKind.signed, IntKind.bits]; omega
          obtain ⟨D, hD⟩ : ∃ D, D = bs [signs.getD k1 0] := ⟨_, rfl⟩
          have zD : D.size = 1 := by rw [hD]; rfl
          have hsr : ∀ W : World, (Instr.slice 9 (.string ⟨#[59, 61, 38, 42, 40, 41, 44, 123, 125]⟩) (some (.int .u8 (k1 : Int))) (some (.int .u8 ((k1 : Int) + 1))) none).run Try.prog W = .ok (.string D) W := fun W => by
            rw [run_slice_string (P := Try.prog) W 9 _ .u8 .u8 k1 ((k1 : Int) + 1) Try.underlying9 (by omega) (by omega) (by show (k1 : Int) + 1 ≤ 9; omega), hD]
            congr 2
            exact sgn_ext k1 hk1l
          have z3 : (T2 ++ D).size = m + (zq + 1) + 1 := by rw [ByteArray.size_append, zD, z2]
          have HT3 : Hid (T2 ++ D = bs ((X.take (k + 1)).flatMap itF)) := by
            show _ = _
            rw [HSN.out, HT2.out, hD]
            have : sgnAt sg k = [signs.getD k1 0] := by unfold sgnAt; rw [if_pos hksl, hgy, hk1]
            simp only [itF, this]
            apply ByteArray.ext; simp [bs]
          clear hcc hy hgy hk1 hD HT2 HSN
          generalize (y.toNat : Int) = yi at *
          go_upto_region 11 with (fail)
          go_quiet (fail)
          have HB3 := Lib.hid (HB2.out.trans (below_dn w.heap.size w2 nq))
          generalize w2.drewN nq = wz at *
          clear e1 hsr
          go_wp2
          go_roundg f
          case measure => omega
          case rel => exact ⟨k + 1, m + (zq + 1) + 1, _, by omega, by omega, by omega, by go_num, rfl, z3, HT3, HB3⟩
        · have hksi : ¬ (k : Int) < (ns : Int) := by omega
          have HT3 : Hid (T2 = bs ((X.take (k + 1)).flatMap itF)) := by
            show _ = _
            rw [HSN.out, HT2.out]
            have : sgnAt sg k = [] := by unfold sgnAt; rw [if_neg (by rw [H1.out.1]; exact hks)]
            simp only [itF, this, List.append_nil]
          clear HT2 HSN
          go_wp2
          go_roundg f
          case measure => omega
          case rel => exact ⟨k + 1, m + (zq + 1), _, by omega, by omega, by omega, by go_num, rfl, z2, HT3, HB2⟩
    · obtain rfl : k = n := by omega
      have hTf := hT.out
      rw [List.take_of_length_le (by rw [HXl.out]; exact Nat.le_refl _)] at hTf
      obtain ⟨P, hP⟩ : ∃ P, P = X.flatMap itF := ⟨_, rfl⟩
      rw [← hP] at hTf
      have hPl : P.length = m := by rw [← hsz, hTf]; simp [bs, ByteArray.size]
      have hm1 : m ≤ 1488 := by omega
      have HP := Lib.hid hP
      have HPl := Lib.hid hPl
      have HTf := Lib.hid hTf
      obtain ⟨cc, wa, kB, hSa, hBa, _⟩ := conv_str2 wr P
      rw [← hTf, hPl] at kB
      have hNw := new_any (some ⟨wr.heap.size, 0, none⟩) P.length cc P wa hSa (by omega) ((HG.out.old hBl.out).old hBa)
      rw [hPl] at hNw
      have HNw := Lib.hid hNw
      have HBa := Lib.hid (hBl.out.trans (hBa.mono hBl.out.size))
      clear hT hTf hP hPl hSa hBa hNw hmk hkf
      go_wp2_with fail
      refine HNw.out.mono ?_
      rintro e wb ⟨q, A', c', rfl, hqa, hLx, hb⟩
      have HBb := Lib.hid (HBa.out.trans (hb.mono HBa.out.size))
      have hqB : w.heap.size ≤ q := Nat.le_trans HBa.out.size hqa
      have HLx : Hid (LexR wb q A' m c' P ((X.take 0).flatMap itF).length) := hLx
      clear hLx hb HNw kB HBa hqa hBl
      go_wp2_with fail
      go_loopg [8] (k + 1) (fun f s8 wr => ∃ (i : Nat), s8 = .int .i64 (i : Int) ∧ i ≤ k ∧ k - i < f ∧ Hid (LexR wr q A' m c' P ((X.take i).flatMap itF).length) ∧ Hid (Below w.heap.size w wr))
      case atStart => exact ⟨0, rfl, Nat.zero_le _, by omega, HLx, HBb⟩
      case round =>
        clear HLx HBb
        obtain ⟨i, rfl, hik, hif, hX, hBl⟩ := hrel
        obtain ⟨f2, rfl⟩ : ∃ g, gk = g + 1 := ⟨gk - 1, by omega⟩
        by_cases hilt : i < k
        · have hii : (i : Int) < (k : Int) := by omega
          have hic0 : i < c0 := by omega
          have hil : i < l.length := by rw [HL.out]; exact hilt
          have hiX : i < X.length := by rw [HXl.out]; exact hilt
          obtain ⟨s, hs⟩ : ∃ s, s = l[i] := ⟨_, rfl⟩
          have hgd : l.getD i [] = s := by rw [hs, List.getD_eq_getElem?_getD, List.getElem?_eq_getElem hil]; rfl
          have hXi := HXg.out i hiX
          rw [hgd] at hXi
          have hmid := take_mid X i hiX
          have hsn := take_snoc X i hiX
          rw [hXi] at hmid hsn
          have hok : okI (s, sgnAt sg i) := by rw [← hXi]; exact HXo.out _ (List.getElem_mem _)
          have hcl := clean_flat (X.drop (i + 1))
          generalize (X.drop (i + 1)).flatMap itF = rest at *
          obtain ⟨pre, hpre⟩ : ∃ pre, pre = (X.take i).flatMap itF := ⟨_, rfl⟩
          rw [← hpre] at hmid hsn
          have hX2 := hX.out
          rw [← hpre] at hX2
          have hPm : P = pre ++ 64 :: (qF s ++ (sgnAt sg i ++ rest)) := by rw [HP.out, hmid]; simp [itF]
          have hn1 := next_name pre s (sgnAt sg i ++ rest) (clean_it (s, sgnAt sg i) hok rest hcl)
          rw [← hPm] at hn1
          have hN := next_any w.heap.size q A' m c' pre.length P wr hX2 hqB
          rw [hn1] at hN
          have HN := Lib.hid hN
          have HPm := Lib.hid hPm
          have HSN := Lib.hid hsn
          have HSI := Lib.hid hs
          clear hN hPm hsn hn1 hX2 hX hpre hmid hcl hok hXi hgd hs
          go_wp2_with fail
          refine HN.out.mono ?_
          rintro e w5 ⟨rfl, hb5, _, hX5⟩
          have HX5 := Lib.hid hX5
          have HB5 := Lib.hid (hBl.out.trans (by exact hb5))
          clear hb5 hX5 hBl HN
          obtain ⟨b0, o0, rfl, hcc⟩ := (H0.out.old HB5.out) (by omega)
          have e0 := hcc i hil
          rw [← HSI.out] at e0
          have hb0 : b0 < w5.heap.size := World.block_lt_of_cell? w5 _ e0
          simp only [Tok.cells]
          obtain ⟨S, hS⟩ : ∃ S, S = bs s := ⟨_, rfl⟩
          rw [← hS] at e0 ⊢
          have hwA : Below w5.heap.size w5 (w5.alloc (.cells #[.int .u8 2, .int .u8 64, .string S, .int .i64 (pre.length : Int)] 30)) := (Below.refl _ _).alloc (Nat.le_refl _) _
          have HX6 : Hid (∀ nq, LexR ((w5.alloc (.cells #[.int .u8 2, .int .u8 64, .string S, .int .i64 (pre.length : Int)] 30)).drewN nq) q A' m c' P (pre.length + 1 + (qF s).length)) := fun nq => (HX5.out.old hwA).old (below_dn _ _ nq)
          have HB6 : Hid (∀ nq, Below w.heap.size w ((w5.alloc (.cells #[.int .u8 2, .int .u8 64, .string S, .int .i64 (pre.length : Int)] 30)).drewN nq)) := fun nq => (HB5.out.alloc HB5.out.size _).trans (below_dn _ _ nq)
          clear hcc hS HX5 HB5 hwA
          rw [show ((UInt8.toNat 64 : Nat) : Int) = 64 from rfl, show ((2 : Nat) : Int) = 2 from rfl]
          have hSS : (S.toList != S.toList) = false := by simp
          go_upto_region 17 with (fail)
          go_quiet (fail)
          have HX7 := Lib.hid (HX6.out nq)
          have HB7 := Lib.hid (HB6.out nq)
          clear HX6 HB6
          generalize (w5.alloc (.cells #[.int .u8 2, .int .u8 64, .string S, .int .i64 (pre.length : Int)] 30)).drewN nq = wz at *
          clear e0 hb0
          by_cases his : i < ns
          · have hisi : (i : Int) < (ns : Int) := by omega
            obtain ⟨ch, hch, hsg⟩ : ∃ ch, ch ∈ signs ∧ sgnAt sg i = [ch] := by
              unfold sgnAt
              rw [if_pos (by rw [H1.out.1]; exact his)]
              exact ⟨_, sgn_mem _ (Nat.mod_lt _ (by omega)), rfl⟩
            have hP2 : P = (pre ++ 64 :: qF s) ++ ch :: rest := by rw [HPm.out, hsg]; simp
            have hl2 : pre.length + 1 + (qF s).length = (pre ++ 64 :: qF s).length := by simp; omega
            have hn2 := next_sign (pre ++ 64 :: qF s) rest ch hch
            rw [← hP2, ← hl2] at hn2
            have hN2 := next_any w.heap.size q A' m c' _ P wz HX7.out hqB
            rw [hn2] at hN2
            have HN2 := Lib.hid hN2
            have HF : Hid (pre.length + 1 + (qF s).length + 1 = ((X.take (i + 1)).flatMap itF).length) := by show _ = _; rw [HSN.out, hl2]; simp [itF, hsg]; omega
            clear hN2 hn2 hP2 hl2 hch hsg HSN HPm
            go_wp2_with fail
            refine HN2.out.mono ?_
            rintro e w6 ⟨rfl, hb6, _, hX6⟩
            have hX6' : LexR w6 q A' m c' P (pre.length + 1 + (qF s).length + 1) := hX6
            rw [HF.out] at hX6'
            have HBf := Lib.hid ((HB7.out.trans (by exact hb6)).alloc (HB7.out.trans (by exact hb6)).size (.cells #[.int .u8 3, .int .u8 0, .string (bs [ch]), .int .i64 ((pre.length + 1 + (qF s).length : Nat) : Int)] 30))
            have HXf := Lib.hid (hX6'.old ((Below.refl w6.heap.size w6).alloc (Nat.le_refl _) (.cells #[.int .u8 3, .int .u8 0, .string (bs [ch]), .int .i64 ((pre.length + 1 + (qF s).length : Nat) : Int)] 30)))
            clear hb6 hX6 hX6' HX7 HB7 HN2 HF
            simp only [Tok.cells]
            rw [show ((UInt8.toNat 0 : Nat) : Int) = 0 from rfl, show ((3 : Nat) : Int) = 3 from rfl]
            generalize ((pre.length + 1 + (qF s).length : Nat) : Int) = at2 at *
            go_wp2
            go_roundg f2
            case measure => omega
            case rel => exact ⟨i + 1, by go_num, by omega, by omega, HXf, HBf⟩
          · have hisi : ¬ (i : Int) < (ns : Int) := by omega
            have hsg : sgnAt sg i = [] := by unfold sgnAt; rw [if_neg (by rw [H1.out.1]; exact his)]
            have hF : pre.length + 1 + (qF s).length = ((X.take (i + 1)).flatMap itF).length := by rw [HSN.out]; simp [itF, hsg]; omega
            have hX8 := HX7.out
            rw [hF] at hX8
            have HX8 := Lib.hid hX8
            clear hX8 hF hsg HSN HPm HX7
            go_wp2
            go_roundg f2
            case measure => omega
            case rel => exact ⟨i + 1, by go_num, by omega, by omega, HX8, HB7⟩
        · obtain rfl : i = k := by omega
          have hX2 := hX.out
          rw [List.take_of_length_le (by rw [HXl.out]; exact Nat.le_refl _), ← HP.out, HPl.out] at hX2
          obtain ⟨cc2, wa2, kB2, hSa2, hBa2, hcc2⟩ := conv_str2 wr P
          rw [← HTf.out] at kB2
          have hTk := toks_any (some ⟨wr.heap.size, 0, none⟩) P.length cc2 P wa2 hSa2 hcc2 (by rw [HPl.out]; omega)
          rw [HPl.out] at hTk kB2
          obtain ⟨L, hL⟩ := rows_toks X [] (m + 1) HXo.out (by rw [List.nil_append, ← HP.out, HPl.out]; simp)
          rw [List.nil_append, ← HP.out, HPl.out] at hL
          have hL2 : toksF P (m + 1) 0 [] = (L ++ [⟨0, 0, [], m⟩], -1) := hL
          rw [hL2] at hTk
          have HTk := Lib.hid hTk
          have HBa2 := Lib.hid (hBl.out.trans (hBa2.mono hBl.out.size))
          have hX3 := hX2.old hBa2
          have HX3 := Lib.hid hX3
          have hqa2 : q < wa2.heap.size := hX3.box.lt
          clear hX hX2 hX3 hSa2 hBa2 hTk hL hL2 hBl hcc2
          go_wp2_with fail
          refine HTk.out.mono ?_
          rintro e w7 ⟨mm, A4, c4, hmm, rfl, hO, hb7⟩
          have HB7 := Lib.hid (HBa2.out.trans (hb7.mono HBa2.out.size))
          have hN := next_any w.heap.size q A' m c' m P w7 (HX3.out.old hb7) hqB
          have hne := next_end P
          rw [HPl.out] at hne
          rw [hne] at hN
          have HN := Lib.hid hN
          have HO := Lib.hid hO
          obtain ⟨bs2, hbs2⟩ : ∃ b, b = wa2.heap.size := ⟨_, rfl⟩
          rw [← hbs2] at HO hqa2
          have hmm2 : mm = L.length + 1 := by rw [hmm]; simp
          have hmx := own_cap hO
          clear hO hb7 hN hne HX3 HTk hbs2 kB2 hmm HBa2
          dsimp only at HO ⊢
          go_wp2_with fail
          refine HN.out.mono ?_
          rintro e w8 ⟨rfl, hb8, hk8, _⟩
          have hO8 := own_kept HO.out hqa2 hk8
          have HB8 := Lib.hid (HB7.out.trans (by exact hb8))
          obtain ⟨g, rfl, hgw, hmc, e3⟩ : ∃ g, A4 = some ⟨g, 0, none⟩ ∧ g < w8.heap.size ∧ mm ≤ c4 ∧ w8.cell? ⟨g, L.length * 4 + 3, none⟩ = some (.int .i64 (m : Int)) := by
            obtain ⟨g, h1, _, h2, h3, _, _, _, _, h4⟩ := own_tok hO8 L.length (by simp)
            exact ⟨g, h1, h2, h3, by rw [h4]; simp⟩
          clear hO8 hb8 hk8 HO HB7 HN
          simp only [Tok.cells]
          rw [show bs [] = (⟨#[]⟩ : ByteArray) from rfl, show ((UInt8.toNat 0 : Nat) : Int) = 0 from rfl, show ((0 : Nat) : Int) = 0 from rfl]
          have hmi : (mm : Int) - 1 = (L.length : Int) := by omega
          have hlm : L.length < mm := by omega
          have hlc : L.length < c4 := by omega
          have hmi2 : (L.length : Int) < (mm : Int) := by omega
          generalize L.length = lL at *
          have HBf := Lib.hid (HB8.out.alloc HB8.out.size (.cells #[.int .u8 0, .int .u8 0, .string ⟨#[]⟩, .int .i64 (m : Int)] 30))
          clear HB8 hmm2
          go_wp2
          go_ret
          exact ⟨rfl, HBf.out⟩
end Go.Proofs.Ytgaedkaohjphaaa
