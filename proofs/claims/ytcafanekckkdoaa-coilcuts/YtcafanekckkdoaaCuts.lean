/-
  CoilCuts: for every slice of uint64, every uint16 and every int8 the law returns true and leaves its arguments as they were: a reader of truncated bytes stops where they stop and keeps its first error; a nil reader is empty. Conditions: none.
-/
import Derived.Test.YtcafanekckkdoaaRows
import Derived.WalkKit
import Derived.Test.YtcafanekckkdoaaRows3
import Derived.BigQuiet
import Derived.ProofKit
import Derived.OpenShut
import Derived.ShutString
import Derived.ChangeOld
import Derived.Below
namespace Go.Proofs.Ytcafanekckkdoaa.coilCuts
open Go.ChangeShapes Go.WideShapes Go.ChangeAt Go.RowKit
open Go.ChangeMaps (open_string shut_string)
set_option linter.unusedVariables false

theorem own : ownKnob Try.prog.godebug = none := by kernel_rfl
theorem laidOut : laidOutB Try.prog = true := by kernel_rfl

/-- WHAT THE WALK IS TOLD OF A SLICE OF INTEGERS THAT CAME IN: it is nil; or it leads to a row of 'cap' cells, the numbers 'zs' (the first 'len' are its elements, the rest its spare room), each fitting its kind. -/
def IsRow (k : IntKind) (w : World) (a : Option Addr) (len cap : Nat) (zs : List Int) : Prop :=
  (a = none ∧ len = 0 ∧ cap = 0 ∧ zs = []) ∨
  ∃ x, a = some x ∧ len ≤ cap ∧ cap ≤ maxLen ∧ zs.length = cap ∧ (∀ i, i < zs.length → w.cell? (x.add i) = some (.int k (zs.getD i 0))) ∧ ∀ n ∈ zs, (Lit.int k n).wf = true

/-- Numbers that came in, as such. -/
def nats (xs : List Int) : List Nat := xs.map Int.toNat
theorem nats_lt (xs : List Int) (h : ∀ x ∈ xs, (Lit.int .u64 x).wf = true) : ∀ a ∈ nats xs, a < 18446744073709551616 := by
  intro a ha
  unfold nats at ha
  rw [List.mem_map] at ha
  obtain ⟨x, hx, rfl⟩ := ha
  have := u64_of_wf (h x hx)
  omega

theorem new_len (w : World) (A : Option Addr) (c : Nat) (l : List Nat) (n : Nat) (hn : l.length = n) (h : Src w A l) (hl : l.length ≤ 1048576000) (hby : ∀ x ∈ l, x < 256) :
    Calls Try.prog 12 #[.slice A n c] w fun e w' => ∃ g, e = .returned (.pointer (some ⟨g, 0, none⟩)) ∧ Rdr w' g l 0 ∧ Below w.heap.size w w' ∧ w.heap.size ≤ g := by
  subst hn
  exact new_any w A c l h hl hby
theorem _root_.Go.Proofs.Ytcafanekckkdoaa.Src.take {w : World} {A : Option Addr} {l : List Nat} (h : Src w A l) (k : Nat) : Src w A (l.take k) := by
  refine ⟨fun e => by rw [h.1 e]; simp, fun ad had j u hu => h.2 ad had j u ?_⟩
  have hj : j < k := by
    rcases Nat.lt_or_ge j k with h1 | h1
    · exact h1
    · rw [List.getElem?_eq_none (by simp; omega)] at hu; cases hu
  rw [List.getElem?_map] at hu ⊢
  rw [List.getElem?_take_of_lt hj] at hu
  exact hu

set_option maxRecDepth 20000 in
set_option maxHeartbeats 2000000 in
theorem walk_near (A : Option Addr) (xs : List Int) (c : Nat) (cut : Nat) (e8 : Int) (w : World) (hcut : cut < 65536) (he : -128 ≤ e8 ∧ e8 < 128) (hx : Ints w .u64 A xs) (hw : ∀ x ∈ xs, (Lit.int .u64 x).wf = true) (hl : xs.length ≤ 20) :
    Calls Try.prog 6 #[.slice A xs.length c, .int .u16 cut, .int .i8 e8] w fun e w' => e = .returned (.bool true) ∧ Below w.heap.size w w' := by
  obtain ⟨i0, hi0, hi1, hi2, hi3⟩ := info_parts info5
  have X := Lib.hid hx
  have HW := Lib.hid hw
  have Hlt := Lib.hid (nats_lt xs hw)
  clear hx hw
  go_enter Try.func6, Try.ntmps6
  go_wp2_with fail
  refine (awake_any _).mono ?_
  rintro e w1 ⟨rfl, hb⟩
  have HB1 := Lib.hid hb
  clear hb
  go_wp2_with fail
  go_loopw [7, 8] (fun v i wr => ∃ k : Nat, k ≤ xs.length ∧ i = .int .i64 k ∧ Hid (wr.ownsRow w.heap.size 5 1 v (puts (nats (xs.take k))).length ((puts (nats (xs.take k))).map B)) ∧ Hid (Below w.heap.size w wr)) (fun _ i _ => xs.length - (intOf i).toNat)
  case atStart => exact ⟨0, Nat.zero_le _, rfl, World.ownsRow_nil _ _ _ _, HB1⟩
  case round =>
    obtain ⟨k, hk, rfl, hO, hB⟩ := hrel
    by_cases hlt : k < xs.length
    · obtain ⟨b, off, rfl, hc⟩ := (X.out.old hB.out) (by omega)
      have hcell := hc k hlt
      clear hc
      have hwf := u64_of_wf (HW.out (xs.getD k 0) (by simp [hlt]))
      have Hts := Lib.hid (take_snoc xs k hlt)
      generalize xs.getD k 0 = x at *
      obtain ⟨n, rfl⟩ := Int.eq_ofNat_of_zero_le hwf.1
      have Hn : Hid (n < 18446744073709551616) := by show _ < _; omega
      have hbl := puts_len (nats (xs.take k)) (fun a ha => Hlt.out a (by unfold nats at ha ⊢; rw [List.mem_map] at ha ⊢; obtain ⟨y, hy, e⟩ := ha; exact ⟨y, List.mem_of_mem_take hy, e⟩))
      have hpl := put_len n Hn.out
      have hlen : (nats (xs.take k)).length ≤ 20 := by simp [nats]; omega
      clear hwf
      go_wp2_with fail
      refine (rput_shape _ _ Hn.out).mono ?_
      rintro e w2 ⟨A2, c2, rfl, hown2, hb2⟩
      have HB2 := Lib.hid (hB.out.trans (hb2.mono hB.out.size))
      have HO2 := Lib.hid (own_old hO.out hb2)
      have HS2 := Lib.hid (Reads.of_own hown2)
      clear hown2 hb2
      go_wp2_with (at_builtin; refine wpList_append_any _ rfl _ _ 22 rfl w.heap.size 5 i0 (.int .u8 0) 1 1 Try.underlying22 hi0 hi1 hi2 hi3 rfl (by decide) u7 _ _ rfl HO2.out w2.heap.size A2 (put n).length c2 ((put n).map B) rfl HS2.out (B_one _) (by unfold maxLen; omega) (by omega) HB2.out.size ?_; intro v3 w3 hown3 hg3 hat3)
      have HO3 : Hid (w3.ownsRow w.heap.size 5 1 v3 (puts (nats (xs.take (k + 1)))).length ((puts (nats (xs.take (k + 1)))).map B)) := by
        have e : nats (xs.take (k + 1)) = nats (xs.take k) ++ [n] := by rw [Hts.out]; simp [nats]
        show w3.ownsRow _ _ _ _ _ _
        rw [e, puts_snoc, List.length_append, List.map_append]
        exact hown3
      have HB3 := Lib.hid (HB2.out.grown hg3 HB2.out.size (fun j hj => (HO2.out.lt j hj).1))
      clear hown3 hg3 hat3
      go_roundw
      case rel => exact ⟨k + 1, by omega, by go_num, HO3, HB3⟩
      case measure => simp [intOf]; omega
    · obtain rfl : k = xs.length := by omega
      have hO1 := hO.out
      rw [List.take_length] at hO1
      have hbl := puts_len (nats xs) Hlt.out
      have hlen : (nats xs).length ≤ 20 := by simp [nats]; omega
      obtain ⟨A7, c7, rfl, hc7, hs7, hA7⟩ := Src.own hO1
      obtain ⟨k, hk⟩ : ∃ k, k = cut % ((puts (nats xs)).length + 1) := ⟨_, rfl⟩
      have hkle : k ≤ (puts (nats xs)).length := by have := Nat.mod_lt cut (show 0 < (puts (nats xs)).length + 1 by omega); omega
      have hkeq : (cut : Int) % (((puts (nats xs)).length : Int) + 1) = (k : Int) := by rw [hk]; push_cast; rfl
      have hk0 : (k : Int) ≤ c7 := by omega
      have S7 := Lib.hid (hs7.take k)
      have HP : Hid (∀ j, j ≤ xs.length → (puts (nats (xs.take j))).length ≤ k → (puts (nats xs)).take k = puts (nats (xs.take j)) ++ (puts (nats (xs.drop j))).take (k - (puts (nats (xs.take j))).length)) := by
        intro j hj hle
        have e : puts (nats xs) = puts (nats (xs.take j)) ++ puts (nats (xs.drop j)) := by
          rw [← puts_append]
          unfold nats
          rw [← List.map_append, List.take_append_drop]
        rw [e, List.take_append, List.take_of_length_le hle]
      clear hO hO1 hs7 hk hA7
      go_wp2_with fail
      simp only [hkeq]
      clear hkeq
      refine (new_len _ _ _ _ _ (show ((puts (nats xs)).take k).length = k by simp; omega) S7.out (by simp; omega) (fun x hx => puts_bytes _ x (List.mem_of_mem_take hx))).mono ?_
      rintro e w2 ⟨g, rfl, hR, hb2, hg⟩
      have R2 := Lib.hid hR
      have HB2 := Lib.hid (hB.out.trans (hb2.mono hB.out.size))
      have hgw : w.heap.size ≤ g := Nat.le_trans hB.out.size hg
      clear hR hb2 hg hB S7
      go_wp2_with fail
      go_loopw [11, 12] (fun at_ i w3 => ∃ j : Nat, j ≤ xs.length ∧ i = .int .i64 j ∧ at_ = .int .i64 (puts (nats (xs.take j))).length ∧ (puts (nats (xs.take j))).length ≤ k ∧ Hid (Rdr w3 g ((puts (nats (xs.drop j))).take (k - (puts (nats (xs.take j))).length)) 0) ∧ Hid (Below w.heap.size w w3)) (fun _ i _ => xs.length - (intOf i).toNat)
      case atStart => exact ⟨0, Nat.zero_le _, rfl, rfl, Nat.zero_le _, R2, HB2⟩
      case round =>
        obtain ⟨j, hj, rfl, rfl, hjk, hR, hB⟩ := hrel
        by_cases hlt : j < xs.length
        · obtain ⟨b, off, rfl, hc⟩ := X.out (by omega)
          have Hc := Lib.hid (hc j hlt)
          have hbw : b < w.heap.size := World.block_lt_of_cell? w ⟨b, off + j, none⟩ (hc j hlt)
          have hwf := u64_of_wf (HW.out (xs.getD j 0) (by simp [hlt]))
          have Hdc := Lib.hid (drop_cons xs j hlt)
          have Hts := Lib.hid (take_snoc xs j hlt)
          clear hc
          generalize xs.getD j 0 = x at *
          obtain ⟨n, rfl⟩ := Int.eq_ofNat_of_zero_le hwf.1
          have Hn : Hid (n < 18446744073709551616) := by show _ < _; omega
          have hpl := put_len n Hn.out
          have hR1 := hR.out
          rw [Hdc.out] at hR1
          change Rdr _ g ((put n ++ puts (nats (xs.drop (j + 1)))).take (k - (puts (nats (xs.take j))).length)) 0 at hR1
          have Hpt : Hid ((puts (nats (xs.take (j + 1)))).length = (puts (nats (xs.take j))).length + (put n).length) := by
            have e : nats (xs.take (j + 1)) = nats (xs.take j) ++ [n] := by rw [Hts.out]; simp [nats]
            show _ = _
            rw [e, puts_snoc, List.length_append]
          have hR' := Lib.hid hR1
          clear hwf hR hR1
          by_cases hbig : k < (puts (nats (xs.take j))).length + (put n).length
          · have Hnum := Lib.hid (num_cut n (k - (puts (nats (xs.take j))).length) Hn.out (by omega) (puts (nats (xs.drop (j + 1)))) (18446744073709551615 : Int).toNat)
            go_wp2_with fail
            refine (num_int _ _ _ _ (by omega) hR'.out).mono ?_
            rw [Hnum.out]
            rintro e w4 ⟨rfl, hR4, hg4⟩
            have R4 := Lib.hid hR4
            have HB4 := Lib.hid (hB.out.grown hg4 hB.out.size (fun j hj => by injection hj with hj; omega))
            have hcell := (HB4.out.cell (p := ⟨b, off + j, none⟩) hbw).trans Hc.out
            clear hR4 hg4
            go_wp2_with fail
            refine (rput_shape _ _ Hn.out).mono ?_
            rintro e w5 ⟨A5, c5, rfl, hown5, hb5⟩
            have HB5 := Lib.hid (HB4.out.trans (hb5.mono HB4.out.size))
            have R5 := Lib.hid (R4.out.old hb5)
            clear hown5 hb5 hcell
            go_wp2_with fail
            refine (fail_kept _ _ _ _ _ R5.out (.inl rfl)).mono ?_
            rintro e w6 ⟨rfl, rfl⟩
            go_wp2_with fail
            refine (fault_any _ _ _ _ R5.out).mono ?_
            rintro e w6 ⟨rfl, rfl⟩
            go_wp2_with fail
            refine (end_any _ _ _ _ R5.out).mono ?_
            rintro e w6 ⟨rfl, rfl⟩
            go_wp2
            go_ret
            exact ⟨rfl, HB5⟩
          · have Htk : Hid ((put n ++ puts (nats (xs.drop (j + 1)))).take (k - (puts (nats (xs.take j))).length) = put n ++ (puts (nats (xs.drop (j + 1)))).take (k - (puts (nats (xs.take (j + 1)))).length)) := by
              show _ = _
              rw [List.take_append, List.take_of_length_le (by omega), Hpt.out]
              congr 2
              omega
            have Hnum := Lib.hid (num_put n Hn.out ((puts (nats (xs.drop (j + 1)))).take (k - (puts (nats (xs.take (j + 1)))).length)) (18446744073709551615 : Int).toNat (by have := Hn.out; omega))
            have hR3 := hR'.out
            rw [Htk.out] at hR3
            have hR'' := Lib.hid hR3
            clear hR3 hR'
            go_wp2_with fail
            refine (num_int _ _ _ _ (by omega) hR''.out).mono ?_
            rw [Hnum.out]
            rintro e w4 ⟨rfl, hR4, hg4⟩
            have R4 := Lib.hid hR4
            have HB4 := Lib.hid (hB.out.grown hg4 hB.out.size (fun j hj => by injection hj with hj; omega))
            have hcell := (HB4.out.cell (p := ⟨b, off + j, none⟩) hbw).trans Hc.out
            clear hR4 hg4
            go_wp2_with fail
            refine (rput_shape _ _ Hn.out).mono ?_
            rintro e w5 ⟨A5, c5, rfl, hown5, hb5⟩
            have HB5 := Lib.hid (HB4.out.trans (hb5.mono HB4.out.size))
            have R5 := Lib.hid (R4.out.old hb5)
            have hcell2 := (HB5.out.cell (p := ⟨b, off + j, none⟩) hbw).trans Hc.out
            clear hown5 hb5 hcell
            go_wp2
            go_roundw
            case rel => exact ⟨j + 1, by omega, by go_num, by rw [Hpt.out]; go_num, by rw [Hpt.out]; omega, R5, HB5⟩
            case measure => simp [intOf]; omega
        · have hR1 := hR.out
          rw [List.drop_of_length_le (by omega)] at hR1
          change Rdr _ g (([] : List Nat).take _) 0 at hR1
          rw [List.take_nil] at hR1
          have hR' := Lib.hid hR1
          clear hR hR1
          by_cases h0 : e8 = 0
          · subst h0
            go_wp2_with fail
            refine (fail_kept _ _ _ _ _ hR'.out (.inr ⟨rfl, rfl⟩)).mono ?_
            rintro e w5 ⟨rfl, rfl⟩
            have R5 := hR'
            have HB5 := hB
            go_wp2_with fail
            refine (nil_fail _ _).mono ?_
            rintro e w6 ⟨rfl, rfl⟩
            go_wp2_with fail
            refine (fault_any _ _ _ _ R5.out).mono ?_
            rintro e w6 ⟨rfl, rfl⟩
            go_wp2_with fail
            refine (nil_fault _).mono ?_
            rintro e w6 ⟨rfl, rfl⟩
            go_wp2_with fail
            refine (nil_end _).mono ?_
            rintro e w6 ⟨rfl, rfl⟩
            go_wp2_with fail
            refine (nil_num _ _).mono ?_
            rintro e w6 ⟨rfl, rfl⟩
            go_wp2_with fail
            refine (nil_int _).mono ?_
            rintro e w6 ⟨rfl, rfl⟩
            go_wp2_with fail
            refine (nil_bytes _).mono ?_
            rintro e w6 ⟨rfl, rfl⟩
            go_wp2_with fail
            refine (nil_left _).mono ?_
            rintro e w6 ⟨rfl, rfl⟩
            go_wp2
            go_ret
            exact ⟨rfl, HB5⟩
          · have h1 : (e8 == 0) = false := by simp; exact h0
            go_wp2_with fail
            refine (fail_any _ _ _ _ hR'.out h1).mono ?_
            rintro e w5 ⟨rfl, hR5, hg5⟩
            have R5 := Lib.hid hR5
            have HB5 := Lib.hid (hB.out.grown hg5 hB.out.size (fun j hj => by injection hj with hj; omega))
            clear hR5 hg5
            go_wp2_with fail
            refine (nil_fail _ _).mono ?_
            rintro e w6 ⟨rfl, rfl⟩
            go_wp2_with fail
            refine (fault_any _ _ _ _ R5.out).mono ?_
            rintro e w6 ⟨rfl, rfl⟩
            go_wp2_with fail
            refine (nil_fault _).mono ?_
            rintro e w6 ⟨rfl, rfl⟩
            go_wp2_with fail
            refine (nil_end _).mono ?_
            rintro e w6 ⟨rfl, rfl⟩
            go_wp2_with fail
            refine (nil_num _ _).mono ?_
            rintro e w6 ⟨rfl, rfl⟩
            go_wp2_with fail
            refine (nil_int _).mono ?_
            rintro e w6 ⟨rfl, rfl⟩
            go_wp2_with fail
            refine (nil_bytes _).mono ?_
            rintro e w6 ⟨rfl, rfl⟩
            go_wp2_with fail
            refine (nil_left _).mono ?_
            rintro e w6 ⟨rfl, rfl⟩
            go_wp2
            go_ret
            exact ⟨rfl, HB5⟩

set_option maxHeartbeats 400000 in
theorem walk_far (A : Option Addr) (len c : Nat) (a1 a2 : Int) (w : World) (h : 20 < len) :
    Calls Try.prog 6 #[.slice A len c, .int .u16 a1, .int .i8 a2] w fun e w' => e = .returned (.bool true) ∧ Below w.heap.size w w' := by
  go_enter Try.func6, Try.ntmps6
  go_wp2_with fail
  refine (awake_any _).mono ?_
  rintro e w1 ⟨rfl, hb⟩
  have HB := Lib.hid hb
  clear hb
  go_wp2_with fail
  refine (awake_any _).mono ?_
  rintro e w2 ⟨rfl, hb⟩
  have HB2 := Lib.hid (HB.out.trans (hb.mono HB.out.size))
  clear hb
  go_wp2
  go_ret
  exact ⟨rfl, HB2.out⟩

theorem walk (a0 : Option Addr) (len0 cap0 : Nat) (z0 : List Int) (a1 : Int) (a2 : Int) (w : World) (w0 : IsRow .u64 w a0 len0 cap0 z0) (w1 : (Lit.int .u16 a1).wf = true) (w2 : (Lit.int .i8 a2).wf = true) :
    Calls Try.prog 6 #[.slice a0 len0 cap0, .int .u16 a1, .int .i8 a2] w fun e w' => e = .returned (.bool true) ∧ Below w.heap.size w w' := by
  obtain ⟨xs, rfl, hx, hw⟩ := ints_of_row w0
  have hb := bounds_u16 w1
  have he := bounds_i8 w2
  obtain ⟨n, rfl⟩ := Int.eq_ofNat_of_zero_le hb.1
  by_cases h : 20 < xs.length
  · exact walk_far _ _ _ _ _ _ h
  · exact walk_near _ xs _ n a2 w (by omega) (by omega) hx hw (by omega)

set_option maxRecDepth 100000 in
theorem lifted (os : Os) (started : os.Started) (H : Type) (enc : TypeId × Value → H) :
    ReturnsInHanded {} Try.checked os 6 .any (Rows.coilCutsSpec.pre6 enc Try.prog Try.f6 Rows.coilCutsRow.domain false) (Rows.coilCutsSpec.post enc Try.prog Try.f6 false true false false) := by
  refine returnsInHanded_of_change (C := Try.checked) own started (by kernel_rfl) Try.func6
    (ChangeSpec.witness6 (enc := enc) (C := Try.checked) false ⟨#[], #[.slice none 0 0, .int .u16 0, .int .i8 0], []⟩ 8 (by kernel_rfl) (by kernel_rfl) (by kernel_rfl) (by kernel_rfl)) ?_
  intro W base args ds gs before hval0 hW hcnd _
  have hval : ∀ (j : Nat) t v, Try.f6.params[j]? = some t → args[j]? = some v → Value.okWide Try.prog W .any base t v := hval0
  have hW' := hW
  obtain ⟨p, q, hA0, hV, rfl, hfz, hnd⟩ := hW
  have hA : DataW.TrodAll enc Try.prog W 0 (fun _ => true) true Try.f6.params.toList args.toList ds p := hA0
  rw [Try.params6] at hA hval
  obtain ⟨v0, vs0, d0, ds0, p0, q0, hargs, rfl, rfl, h0, r0⟩ := trodAll_cons hA
  obtain ⟨v1, vs1, d1, ds1, p1, q1, rfl, rfl, rfl, h1, r1⟩ := trodAll_cons r0
  obtain ⟨v2, vs2, d2, ds2, p2, q2, rfl, rfl, rfl, h2, r2⟩ := trodAll_cons r1
  obtain ⟨rfl, rfl, rfl⟩ := trodAll_nil r2
  obtain rfl : args = #[v0, v1, v2] := by cases args; simp_all
  obtain ⟨rfl, rfl⟩ := trodVars_none hV
  obtain ⟨a0, len0, cap0, rfl⟩ := okWide_slice Try.underlying42 (hval 0 42 v0 rfl rfl)
  have k0 := h0
  have lt0 : ∀ x ∈ p0, x.block < W.heap.size := by obtain ⟨m, hm⟩ := k0; exact DataW.trod_lt m _ _ _ hm
  obtain ⟨z0, w0⟩ : ∃ zs, IsRow .u64 W a0 len0 cap0 zs := by
    obtain ⟨fuel, hf⟩ := h0
    rcases open_ints Try.underlying42 Try.underlying23 (by kernel_rfl) hf with ⟨hcs, _⟩ | ⟨x, l, c, zs, hcs, _, hl, hm, hz, _, hcell, hwz⟩
    · simp [Value.cells] at hcs
      obtain ⟨rfl, rfl, rfl⟩ := hcs
      exact ⟨[], .inl ⟨rfl, rfl, rfl, rfl⟩⟩
    · simp [Value.cells] at hcs
      obtain ⟨rfl, rfl, rfl⟩ := hcs
      exact ⟨zs, .inr ⟨_, rfl, hl, hm, by simpa using hz, hcell, hwz⟩⟩
  obtain ⟨a1, rfl, rfl, rfl, w1⟩ := open_int Try.underlying43 (hval 1 43 v1 rfl rfl) h1
  obtain ⟨a2, rfl, rfl, rfl, w2⟩ := open_int Try.underlying44 (hval 2 44 v2 rfl rfl) h2
  clear hA0 hval0
  refine (walk a0 len0 cap0 z0 a1 a2 W w0 w1 w2).mono fun e W' ⟨he, bel⟩ => ?_
  subst he
  exact ⟨_, rfl, _, _, _, [], _, [], hW', trodAll_mk1 (shut_bool Try.underlying4 _), (trodAll_cons_mk (Below.trod laidOut (by kernel_rfl) (of_decide_eq_true (by kernel_rfl)) k0 bel lt0) (trodAll_cons_mk (shut_int Try.underlying43 w1) (trodAll_cons_mk (shut_int Try.underlying44 w2) trodAll_mk0))), rfl, bel.frame _, fun h => by cases h⟩

theorem over : Rows.coilCutsRow.holds Try.pinned (OpenSpec.ofChange Rows.coilCutsSpec) :=
  OpenClaim.holds_of_wide 6 Try.f6 rfl rfl rfl rfl rfl rfl rfl ⟨rfl, rfl, rfl, rfl, rfl⟩ rfl rfl rfl rfl rfl (by kernel_rfl) Try.func6 (by kernel_rfl)
    (of_decide_eq_true (by kernel_rfl)) (by unfold Func.isWrapper; first | (rw [if_pos (by decide +kernel)]; kernel_rfl) | (rw [if_neg (by decide +kernel)]; exact ⟨rfl, rfl⟩))
    (fun os started H enc _ => lifted os started H enc)

theorem proved : Rows.CoilCutsSaid := over
end Go.Proofs.Ytcafanekckkdoaa.coilCuts
namespace Go.Proofs.Ytcafanekckkdoaa
theorem coilCuts_holds : Rows.CoilCutsSaid := coilCuts.proved
#print axioms coilCuts_holds
end Go.Proofs.Ytcafanekckkdoaa
