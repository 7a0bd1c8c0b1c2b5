
/-
  Rows of numbers and of strings; what the reference's number and numbers leave.
-/
import Derived.Test.YtpdebnecfknohaaSx
namespace Go.Proofs.Ytpdebnecfknohaa
open Go.RowKit
set_option linter.unusedVariables false
set_option maxRecDepth 20000

/-- A string of bytes. -/
def bs (x : List UInt8) : ByteArray := ⟨x.toArray⟩
theorem bs_toList (x : List UInt8) : (bs x).toList = x := by rw [ByteArray.toList_eq]; rfl
/-- A slice that reads as these cells, in a block of the kind. -/
def RdS (S : Nat → Prop) (w : World) (A : Option Addr) (n size : Nat) (xs : List Value) : Prop := xs.length = n * size ∧ (0 < n → ∃ b o, A = some ⟨b, o, none⟩ ∧ S b ∧ ∀ j u, xs[j]? = some u → w.cell? ⟨b, o + j, none⟩ = some u)
theorem RdS.kept {S S' : Nat → Prop} {w w' : World} {A : Option Addr} {n size : Nat} {xs : List Value} (h : RdS S w A n size xs) (hk : Kept S w w') (hS : ∀ k, S k → k < w.heap.size → S' k) (hs : 0 < size) : RdS S' w' A n size xs := by
  refine ⟨h.1, fun hp => ?_⟩
  obtain ⟨b, o, hA, hb, hc⟩ := h.2 hp
  have h0 : 0 < xs.length := by rw [h.1]; exact Nat.mul_pos hp hs
  exact ⟨b, o, hA, hS b hb (World.block_lt_of_cell? w ⟨b, o + 0, none⟩ (hc 0 _ (List.getElem?_eq_getElem h0))), fun j u hj => hk.cell hb (hc j u hj)⟩
theorem RdS.old {S : Nat → Prop} {w w' : World} {A : Option Addr} {n size : Nat} {xs : List Value} (h : RdS S w A n size xs) (hb : Below w.heap.size w w') (hs : 0 < size) : RdS S w' A n size xs := h.kept (fun k _ hk => hb.block k hk) (fun _ h _ => h) hs
theorem RdS.none_ (S : Nat → Prop) (w : World) (size : Nat) : RdS S w none 0 size [] := ⟨by simp, fun h => by omega⟩
theorem RdS.own {w : World} {base n size e c : Nat} {A : Option Addr} {xs : List Value} (h : w.ownsRow base e size (.slice A n c) n xs) : RdS (fun k => base ≤ k) w A n size xs := by
  refine ⟨h.1, fun hp => ?_⟩
  rcases h.2 with ⟨_, h0⟩ | ⟨q, cap, cur, hv, h2, hk, h3, h4, h5, h6⟩
  · omega
  · have hA : A = some ⟨q, 0, none⟩ := by injection hv
    refine ⟨q, 0, hA, h2, fun j u hj => ?_⟩
    rw [cell_of_row w q _ cur e (0, 0) hk, Nat.zero_add, ← Array.getElem?_toList]
    rw [← h6] at hj
    rcases Nat.lt_or_ge j (n * size) with h | h
    · rwa [List.getElem?_take_of_lt h] at hj
    · rw [List.getElem?_eq_none (by rw [List.length_take]; omega)] at hj; cases hj
theorem RdS.below {S : Nat → Prop} {w : World} {A : Option Addr} {n size : Nat} {xs : List Value} (h : RdS S w A n size xs) {S' : Nat → Prop} (hS : ∀ k, S k → S' k) : RdS S' w A n size xs :=
  ⟨h.1, fun hp => by obtain ⟨b, o, hA, hb, hc⟩ := h.2 hp; exact ⟨b, o, hA, hS b hb, hc⟩⟩
def strV (l : List (List UInt8)) : List Value := l.map fun x => .string (bs x)
def intV (l : List Int) : List Value := l.map (Value.int .i64)
theorem strV_len (l : List (List UInt8)) : (strV l).length = l.length := by simp [strV]
theorem intV_len (l : List Int) : (intV l).length = l.length := by simp [intV]
theorem strV_get (l : List (List UInt8)) (i : Nat) (h : i < l.length) : (strV l)[i]? = some (.string (bs l[i])) := by simp [strV, h]
theorem intV_get (l : List Int) (i : Nat) (h : i < l.length) : (intV l)[i]? = some (.int .i64 l[i]) := by simp [intV, h]

/-- The number of a string among others, the first of which has the number i. -/
def numF : List (List UInt8) → List UInt8 → Nat → Int
  | [], _, _ => -1
  | x :: l, s, i => if x = s then (i : Int) else numF l s (i + 1)

set_option maxHeartbeats 1000000 in
theorem number_any (A : Option Addr) (c : Nat) (l : List (List UInt8)) (s : List UInt8) (w : World) (h : RdS (fun _ => True) w A l.length 1 (strV l)) (hl : l.length ≤ 1000000) :
    Calls Try.prog 55 #[.slice A l.length c, .string (bs s)] w fun e w' => e = .returned (.int .i64 (numF l s 0)) ∧ w = w' := by
  have HR := Lib.hid h
  clear h
  obtain ⟨N, hN⟩ : ∃ N, N = l.length := ⟨_, rfl⟩
  rw [← hN] at hl
  have HN := Lib.hid hN
  rw [← hN]
  clear hN
  go_enter Try.func55, Try.ntmps55
  go_wp2_with fail
  go_loopw [5] (fun i wr => ∃ k : Nat, k ≤ N ∧ i = .int .i64 (k : Int) ∧ w = wr ∧ Hid (numF l s 0 = numF (l.drop k) s k)) (fun i _ => N - (intOf i).toNat)
  case atStart => exact ⟨0, Nat.zero_le _, rfl, rfl, rfl⟩
  case round =>
    obtain ⟨k, hk, rfl, rfl, hE⟩ := hrel
    by_cases hlt : k < N
    · have hkl : k < l.length := by have := HN.out; omega
      obtain ⟨b, o, rfl, _, hc⟩ := HR.out.2 (by omega)
      have hcell := hc k _ (strV_get l k hkl)
      have hE2 := hE.out
      rw [List.drop_eq_getElem_cons hkl, numF] at hE2
      clear hc hE
      by_cases hx : l[k] = s
      · rw [if_pos hx] at hE2
        have HE2 := Lib.hid hE2
        have hq : ((bs l[k]).toList == (bs s).toList) = true := by rw [bs_toList, bs_toList]; simp [hx]
        generalize bs l[k] = bk at *
        clear hE2 hx
        go_wp2
        go_ret
        exact ⟨congrArg (fun x => Ending.returned (Value.int .i64 x)) HE2.out.symm, rfl⟩
      · rw [if_neg hx] at hE2
        have HE2 := Lib.hid hE2
        have hq : ((bs l[k]).toList == (bs s).toList) = false := by rw [bs_toList, bs_toList]; simpa using hx
        generalize bs l[k] = bk at *
        clear hE2 hx
        go_wp2
        go_roundw
        case rel => exact ⟨k + 1, by omega, by go_num, trivial, HE2⟩
        case measure => simp [intOf]; omega
    · obtain rfl : k = N := by omega
      have hE2 := hE.out
      rw [List.drop_of_length_le (by have := HN.out; omega), numF] at hE2
      have HE2 := Lib.hid hE2
      clear hE2 hE
      go_wp2
      go_ret
      exact ⟨congrArg (fun x => Ending.returned (Value.int .i64 x)) HE2.out.symm, rfl⟩
theorem numF_bound (l : List (List UInt8)) (s : List UInt8) : ∀ i, -1 ≤ numF l s i ∧ numF l s i ≤ (i : Int) + l.length := by
  induction l with
  | nil => intro i; simp [numF]
  | cons x l ih =>
    intro i
    have := ih (i + 1)
    simp only [numF]
    split
    · simp; omega
    · simp at *; omega

def numsF (l fr : List (List UInt8)) (x : List Int) : List Int := x.map fun i => numF l (fr.getD i.toNat []) 0
theorem info3 : (Try.prog.info? 3).map (fun i => (i.zero, i.size, i.bytes)) = some (some (.int .i64 0), 1, 8) := by kernel_rfl
/-- A number more. -/
theorem push1 (base : Nat) (v : Value) (l : List Int) (x : Int) (w : World) (h : w.ownsRow base 3 1 v l.length (intV l)) (hl : l.length ≤ 1000000) (hb : base ≤ w.heap.size) :
    ∃ q c w', (Builtin.append_ #[27, 27] 27 #[v, .slice (some ⟨w.heap.size, 0, none⟩) 1 1]).run Try.prog (w.alloc (.cells #[.int .i64 x] 3)) = .ok (.slice (some ⟨q, 0, none⟩) (l.length + 1) c) w' ∧ w'.ownsRow base 3 1 (.slice (some ⟨q, 0, none⟩) (l.length + 1) c) (l ++ [x]).length (intV (l ++ [x])) ∧ (w.alloc (.cells #[.int .i64 x] 3)).grownBy w' v.ownBlock ∧ (some q = v.ownBlock ∨ q = w.heap.size + 1) := by
  obtain ⟨i0, hi0, hz0, hz1, hz2⟩ := info_parts info3
  have hc : ∀ j u, ([.int .i64 x] : List Value)[j]? = some u → (w.alloc (.cells #[.int .i64 x] 3)).cell? ((⟨w.heap.size, 0, none⟩ : Addr).add j) = some u := by
    intro j u hj
    rw [Go.WideShapes.add_plain, cell_of_row _ w.heap.size _ _ 3 (0, 0) (heap_alloc_new w _), Nat.zero_add]
    simpa using hj
  obtain ⟨v5, w5, hr5, hO5, hg5, _, hat⟩ := run_append_own_at (P := Try.prog) (w.alloc (.cells #[.int .i64 x] 3)) base 27 27 3 i0 (.int .i64 0) 1 8 Try.underlying27 hi0 hz0 hz1 hz2 rfl (by decide) v l.length _ (h.alloc _) ⟨w.heap.size, 0, none⟩ 1 1 [.int .i64 x] rfl hc (by intro u hu; simp at hu; subst hu; rfl) (by unfold maxLen; omega) (by omega) (by simp; omega)
  obtain ⟨q5, c5, rfl⟩ : ∃ q5 c5, v5 = .slice (some ⟨q5, 0, none⟩) (l.length + 1) c5 := by
    rcases hO5.2 with ⟨_, h1⟩ | ⟨k, cap, cur, hv, _⟩
    · omega
    · exact ⟨k, cap, hv⟩
  refine ⟨q5, c5, w5, hr5, ?_, hg5, ?_⟩
  · rw [show (l ++ [x]).length = l.length + 1 from by simp, show intV (l ++ [x]) = intV l ++ [.int .i64 x] from by simp [intV]]; exact hO5
  · rcases hat with h | h
    · exact .inl h
    · refine .inr ?_
      have : some q5 = some (w.heap.size + 1) := by rw [show (some q5 : Option Nat) = (Value.slice (some ⟨q5, 0, none⟩) (l.length + 1) c5).ownBlock from rfl, h]; simp
      injection this

/-- What a call that hands back a new row of numbers leaves. -/
def IntsPost (w : World) (l : List Int) (e : Ending) (w' : World) : Prop := ∃ A c, e = .returned (.slice A l.length c) ∧ w'.ownsRow w.heap.size 3 1 (.slice A l.length c) l.length (intV l) ∧ Below w.heap.size w w'

set_option maxRecDepth 20000 in
set_option maxHeartbeats 1000000 in
theorem numbers_any (A B C : Option Addr) (ca cb cc : Nat) (l fr : List (List UInt8)) (x : List Int) (w : World) (h1 : RdS (fun _ => True) w A l.length 1 (strV l)) (h2 : RdS (fun _ => True) w B fr.length 1 (strV fr)) (h3 : RdS (fun _ => True) w C x.length 1 (intV x)) (hl : l.length ≤ 1000000) (hf : fr.length ≤ 1000000) (hx : x.length ≤ 1000000) (hi : ∀ i ∈ x, 0 ≤ i ∧ i < fr.length) :
    Calls Try.prog 56 #[.slice A l.length ca, .slice B fr.length cb, .slice C x.length cc] w (IntsPost w (numsF l fr x)) := by
  have H1 := Lib.hid h1
  have H2 := Lib.hid h2
  have H3 := Lib.hid h3
  have HI := Lib.hid hi
  have HL := Lib.hid hl
  clear h1 h2 h3 hi
  obtain ⟨N, hN⟩ : ∃ N, N = x.length := ⟨_, rfl⟩
  obtain ⟨F, hF⟩ : ∃ F, F = fr.length := ⟨_, rfl⟩
  obtain ⟨L, hL⟩ : ∃ L, L = l.length := ⟨_, rfl⟩
  rw [← hN] at hx
  rw [← hF] at hf
  have HN := Lib.hid hN
  have HF := Lib.hid hF
  have HLL := Lib.hid hL
  rw [← hN, ← hF, ← hL]
  clear hN hF hL hl
  go_enter Try.func56, Try.ntmps56
  go_wp2_with fail
  go_loopw [7, 8] (fun s7 s8 wr => ∃ (k : Nat) (Ao : Option Addr) (co : Nat), k ≤ N ∧ s8 = .int .i64 (k : Int) ∧ s7 = .slice Ao k co ∧ Hid (wr.ownsRow w.heap.size 3 1 (.slice Ao k co) (numsF l fr (x.take k)).length (intV (numsF l fr (x.take k)))) ∧ Hid (Below w.heap.size w wr)) (fun _ s8 _ => N - (intOf s8).toNat)
  case atStart => exact ⟨0, none, 0, Nat.zero_le _, rfl, rfl, ⟨rfl, .inl ⟨rfl, rfl⟩⟩, Below.refl _ _⟩
  case round =>
    obtain ⟨k, Ao, co, hk, rfl, rfl, hO, hB⟩ := hrel
    have HLk : Hid ((numsF l fr (x.take k)).length = k) := by show _ = _; simp [numsF]; have := HN.out; omega
    by_cases hlt : k < N
    · have hkx : k < x.length := by have := HN.out; omega
      obtain ⟨bc, oc, rfl, _, dc⟩ := H3.out.2 (by omega)
      have c3 := cell_old hB.out (World.block_lt_of_cell? w ⟨bc, oc + k, none⟩ (dc k _ (intV_get x k hkx))) (dc k _ (intV_get x k hkx))
      obtain ⟨hi0, hi1⟩ := HI.out x[k] (List.getElem_mem hkx)
      have HTk : Hid (numsF l fr (x.take (k + 1)) = numsF l fr (x.take k) ++ [numF l (fr.getD x[k].toNat []) 0]) := by
        show _ = _
        unfold numsF; rw [List.take_succ_eq_append_getElem hkx, List.map_append]; rfl
      generalize x[k] = xk at *
      obtain ⟨m, rfl⟩ : ∃ m : Nat, xk = m := ⟨xk.toNat, by omega⟩
      have hmF : m < F := by have := HF.out; omega
      have hmf : m < fr.length := by omega
      obtain ⟨bb, ob, rfl, _, db⟩ := H2.out.2 (by omega)
      have c2 := cell_old hB.out (World.block_lt_of_cell? w ⟨bb, ob + m, none⟩ (db m _ (strV_get fr m hmf))) (db m _ (strV_get fr m hmf))
      have HNum := Lib.hid (number_any A ca l fr[m] wr (H1.out.old hB.out (by decide)) HL.out)
      have hnb := numF_bound l fr[m] 0
      have HTk2 : Hid (numsF l fr (x.take (k + 1)) = numsF l fr (x.take k) ++ [numF l fr[m] 0]) := by
        show _ = _
        rw [HTk.out]; simp [List.getD, hmf]
      rw [← HLL.out] at HNum
      generalize numF l fr[m] 0 = nv at *
      generalize fr[m] = sm at *
      have hO2 := hO.out
      obtain ⟨q5, c5, w5, hr5, hO5, hg5, _⟩ := push1 w.heap.size (.slice Ao k co) (numsF l fr (x.take k)) nv wr hO2 (by rw [HLk.out]; omega) hB.out.size
      rw [HLk.out] at hr5 hO5
      have HO5 := Lib.hid hO5
      have HB5 : Hid (Below w.heap.size w w5) := (hB.out.alloc hB.out.size _).grown hg5 (by have := hB.out.size; simp; omega) (fun q hq => (hO2.lt q hq).1)
      clear dc db hO2 hO5 hg5 HTk
      have hmi : (m : Int) < (F : Int) := by omega
      go_upto_region 5 with (fail)
      go_wp2_with fail
      refine HNum.out.mono ?_
      rintro e w2 ⟨rfl, rfl⟩
      go_wp2_with (at_builtin; refine Lib.wpList_append_run _ rfl _ _ 27 27 rfl _ _ rfl rfl _ _ hr5 ?_)
      go_roundw
      case rel => exact ⟨k + 1, _, _, by omega, by go_num, rfl, (by rw [HTk2.out]; exact HO5), HB5⟩
      case measure => simp [intOf]; omega
    · obtain rfl : k = N := by omega
      have HO2 := hO.out
      rw [List.take_of_length_le (by have := HN.out; omega)] at HO2 HLk
      go_wp2
      go_ret
      refine ⟨Ao, co, congrArg (fun n => Ending.returned (Value.slice Ao n co)) HLk.out.symm, by rw [HLk.out] at HO2 ⊢; exact HO2, hB.out⟩
end Go.Proofs.Ytpdebnecfknohaa
