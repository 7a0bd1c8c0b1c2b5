/-
  CoilPuts: for every two byte slices and every uint64 the law returns true and leaves its arguments as they were: a number's bytes are appended, are as many as said, and are read back with what stands behind them left. Conditions: none.
-/
import Derived.Test.YtcafanekckkdoaaRows
import Derived.WalkKit
import Derived.Test.YtcafanekckkdoaaApp
import Derived.Deep.CutRange
import Derived.Deep.RegionHeld
import Derived.ProofKit
import Derived.OpenShut
import Derived.ShutString
import Derived.ChangeOld
import Derived.Below
namespace Go.Proofs.Ytcafanekckkdoaa.coilPuts
open Go.ChangeShapes Go.WideShapes Go.ChangeAt Go.RowKit
open Go.ChangeMaps (open_string shut_string)
set_option linter.unusedVariables false

theorem own : ownKnob Try.prog.godebug = none := by kernel_rfl
theorem laidOut : laidOutB Try.prog = true := by kernel_rfl

/-- WHAT THE WALK IS TOLD OF A SLICE OF INTEGERS THAT CAME IN: it is nil; or it leads to a row of 'cap' cells, the numbers 'zs' (the first 'len' are its elements, the rest its spare room), each fitting its kind. -/
def IsRow (k : IntKind) (w : World) (a : Option Addr) (len cap : Nat) (zs : List Int) : Prop :=
  (a = none ∧ len = 0 ∧ cap = 0 ∧ zs = []) ∨
  ∃ x, a = some x ∧ len ≤ cap ∧ cap ≤ maxLen ∧ zs.length = cap ∧ (∀ i, i < zs.length → w.cell? (x.add i) = some (.int k (zs.getD i 0))) ∧ ∀ n ∈ zs, (Lit.int k n).wf = true

theorem src_of_row {w : World} {a : Option Addr} {len cap : Nat} {zs : List Int} (h : IsRow .u8 w a len cap zs) :
    ∃ l : List Nat, l.length = len ∧ Src w a l ∧ (∀ x ∈ l, x < 256) ∧ len ≤ cap ∧ (a = none → cap = 0) := by
  rcases h with ⟨rfl, rfl, rfl, rfl⟩ | ⟨x, rfl, h1, h2, h3, h4, h5⟩
  · exact ⟨[], rfl, ⟨fun _ => rfl, fun ad h => by cases h⟩, by simp, Nat.le_refl _, fun _ => rfl⟩
  · refine ⟨(zs.take len).map Int.toNat, by simp; omega, ⟨(fun h => by cases h), fun ad had j u hu => ?_⟩, ?_, h1, (fun h => by cases h)⟩
    · injection had with had
      subst had
      have hj : j < len := by
        rcases Nat.lt_or_ge j len with h | h
        · exact h
        · rw [List.getElem?_eq_none (by simp; omega)] at hu; cases hu
      rw [h4 j (by omega)]
      simp only [List.map_map, List.getElem?_map, List.getElem?_take_of_lt hj] at hu
      rw [List.getElem?_eq_getElem (by omega)] at hu
      simp [B] at hu
      rw [← hu]
      have hb := bounds_u8 (h5 zs[j] (List.getElem_mem _))
      simp [List.getD, show j < zs.length by omega]
      omega
    · intro y hy
      rw [List.mem_map] at hy
      obtain ⟨z, hz, rfl⟩ := hy
      have := bounds_u8 (h5 z (List.mem_of_mem_take hz))
      omega

set_option maxHeartbeats 400000 in
theorem walk_far (a0 : Option Addr) (len0 cap0 : Nat) (a1 : Option Addr) (len1 cap1 : Nat) (a2 : Int) (w : World) (h : 50 < len0 ∨ (¬ 50 < len0 ∧ 50 < len1)) :
    Calls Try.prog 3 #[.slice a0 len0 cap0, .slice a1 len1 cap1, .int .u64 a2] w fun e w' => e = .returned (.bool true) ∧ Below w.heap.size w w' := by
  rcases h with h | ⟨h0, h⟩
  all_goals
    go_enter Try.func3, Try.ntmps3
    go_wp2_with fail
    refine (awake_any _).mono ?_
    rintro e w1 ⟨rfl, hb⟩
    have HB := Lib.hid hb
    clear hb
    go_wp2_with fail
    refine (awake_any _).mono ?_
    rintro e w2 ⟨rfl, hb⟩
    have HB2 := Lib.hid (HB.out.trans (hb.mono HB.out.size))
    clear hb
    go_wp2
    go_ret
    exact ⟨rfl, HB2.out⟩

theorem str_size (l : List Nat) : (str l).size = l.length := by
  show (l.map UInt8.ofNat).toArray.size = _
  simp
theorem str_append (x y : List Nat) : str x ++ str y = str (x ++ y) := by
  apply ByteArray.ext
  apply Array.toList_inj.1
  simp [str]

theorem rput_shape (n : Nat) (w : World) (hn : n < 18446744073709551616) : Calls Try.prog 14 #[.int .u64 n] w fun e w' => ∃ A c, e = .returned (.slice A (put n).length c) ∧ w'.ownsRow w.heap.size 5 1 (.slice A (put n).length c) (put n).length ((put n).map B) ∧ Below w.heap.size w w' := by
  refine (rput_any n w hn).mono ?_
  rintro e w' ⟨v, rfl, h, hb⟩
  obtain ⟨A, c, hv, _⟩ := Src.own h
  exact ⟨A, c, congrArg Ending.returned hv, hv ▸ h, hb⟩

theorem own_old {w w' : World} {base e size : Nat} {v : Value} {n : Nat} {xs : List Value} (h : w.ownsRow base e size v n xs) (hb : Below w.heap.size w w') : w'.ownsRow base e size v n xs := by
  obtain ⟨h1, h2⟩ := h
  refine ⟨h1, ?_⟩
  rcases h2 with h2 | ⟨g, cap, cur, r1, r2, r3, r4⟩
  · exact .inl h2
  · refine .inr ⟨g, cap, cur, r1, r2, ?_, r4⟩
    rw [hb.block g (Blk.lt (t := e) (cs := cur) r3)]
    exact r3

theorem anyH_mono {P : Program} {md : Region.Mode} {ops : Array Oper} {Q : Exit → Act → World → Prop} {S S' : World → Prop} (hS : ∀ w, S' w → S w) :
    ∀ (fuel : Nat) (listed : Array Bool) (a : Act) (w : World), wpAnyH P md ops Q S' fuel listed a w → wpAnyH P md ops Q S fuel listed a w
  | 0, _, _, _, h => h
  | fuel + 1, _, _, _, h => ⟨h.1, fun i hi => wpOp_mono (fun a' w' h' => ⟨hS _ h'.1, anyH_mono hS fuel _ a' w' h'.2⟩) (h.2 i hi)⟩

set_option maxRecDepth 20000 in
set_option maxHeartbeats 8000000 in
theorem walk_near (A0 : Option Addr) (p : List Nat) (c0 : Nat) (A1 : Option Addr) (q : List Nat) (c1 : Nat) (n : Nat) (w : World) (hn : n < 18446744073709551616)
    (s0 : Src w A0 p) (s1 : Src w A1 q) (b0 : ∀ x ∈ p, x < 256) (b1 : ∀ x ∈ q, x < 256) (hc0 : p.length ≤ c0) (hz0 : A0 = none → c0 = 0) (h0 : p.length ≤ 50) (h1 : q.length ≤ 50) :
    Calls Try.prog 3 #[.slice A0 p.length c0, .slice A1 q.length c1, .int .u64 n] w fun e w' => e = .returned (.bool true) ∧ Below w.heap.size w w' := by
  obtain ⟨i0, hi0, hi1, hi2, hi3⟩ := info_parts info5
  have S0 := Lib.hid s0
  have S1 := Lib.hid s1
  have B0 := Lib.hid b0
  have B1 := Lib.hid b1
  have HN := Lib.hid hn
  have HZ := Lib.hid hz0
  clear s0 s1 b0 b1 hn hz0
  go_enter Try.func3, Try.ntmps3
  go_wp2_with fail
  refine (awake_any _).mono ?_
  rintro e w1 ⟨rfl, hb⟩
  have HB1 := Lib.hid hb
  have S01 := Lib.hid (S0.out.old hb)
  have S11 := Lib.hid (S1.out.old hb)
  clear hb
  go_wp2_with (at_builtin; refine wpList_append_any _ rfl (.const (.slice none 0 0)) (.tmp 24) 22 rfl w.heap.size 5 i0 (.int .u8 0) 1 1 Try.underlying22 hi0 hi1 hi2 hi3 rfl (by decide) (.slice none 0 0) 0 [] rfl (World.ownsRow_nil _ _ _ _) w1.heap.size A0 p.length c0 (p.map B) rfl S01.out.reads (B_one _) (by unfold maxLen; omega) (by omega) HB1.out.size ?_; intro v2 w2 hown2 hg2 hat2)
  have O2 : Hid (w2.ownsRow w.heap.size 5 1 v2 p.length (p.map B)) := by
    have := hown2
    simp only [Nat.zero_add, List.nil_append] at this
    exact this
  have HB2 := Lib.hid (HB1.out.grown hg2 HB1.out.size (by simp [Value.ownBlock]))
  have S02 := Lib.hid (S0.out.old HB2.out)
  clear hown2 hg2 hat2 S01
  refine (put_grow _ _ _ _ HN.out S02.out (by omega)).mono ?_
  rintro e w3 ⟨v3, rfl, hown3, hb3⟩
  obtain ⟨A3, c3, hv3, hc3, hs3, hA3⟩ := Src.own hown3
  have hpl := put_len n HN.out
  have hl3 : (p ++ put n).length = p.length + (put n).length := List.length_append
  obtain ⟨g3, rfl, hg3, hg3b⟩ : ∃ g, A3 = some ⟨g, 0, none⟩ ∧ g < w3.heap.size ∧ w2.heap.size ≤ g := by
    rcases hA3 with rfl | h
    · have := congrArg List.length (hs3.1 rfl)
      simp only [hl3, List.length_nil] at this
      omega
    · exact h
  rw [hv3, hl3]
  rw [hl3] at hc3
  have S3 : Hid (Reads w3 w3.heap.size 1 (some ⟨g3, p.length, none⟩) (put n).length ((put n).map B)) := by
    refine ⟨by simp, fun _ => ⟨_, rfl, hg3, fun j u hj => ?_⟩⟩
    have hx := hs3.2 ⟨g3, 0, none⟩ rfl (p.length + j) u (by rw [List.map_append, List.getElem?_append_right (by simp), ← hj]; simp)
    have e1 : (⟨g3, 0, none⟩ : Addr).add (p.length + j) = ⟨g3, p.length + j, none⟩ := by unfold Addr.add; split <;> simp_all
    have e2 : (⟨g3, p.length, none⟩ : Addr).add j = ⟨g3, p.length + j, none⟩ := by unfold Addr.add; split <;> simp_all
    rw [e2, ← e1]
    exact hx
  have O3 : Hid (w3.ownsRow w2.heap.size 5 1 v3 (p ++ put n).length ((p ++ put n).map B)) := hown3
  have HB3 := Lib.hid (HB2.out.trans (hb3.mono HB2.out.size))
  have HB32 := Lib.hid hb3
  have S13 := Lib.hid (S1.out.old HB3.out)
  clear hs3 hA3 hown3 hb3 hl3 hg3 S02 S11
  have V3 := Lib.hid hv3
  clear hv3
  have hne : ¬ c3 = p.length := by omega
  go_wp2_with (first
    | (at_builtin; refine wpList_append_any _ rfl (.const (.slice none 0 0)) (.tmp 37) 22 rfl w3.heap.size 5 i0 (.int .u8 0) 1 1 Try.underlying22 hi0 hi1 hi2 hi3 rfl (by decide) (.slice none 0 0) 0 [] rfl (World.ownsRow_nil _ _ _ _) w3.heap.size (some ⟨g3, p.length, none⟩) (put n).length (c3 - p.length) ((put n).map B) rfl S3.out (B_one _) (by unfold maxLen; omega) (by omega) (Nat.le_refl _) ?_; intro v4 w4 hown4 hg4 hat4; have HB4 := Lib.hid ((Below.refl w3.heap.size w3).grown hg4 (Nat.le_refl _) (by simp [Value.ownBlock])); have O4 := Lib.hid hown4; have G4 := Lib.hid hg4; clear hown4 hg4 hat4)
    | (at_builtin; refine wpList_append_any _ rfl (.tmp 38) (.tmp 39) 22 rfl w3.heap.size 5 i0 (.int .u8 0) 1 1 Try.underlying22 hi0 hi1 hi2 hi3 rfl (by decide) v4 (0 + (put n).length) ([] ++ (put n).map B) rfl O4.out w4.heap.size A1 q.length c1 (q.map B) rfl (S13.out.old HB4.out).reads (B_one _) (by unfold maxLen; omega) (by omega) HB4.out.size ?_; intro v5 w5 hown5 hg5 hat5; have O5 := Lib.hid hown5; have HB5 := Lib.hid (HB4.out.grown hg5 HB4.out.size (fun k hk => (O4.out.lt k hk).1)); clear hown5 hg5 hat5))
  have O5' : Hid (w5.ownsRow w3.heap.size 5 1 v5 (0 + (put n).length + q.length) ((put n ++ q).map B)) := by
    have := O5.out
    rw [List.nil_append, ← List.map_append] at this
    exact this
  refine (new_own _ _ _ _ _ O5'.out (by simp; omega) ?_).mono ?_
  · intro x hx
    rw [List.mem_append] at hx
    rcases hx with hx | hx
    · exact put_bytes n x hx
    · exact B1.out x hx
  rintro e w6 ⟨g, rfl, hR, hb6, hg6⟩
  have R6 := Lib.hid hR
  have HB6 := Lib.hid (HB5.out.trans (hb6.mono HB5.out.size))
  have hgw : w3.heap.size ≤ g := Nat.le_trans HB5.out.size hg6
  clear hR hb6 hg6
  go_wp2_with fail
  refine (num_int _ _ _ _ (by omega) R6.out).mono ?_
  rintro e w7 ⟨rfl, hR7, hg7⟩
  have hnum : numF (put n ++ q) (18446744073709551615 : Int).toNat = (n, q, 0) := num_put n HN.out q _ (by have := HN.out; omega)
  rw [hnum] at hR7 ⊢
  have R7 := Lib.hid hR7
  have HB7 := Lib.hid (HB6.out.grown hg7 HB6.out.size (fun k hk => by injection hk with hk; omega))
  have HBW := Lib.hid (HB3.out.trans (HB7.out.mono HB3.out.size))
  clear hR7 hg7 hnum
  have hb : ∀ W, Below w7.heap.size w7 W → (convert 22 9 (.slice (some ⟨g3, 0, none⟩) (p.length + (put n).length) c3)).run Try.prog W = .ok (.string (str (p ++ put n))) W := by
    intro W hW
    have h1 : Below w3.heap.size w3 W := HB7.out.trans (hW.mono HB7.out.size)
    have h2 : W.ownsRow w2.heap.size 5 1 v3 (p ++ put n).length ((p ++ put n).map B) := own_old O3.out h1
    have := conv_own h2
    rw [V3.out, List.length_append] at this
    exact this
  have hw : ∀ W, Below w7.heap.size w7 W → (convert 22 9 v2).run Try.prog W = .ok (.string (str p)) W := by
    intro W hW
    have h1 : Below w2.heap.size w2 W := HB32.out.trans ((HB7.out.trans (hW.mono HB7.out.size)).mono HB32.out.size)
    exact conv_own (own_old O2.out h1)
  have hcat : str p ++ str (put n) = str (p ++ put n) := str_append p (put n)
  have hcond : ¬ (9223372036854775807 < (str p).size + (str (put n)).size) := by rw [str_size, str_size]; omega
  have heq : ((str (p ++ put n)).toList == (str (p ++ put n)).toList) = true := by simp
  have hsz : sizeN n = (put n).length := size_put n HN.out
  have HH := Lib.hid hb
  have HW := Lib.hid hw
  have hk0 : Below w7.heap.size w7 w7.drew := (Below.refl _ _).drew
  clear hb hw
  go_upto_region 7 with (fail)
  refine wp_region_held_drew (S := (fun W => Below w7.heap.size w7 W ∧ (convert 22 9 (.slice (some ⟨g3, 0, none⟩) (p.length + (put n).length) c3)).run Try.prog W = .ok (.string (str (p ++ put n))) W ∧ (convert 22 9 v2).run Try.prog W = .ok (.string (str p)) W)) (by kernel_rfl) ⟨hk0, HH.out _ hk0, HW.out _ hk0⟩ (fun hHeld => ?_)
  clear hk0
  refine wpAnyH_take (i := 0) (oi := { dst := some 44, op := Go.Op.move (Go.Operand.tmp 8), type := 22, pos := "law.go:22", after := #[], guard := none }) (v := ?_) rfl (by kernel_rfl) (by kernel_rfl) (by kernel_rfl) (fun _ _ _ h => h) (Or.inl ⟨by rfl, ?_⟩) (by assumption) ?_
  rotate_left
  · (intro W hSW; (try dsimp only at hSW); go_simp; first | done | with_reducible rfl)
  try simp only [Act.put, List.setIfInBounds_toArray, List.set_cons_zero, List.set_cons_succ]
  refine wpAnyH_take (i := 1) (oi := { dst := some 45, op := Go.Op.convert 22 9 (Go.Operand.tmp 44), type := 9, pos := "law.go:22", after := #[{ on := 0, ground := Go.Ground.data }], guard := none }) (v := ?_) rfl (by kernel_rfl) (by kernel_rfl) (by kernel_rfl) (fun _ _ _ h => h) (Or.inl ⟨by rfl, ?_⟩) (by assumption) ?_
  rotate_left
  · (intro W hSW; (try dsimp only at hSW); go_simp; first | done | with_reducible rfl)
  try simp only [Act.put, List.setIfInBounds_toArray, List.set_cons_zero, List.set_cons_succ]
  refine wpAnyH_take (i := 2) (oi := { dst := some 46, op := Go.Op.move (Go.Operand.tmp 7), type := 22, pos := "law.go:22", after := #[], guard := none }) (v := ?_) rfl (by kernel_rfl) (by kernel_rfl) (by kernel_rfl) (fun _ _ _ h => h) (Or.inl ⟨by rfl, ?_⟩) (by assumption) ?_
  rotate_left
  · (intro W hSW; (try dsimp only at hSW); go_simp; first | done | with_reducible rfl)
  try simp only [Act.put, List.setIfInBounds_toArray, List.set_cons_zero, List.set_cons_succ]
  refine wpAnyH_take (i := 3) (oi := { dst := some 47, op := Go.Op.convert 22 9 (Go.Operand.tmp 46), type := 9, pos := "law.go:22", after := #[{ on := 2, ground := Go.Ground.data }], guard := none }) (v := ?_) rfl (by kernel_rfl) (by kernel_rfl) (by kernel_rfl) (fun _ _ _ h => h) (Or.inl ⟨by rfl, ?_⟩) (by assumption) ?_
  rotate_left
  · (intro W hSW; (try dsimp only at hSW); go_simp; first | done | with_reducible rfl)
  try simp only [Act.put, List.setIfInBounds_toArray, List.set_cons_zero, List.set_cons_succ]
  refine wpAnyH_take (i := 4) (oi := { dst := some 48, op := Go.Op.move (Go.Operand.tmp 2), type := 23, pos := "law.go:22", after := #[], guard := none }) (v := ?_) rfl (by kernel_rfl) (by kernel_rfl) (by kernel_rfl) (fun _ _ _ h => h) (Or.inl ⟨by rfl, ?_⟩) (by assumption) ?_
  rotate_left
  · (intro W hSW; (try dsimp only at hSW); go_simp; first | done | with_reducible rfl)
  try simp only [Act.put, List.setIfInBounds_toArray, List.set_cons_zero, List.set_cons_succ]
  refine wpAnyH_ready (rs := [5]) (by kernel_rfl) (by simp) ?_
  refine AllReadyH.cons (o := { dst := some 49, op := Go.Op.call { callee := Go.Callee.value (Go.Operand.func 14), args := #[Go.Operand.tmp 48], argTypes := #[23] }, type := 22, pos := "law.go:22", after := #[{ on := 4, ground := Go.Ground.data }], guard := none }) rfl (fun K hK => ?_) AllReadyH.nil
  go_simp
  refine (rput_shape _ _ HN.out).mono ?_
  rintro e w8 ⟨A8, c8, rfl, hown8, hb8⟩
  have hk8 : Below w7.heap.size w7 w8 := hHeld.1.trans (hb8.mono hHeld.1.size)
  refine hK.out _ _ ⟨hk8, HH.out _ hk8, HW.out _ hk8⟩ (fun _ => ?_)
  clear hK K hHeld hb8
  refine anyH_mono (S' := (fun W => Below w7.heap.size w7 W ∧ (convert 22 9 (.slice (some ⟨g3, 0, none⟩) (p.length + (put n).length) c3)).run Try.prog W = .ok (.string (str (p ++ put n))) W ∧ (convert 22 9 v2).run Try.prog W = .ok (.string (str p)) W ∧ (convert 22 9 (.slice A8 (put n).length c8)).run Try.prog W = .ok (.string (str (put n))) W)) (fun _ h => ⟨h.1, h.2.1, h.2.2.1⟩) _ _ _ _ ?_
  have hHeld : (fun W => Below w7.heap.size w7 W ∧ (convert 22 9 (.slice (some ⟨g3, 0, none⟩) (p.length + (put n).length) c3)).run Try.prog W = .ok (.string (str (p ++ put n))) W ∧ (convert 22 9 v2).run Try.prog W = .ok (.string (str p)) W ∧ (convert 22 9 (.slice A8 (put n).length c8)).run Try.prog W = .ok (.string (str (put n))) W) w8 := ⟨hk8, HH.out _ hk8, HW.out _ hk8, conv_own hown8⟩
  have O8 := Lib.hid hown8
  have HK8 := Lib.hid hk8
  clear hown8 hk8
  refine wpAnyH_take (i := 6) (oi := { dst := some 50, op := Go.Op.convert 22 9 (Go.Operand.tmp 49), type := 9, pos := "law.go:22", after := #[{ on := 5, ground := Go.Ground.data }], guard := none }) (v := ?_) rfl (by kernel_rfl) (by kernel_rfl) (by kernel_rfl) (fun _ _ _ h => h) (Or.inl ⟨by rfl, ?_⟩) (by assumption) ?_
  rotate_left
  · (intro W hSW; (try dsimp only at hSW); go_simp; first | done | with_reducible rfl)
  try simp only [Act.put, List.setIfInBounds_toArray, List.set_cons_zero, List.set_cons_succ]
  refine wpAnyH_take (i := 7) (oi := { dst := some 51, op := Go.Op.binOp Go.BinOp.add 9 (Go.Operand.tmp 47) (Go.Operand.tmp 50) 9, type := 9, pos := "law.go:22", after := #[{ on := 3, ground := Go.Ground.data }, { on := 6, ground := Go.Ground.data }], guard := none }) (v := ?_) rfl (by kernel_rfl) (by kernel_rfl) (by kernel_rfl) (fun _ _ _ h => h) (Or.inl ⟨by rfl, ?_⟩) (by assumption) ?_
  rotate_left
  · (intro W hSW; (try dsimp only at hSW); go_simp; first | done | with_reducible rfl)
  try simp only [Act.put, List.setIfInBounds_toArray, List.set_cons_zero, List.set_cons_succ]
  refine wpAnyH_take (i := 8) (oi := { dst := some 52, op := Go.Op.binOp Go.BinOp.eql 9 (Go.Operand.tmp 45) (Go.Operand.tmp 51) 9, type := 4, pos := "law.go:22", after := #[{ on := 1, ground := Go.Ground.data }, { on := 7, ground := Go.Ground.data }], guard := none }) (v := ?_) rfl (by kernel_rfl) (by kernel_rfl) (by kernel_rfl) (fun _ _ _ h => h) (Or.inl ⟨by rfl, ?_⟩) (by assumption) ?_
  rotate_left
  · (intro W hSW; (try dsimp only at hSW); go_simp; first | done | with_reducible rfl)
  try simp only [Act.put, List.setIfInBounds_toArray, List.set_cons_zero, List.set_cons_succ]
  refine wpAnyH_take (i := 9) (oi := { dst := some 53, op := Go.Op.move (Go.Operand.tmp 52), type := 4, pos := "law.go:22", after := #[{ on := 8, ground := Go.Ground.data }, { on := 5, ground := Go.Ground.chain }], guard := none }) (v := ?_) rfl (by kernel_rfl) (by kernel_rfl) (by kernel_rfl) (fun _ _ _ h => h) (Or.inl ⟨by rfl, ?_⟩) (by assumption) ?_
  rotate_left
  · (intro W hSW; (try dsimp only at hSW); go_simp; first | done | with_reducible rfl)
  try simp only [Act.put, List.setIfInBounds_toArray, List.set_cons_zero, List.set_cons_succ]
  refine wpAnyH_take (i := 10) (oi := { dst := some 54, op := Go.Op.move (Go.Operand.tmp 2), type := 23, pos := "law.go:22", after := #[{ on := 9, ground := Go.Ground.guard }], guard := some (9, true) }) (v := ?_) rfl (by kernel_rfl) (by kernel_rfl) (by kernel_rfl) (fun _ _ _ h => h) (Or.inl ⟨by rfl, ?_⟩) (by assumption) ?_
  rotate_left
  · (intro W hSW; (try dsimp only at hSW); go_simp; first | done | with_reducible rfl)
  try simp only [Act.put, List.setIfInBounds_toArray, List.set_cons_zero, List.set_cons_succ]
  refine wpAnyH_take (i := 12) (oi := { dst := some 56, op := Go.Op.move (Go.Operand.tmp 2), type := 23, pos := "law.go:22", after := #[{ on := 9, ground := Go.Ground.guard }], guard := some (9, true) }) (v := ?_) rfl (by kernel_rfl) (by kernel_rfl) (by kernel_rfl) (fun _ _ _ h => h) (Or.inl ⟨by rfl, ?_⟩) (by assumption) ?_
  rotate_left
  · (intro W hSW; (try dsimp only at hSW); go_simp; first | done | with_reducible rfl)
  try simp only [Act.put, List.setIfInBounds_toArray, List.set_cons_zero, List.set_cons_succ]
  refine wpAnyH_ready (rs := [11]) (by kernel_rfl) (by simp) ?_
  refine AllReadyH.cons (o := { dst := some 55, op := Go.Op.call { callee := Go.Callee.value (Go.Operand.func 15), args := #[Go.Operand.tmp 54], argTypes := #[23] }, type := 3, pos := "law.go:22", after := #[{ on := 10, ground := Go.Ground.data }, { on := 9, ground := Go.Ground.chain }, { on := 9, ground := Go.Ground.guard }], guard := some (9, true) }) rfl (fun K hK => ?_) AllReadyH.nil
  go_simp
  refine (size_any _ _ (by omega) (by have := HN.out; omega)).mono ?_
  rintro e w9 ⟨rfl, rfl⟩
  refine hK.out _ _ hHeld (fun _ => ?_)
  clear hK K
  refine wpAnyH_ready (rs := [13]) (by kernel_rfl) (by simp) ?_
  refine AllReadyH.cons (o := { dst := some 57, op := Go.Op.call { callee := Go.Callee.value (Go.Operand.func 14), args := #[Go.Operand.tmp 56], argTypes := #[23] }, type := 22, pos := "law.go:22", after := #[{ on := 12, ground := Go.Ground.data }, { on := 11, ground := Go.Ground.chain }, { on := 9, ground := Go.Ground.guard }], guard := some (9, true) }) rfl (fun K hK => ?_) AllReadyH.nil
  go_simp
  refine (rput_shape _ _ HN.out).mono ?_
  rintro e w9 ⟨A9, c9, rfl, _, hb9⟩
  have hk9 : Below w7.heap.size w7 w9 := hHeld.1.trans (hb9.mono hHeld.1.size)
  have h9 : (fun W => Below w7.heap.size w7 W ∧ (convert 22 9 (.slice (some ⟨g3, 0, none⟩) (p.length + (put n).length) c3)).run Try.prog W = .ok (.string (str (p ++ put n))) W ∧ (convert 22 9 v2).run Try.prog W = .ok (.string (str p)) W ∧ (convert 22 9 (.slice A8 (put n).length c8)).run Try.prog W = .ok (.string (str (put n))) W) w9 := ⟨hk9, HH.out _ hk9, HW.out _ hk9, conv_own (own_old O8.out hb9)⟩
  refine hK.out _ _ h9 (fun _ => ?_)
  have HK9 := Lib.hid hk9
  clear hK K hHeld hb9 hk9
  refine wpAnyH_take (i := 14) (oi := { dst := some 58, op := Go.Op.call { callee := Go.Callee.builtin Go.Builtin.len, args := #[Go.Operand.tmp 57], argTypes := #[22] }, type := 3, pos := "law.go:22", after := #[{ on := 13, ground := Go.Ground.data }, { on := 9, ground := Go.Ground.guard }], guard := some (9, true) }) (v := ?_) rfl (by kernel_rfl) (by kernel_rfl) (by kernel_rfl) (fun _ _ _ h => h) (Or.inl ⟨by rfl, ?_⟩) (by assumption) ?_
  rotate_left
  · (intro W hSW; (try dsimp only at hSW); go_simp; first | done | with_reducible rfl)
  try simp only [Act.put, List.setIfInBounds_toArray, List.set_cons_zero, List.set_cons_succ]
  refine wpAnyH_take (i := 15) (oi := { dst := some 59, op := Go.Op.binOp Go.BinOp.eql 3 (Go.Operand.tmp 55) (Go.Operand.tmp 58) 3, type := 4, pos := "law.go:22", after := #[{ on := 11, ground := Go.Ground.data }, { on := 14, ground := Go.Ground.data }, { on := 9, ground := Go.Ground.guard }], guard := some (9, true) }) (v := ?_) rfl (by kernel_rfl) (by kernel_rfl) (by kernel_rfl) (fun _ _ _ h => h) (Or.inl ⟨by rfl, ?_⟩) (by assumption) ?_
  rotate_left
  · (intro W hSW; (try dsimp only at hSW); go_simp; first | done | with_reducible rfl)
  try simp only [Act.put, List.setIfInBounds_toArray, List.set_cons_zero, List.set_cons_succ]
  refine wpAnyH_take (i := 16) (oi := { dst := some 60, op := Go.Op.pick (Go.Operand.tmp 53) (Go.Operand.tmp 59) (Go.Operand.const (Go.Value.bool false)), type := 4, pos := "law.go:22", after := #[{ on := 9, ground := Go.Ground.data }, { on := 15, ground := Go.Ground.data }], guard := none }) (v := ?_) rfl (by kernel_rfl) (by kernel_rfl) (by kernel_rfl) (fun _ _ _ h => h) (Or.inl ⟨by rfl, ?_⟩) (by assumption) ?_
  rotate_left
  · (intro W hSW; (try dsimp only at hSW); go_simp; first | done | with_reducible rfl)
  try simp only [Act.put, List.setIfInBounds_toArray, List.set_cons_zero, List.set_cons_succ]
  refine wpAnyH_take (i := 17) (oi := { dst := some 61, op := Go.Op.move (Go.Operand.tmp 60), type := 4, pos := "law.go:22", after := #[{ on := 16, ground := Go.Ground.data }, { on := 13, ground := Go.Ground.chain }], guard := none }) (v := ?_) rfl (by kernel_rfl) (by kernel_rfl) (by kernel_rfl) (fun _ _ _ h => h) (Or.inl ⟨by rfl, ?_⟩) (by assumption) ?_
  rotate_left
  · (intro W hSW; (try dsimp only at hSW); go_simp; first | done | with_reducible rfl)
  try simp only [Act.put, List.setIfInBounds_toArray, List.set_cons_zero, List.set_cons_succ]
  refine wpAnyH_take (i := 18) (oi := { dst := some 62, op := Go.Op.move (Go.Operand.tmp 10), type := 23, pos := "law.go:22", after := #[{ on := 17, ground := Go.Ground.guard }], guard := some (17, true) }) (v := ?_) rfl (by kernel_rfl) (by kernel_rfl) (by kernel_rfl) (fun _ _ _ h => h) (Or.inl ⟨by rfl, ?_⟩) (by assumption) ?_
  rotate_left
  · (intro W hSW; (try dsimp only at hSW); go_simp; first | done | with_reducible rfl)
  try simp only [Act.put, List.setIfInBounds_toArray, List.set_cons_zero, List.set_cons_succ]
  refine wpAnyH_take (i := 19) (oi := { dst := some 63, op := Go.Op.move (Go.Operand.tmp 2), type := 23, pos := "law.go:22", after := #[{ on := 17, ground := Go.Ground.guard }], guard := some (17, true) }) (v := ?_) rfl (by kernel_rfl) (by kernel_rfl) (by kernel_rfl) (fun _ _ _ h => h) (Or.inl ⟨by rfl, ?_⟩) (by assumption) ?_
  rotate_left
  · (intro W hSW; (try dsimp only at hSW); go_simp; first | done | with_reducible rfl)
  try simp only [Act.put, List.setIfInBounds_toArray, List.set_cons_zero, List.set_cons_succ]
  refine wpAnyH_take (i := 20) (oi := { dst := some 64, op := Go.Op.binOp Go.BinOp.eql 23 (Go.Operand.tmp 62) (Go.Operand.tmp 63) 23, type := 4, pos := "law.go:22", after := #[{ on := 18, ground := Go.Ground.data }, { on := 19, ground := Go.Ground.data }, { on := 17, ground := Go.Ground.guard }], guard := some (17, true) }) (v := ?_) rfl (by kernel_rfl) (by kernel_rfl) (by kernel_rfl) (fun _ _ _ h => h) (Or.inl ⟨by rfl, ?_⟩) (by assumption) ?_
  rotate_left
  · (intro W hSW; (try dsimp only at hSW); go_simp; first | done | with_reducible rfl)
  try simp only [Act.put, List.setIfInBounds_toArray, List.set_cons_zero, List.set_cons_succ]
  refine wpAnyH_take (i := 21) (oi := { dst := some 65, op := Go.Op.pick (Go.Operand.tmp 61) (Go.Operand.tmp 64) (Go.Operand.const (Go.Value.bool false)), type := 4, pos := "law.go:22", after := #[{ on := 17, ground := Go.Ground.data }, { on := 20, ground := Go.Ground.data }], guard := none }) (v := ?_) rfl (by kernel_rfl) (by kernel_rfl) (by kernel_rfl) (fun _ _ _ h => h) (Or.inl ⟨by rfl, ?_⟩) (by assumption) ?_
  rotate_left
  · (intro W hSW; (try dsimp only at hSW); go_simp; first | done | with_reducible rfl)
  try simp only [Act.put, List.setIfInBounds_toArray, List.set_cons_zero, List.set_cons_succ]
  refine wpAnyH_take (i := 22) (oi := { dst := some 66, op := Go.Op.move (Go.Operand.tmp 65), type := 4, pos := "law.go:22", after := #[{ on := 21, ground := Go.Ground.data }, { on := 17, ground := Go.Ground.chain }], guard := none }) (v := ?_) rfl (by kernel_rfl) (by kernel_rfl) (by kernel_rfl) (fun _ _ _ h => h) (Or.inl ⟨by rfl, ?_⟩) (by assumption) ?_
  rotate_left
  · (intro W hSW; (try dsimp only at hSW); go_simp; first | done | with_reducible rfl)
  try simp only [Act.put, List.setIfInBounds_toArray, List.set_cons_zero, List.set_cons_succ]
  refine wpAnyH_take (i := 23) (oi := { dst := some 67, op := Go.Op.move (Go.Operand.tmp 9), type := 26, pos := "law.go:22", after := #[{ on := 22, ground := Go.Ground.guard }], guard := some (22, true) }) (v := ?_) rfl (by kernel_rfl) (by kernel_rfl) (by kernel_rfl) (fun _ _ _ h => h) (Or.inl ⟨by rfl, ?_⟩) (by assumption) ?_
  rotate_left
  · (intro W hSW; (try dsimp only at hSW); go_simp; first | done | with_reducible rfl)
  try simp only [Act.put, List.setIfInBounds_toArray, List.set_cons_zero, List.set_cons_succ]
  refine wpAnyH_take (i := 25) (oi := { dst := some 69, op := Go.Op.move (Go.Operand.tmp 1), type := 22, pos := "law.go:22", after := #[{ on := 22, ground := Go.Ground.guard }], guard := some (22, true) }) (v := ?_) rfl (by kernel_rfl) (by kernel_rfl) (by kernel_rfl) (fun _ _ _ h => h) (Or.inl ⟨by rfl, ?_⟩) (by assumption) ?_
  rotate_left
  · (intro W hSW; (try dsimp only at hSW); go_simp; first | done | with_reducible rfl)
  try simp only [Act.put, List.setIfInBounds_toArray, List.set_cons_zero, List.set_cons_succ]
  refine wpAnyH_take (i := 26) (oi := { dst := some 70, op := Go.Op.call { callee := Go.Callee.builtin Go.Builtin.len, args := #[Go.Operand.tmp 69], argTypes := #[22] }, type := 3, pos := "law.go:22", after := #[{ on := 25, ground := Go.Ground.data }, { on := 22, ground := Go.Ground.guard }], guard := some (22, true) }) (v := ?_) rfl (by kernel_rfl) (by kernel_rfl) (by kernel_rfl) (fun _ _ _ h => h) (Or.inl ⟨by rfl, ?_⟩) (by assumption) ?_
  rotate_left
  · (intro W hSW; (try dsimp only at hSW); go_simp; first | done | with_reducible rfl)
  try simp only [Act.put, List.setIfInBounds_toArray, List.set_cons_zero, List.set_cons_succ]
  refine wpAnyH_ready (rs := [24]) (by kernel_rfl) (by simp) ?_
  refine AllReadyH.cons (o := { dst := some 68, op := Go.Op.call { callee := Go.Callee.value (Go.Operand.func 16), args := #[Go.Operand.tmp 67], argTypes := #[26] }, type := 3, pos := "law.go:22", after := #[{ on := 23, ground := Go.Ground.data }, { on := 22, ground := Go.Ground.chain }, { on := 22, ground := Go.Ground.guard }], guard := some (22, true) }) rfl (fun K hK => ?_) AllReadyH.nil
  go_simp
  refine (left_any _ _ _ _ (R7.out.old h9.1)).mono ?_
  rintro e w10 ⟨rfl, rfl⟩
  refine hK.out _ _ h9 (fun _ => ?_)
  clear hK K
  refine wpAnyH_take (i := 27) (oi := { dst := some 71, op := Go.Op.binOp Go.BinOp.eql 3 (Go.Operand.tmp 68) (Go.Operand.tmp 70) 3, type := 4, pos := "law.go:22", after := #[{ on := 24, ground := Go.Ground.data }, { on := 26, ground := Go.Ground.data }, { on := 22, ground := Go.Ground.guard }], guard := some (22, true) }) (v := ?_) rfl (by kernel_rfl) (by kernel_rfl) (by kernel_rfl) (fun _ _ _ h => h) (Or.inl ⟨by rfl, ?_⟩) (by assumption) ?_
  rotate_left
  · (intro W hSW; (try dsimp only at hSW); go_simp; first | done | with_reducible rfl)
  try simp only [Act.put, List.setIfInBounds_toArray, List.set_cons_zero, List.set_cons_succ]
  refine wpAnyH_take (i := 28) (oi := { dst := some 72, op := Go.Op.pick (Go.Operand.tmp 66) (Go.Operand.tmp 71) (Go.Operand.const (Go.Value.bool false)), type := 4, pos := "law.go:22", after := #[{ on := 22, ground := Go.Ground.data }, { on := 27, ground := Go.Ground.data }], guard := none }) (v := ?_) rfl (by kernel_rfl) (by kernel_rfl) (by kernel_rfl) (fun _ _ _ h => h) (Or.inl ⟨by rfl, ?_⟩) (by assumption) ?_
  rotate_left
  · (intro W hSW; (try dsimp only at hSW); go_simp; first | done | with_reducible rfl)
  try simp only [Act.put, List.setIfInBounds_toArray, List.set_cons_zero, List.set_cons_succ]
  refine wpAnyH_take (i := 29) (oi := { dst := some 73, op := Go.Op.move (Go.Operand.tmp 72), type := 4, pos := "law.go:22", after := #[{ on := 28, ground := Go.Ground.data }, { on := 24, ground := Go.Ground.chain }], guard := none }) (v := ?_) rfl (by kernel_rfl) (by kernel_rfl) (by kernel_rfl) (fun _ _ _ h => h) (Or.inl ⟨by rfl, ?_⟩) (by assumption) ?_
  rotate_left
  · (intro W hSW; (try dsimp only at hSW); go_simp; first | done | with_reducible rfl)
  try simp only [Act.put, List.setIfInBounds_toArray, List.set_cons_zero, List.set_cons_succ]
  refine wpAnyH_take (i := 30) (oi := { dst := some 74, op := Go.Op.move (Go.Operand.tmp 9), type := 26, pos := "law.go:22", after := #[{ on := 29, ground := Go.Ground.guard }], guard := some (29, true) }) (v := ?_) rfl (by kernel_rfl) (by kernel_rfl) (by kernel_rfl) (fun _ _ _ h => h) (Or.inl ⟨by rfl, ?_⟩) (by assumption) ?_
  rotate_left
  · (intro W hSW; (try dsimp only at hSW); go_simp; first | done | with_reducible rfl)
  try simp only [Act.put, List.setIfInBounds_toArray, List.set_cons_zero, List.set_cons_succ]
  refine wpAnyH_ready (rs := [31]) (by kernel_rfl) (by simp) ?_
  refine AllReadyH.cons (o := { dst := some 75, op := Go.Op.call { callee := Go.Callee.value (Go.Operand.func 17), args := #[Go.Operand.tmp 74], argTypes := #[26] }, type := 32, pos := "law.go:22", after := #[{ on := 30, ground := Go.Ground.data }, { on := 29, ground := Go.Ground.chain }, { on := 29, ground := Go.Ground.guard }], guard := some (29, true) }) rfl (fun K hK => ?_) AllReadyH.nil
  go_simp
  refine (fault_any _ _ _ _ (R7.out.old h9.1)).mono ?_
  rintro e w10 ⟨rfl, rfl⟩
  refine hK.out _ _ h9 (fun _ => ?_)
  clear hK K
  refine wpAnyH_take (i := 32) (oi := { dst := some 76, op := Go.Op.binOp Go.BinOp.eql 32 (Go.Operand.tmp 75) (Go.Operand.const (Go.Value.int Go.IntKind.i64 0)) 32, type := 4, pos := "law.go:22", after := #[{ on := 31, ground := Go.Ground.data }, { on := 29, ground := Go.Ground.guard }], guard := some (29, true) }) (v := ?_) rfl (by kernel_rfl) (by kernel_rfl) (by kernel_rfl) (fun _ _ _ h => h) (Or.inl ⟨by rfl, ?_⟩) (by assumption) ?_
  rotate_left
  · (intro W hSW; (try dsimp only at hSW); go_simp; first | done | with_reducible rfl)
  try simp only [Act.put, List.setIfInBounds_toArray, List.set_cons_zero, List.set_cons_succ]
  refine wpAnyH_take (i := 33) (oi := { dst := some 77, op := Go.Op.pick (Go.Operand.tmp 73) (Go.Operand.tmp 76) (Go.Operand.const (Go.Value.bool false)), type := 4, pos := "law.go:22", after := #[{ on := 29, ground := Go.Ground.data }, { on := 32, ground := Go.Ground.data }], guard := none }) (v := ?_) rfl (by kernel_rfl) (by kernel_rfl) (by kernel_rfl) (fun _ _ _ h => h) (Or.inl ⟨by rfl, ?_⟩) (by assumption) ?_
  rotate_left
  · (intro W hSW; (try dsimp only at hSW); go_simp; first | done | with_reducible rfl)
  try simp only [Act.put, List.setIfInBounds_toArray, List.set_cons_zero, List.set_cons_succ]
  refine wpAnyH_take (i := 34) (oi := { dst := some 6, op := Go.Op.assign (Go.Operand.tmp 77), type := 4, pos := "law.go:22", after := #[{ on := 33, ground := Go.Ground.data }, { on := 31, ground := Go.Ground.chain }, { on := 0, ground := Go.Ground.phase }, { on := 1, ground := Go.Ground.phase }, { on := 2, ground := Go.Ground.phase }, { on := 3, ground := Go.Ground.phase }, { on := 4, ground := Go.Ground.phase }, { on := 5, ground := Go.Ground.phase }, { on := 6, ground := Go.Ground.phase }, { on := 7, ground := Go.Ground.phase }, { on := 8, ground := Go.Ground.phase }, { on := 9, ground := Go.Ground.phase }, { on := 10, ground := Go.Ground.phase }, { on := 11, ground := Go.Ground.phase }, { on := 12, ground := Go.Ground.phase }, { on := 13, ground := Go.Ground.phase }, { on := 14, ground := Go.Ground.phase }, { on := 15, ground := Go.Ground.phase }, { on := 16, ground := Go.Ground.phase }, { on := 17, ground := Go.Ground.phase }, { on := 18, ground := Go.Ground.phase }, { on := 19, ground := Go.Ground.phase }, { on := 20, ground := Go.Ground.phase }, { on := 21, ground := Go.Ground.phase }, { on := 22, ground := Go.Ground.phase }, { on := 23, ground := Go.Ground.phase }, { on := 24, ground := Go.Ground.phase }, { on := 25, ground := Go.Ground.phase }, { on := 26, ground := Go.Ground.phase }, { on := 27, ground := Go.Ground.phase }, { on := 28, ground := Go.Ground.phase }, { on := 29, ground := Go.Ground.phase }, { on := 30, ground := Go.Ground.phase }, { on := 31, ground := Go.Ground.phase }, { on := 32, ground := Go.Ground.phase }, { on := 33, ground := Go.Ground.phase }], guard := none }) (v := ?_) rfl (by kernel_rfl) (by kernel_rfl) (by kernel_rfl) (fun _ _ _ h => h) (Or.inl ⟨by rfl, ?_⟩) (by assumption) ?_
  rotate_left
  · (intro W hSW; (try dsimp only at hSW); go_simp; first | done | with_reducible rfl)
  try simp only [Act.put, List.setIfInBounds_toArray, List.set_cons_zero, List.set_cons_succ]
  refine wpAnyH_done (by kernel_rfl) ?_ _
  clear h9
  go_wp2
  go_ret
  exact ⟨rfl, HBW.out.trans (HK9.out.mono HBW.out.size)⟩

theorem walk (a0 : Option Addr) (len0 cap0 : Nat) (z0 : List Int) (a1 : Option Addr) (len1 cap1 : Nat) (z1 : List Int) (a2 : Int) (w : World) (w0 : IsRow .u8 w a0 len0 cap0 z0) (w1 : IsRow .u8 w a1 len1 cap1 z1) (w2 : (Lit.int .u64 a2).wf = true) :
    Calls Try.prog 3 #[.slice a0 len0 cap0, .slice a1 len1 cap1, .int .u64 a2] w fun e w' => e = .returned (.bool true) ∧ Below w.heap.size w w' := by
  obtain ⟨p, rfl, s0, b0, c0, z0⟩ := src_of_row w0
  obtain ⟨q, rfl, s1, b1, c1, z1⟩ := src_of_row w1
  have hb := u64_of_wf w2
  obtain ⟨n, rfl⟩ := Int.eq_ofNat_of_zero_le hb.1
  by_cases h0 : 50 < p.length
  · exact walk_far _ _ _ _ _ _ _ _ (.inl h0)
  · by_cases h1 : 50 < q.length
    · exact walk_far _ _ _ _ _ _ _ _ (.inr ⟨h0, h1⟩)
    · exact walk_near _ p _ _ q _ n w (by omega) s0 s1 b0 b1 c0 z0 (by omega) (by omega)

set_option maxRecDepth 100000 in
theorem lifted (os : Os) (started : os.Started) (H : Type) (enc : TypeId × Value → H) :
    ReturnsInHanded {} Try.checked os 3 .any (Rows.coilPutsSpec.pre6 enc Try.prog Try.f3 Rows.coilPutsRow.domain false) (Rows.coilPutsSpec.post enc Try.prog Try.f3 false true false false) := by
  refine returnsInHanded_of_change (C := Try.checked) own started (by kernel_rfl) Try.func3
    (ChangeSpec.witness6 (enc := enc) (C := Try.checked) false ⟨#[], #[.slice none 0 0, .slice none 0 0, .int .u64 0], []⟩ 8 (by kernel_rfl) (by kernel_rfl) (by kernel_rfl) (by kernel_rfl)) ?_
  intro W base args ds gs before hval0 hW hcnd _
  have hval : ∀ (j : Nat) t v, Try.f3.params[j]? = some t → args[j]? = some v → Value.okWide Try.prog W .any base t v := hval0
  have hW' := hW
  obtain ⟨p, q, hA0, hV, rfl, hfz, hnd⟩ := hW
  have hA : DataW.TrodAll enc Try.prog W 0 (fun _ => true) true Try.f3.params.toList args.toList ds p := hA0
  rw [Try.params3] at hA hval
  obtain ⟨v0, vs0, d0, ds0, p0, q0, hargs, rfl, rfl, h0, r0⟩ := trodAll_cons hA
  obtain ⟨v1, vs1, d1, ds1, p1, q1, rfl, rfl, rfl, h1, r1⟩ := trodAll_cons r0
  obtain ⟨v2, vs2, d2, ds2, p2, q2, rfl, rfl, rfl, h2, r2⟩ := trodAll_cons r1
  obtain ⟨rfl, rfl, rfl⟩ := trodAll_nil r2
  obtain rfl : args = #[v0, v1, v2] := by cases args; simp_all
  obtain ⟨rfl, rfl⟩ := trodVars_none hV
  obtain ⟨a0, len0, cap0, rfl⟩ := okWide_slice Try.underlying22 (hval 0 22 v0 rfl rfl)
  have k0 := h0
  have lt0 : ∀ x ∈ p0, x.block < W.heap.size := by obtain ⟨m, hm⟩ := k0; exact DataW.trod_lt m _ _ _ hm
  obtain ⟨z0, w0⟩ : ∃ zs, IsRow .u8 W a0 len0 cap0 zs := by
    obtain ⟨fuel, hf⟩ := h0
    rcases open_ints Try.underlying22 Try.underlying5 (by kernel_rfl) hf with ⟨hcs, _⟩ | ⟨x, l, c, zs, hcs, _, hl, hm, hz, _, hcell, hwz⟩
    · simp [Value.cells] at hcs
      obtain ⟨rfl, rfl, rfl⟩ := hcs
      exact ⟨[], .inl ⟨rfl, rfl, rfl, rfl⟩⟩
    · simp [Value.cells] at hcs
      obtain ⟨rfl, rfl, rfl⟩ := hcs
      exact ⟨zs, .inr ⟨_, rfl, hl, hm, by simpa using hz, hcell, hwz⟩⟩
  obtain ⟨a1, len1, cap1, rfl⟩ := okWide_slice Try.underlying22 (hval 1 22 v1 rfl rfl)
  have k1 := h1
  have lt1 : ∀ x ∈ p1, x.block < W.heap.size := by obtain ⟨m, hm⟩ := k1; exact DataW.trod_lt m _ _ _ hm
  obtain ⟨z1, w1⟩ : ∃ zs, IsRow .u8 W a1 len1 cap1 zs := by
    obtain ⟨fuel, hf⟩ := h1
    rcases open_ints Try.underlying22 Try.underlying5 (by kernel_rfl) hf with ⟨hcs, _⟩ | ⟨x, l, c, zs, hcs, _, hl, hm, hz, _, hcell, hwz⟩
    · simp [Value.cells] at hcs
      obtain ⟨rfl, rfl, rfl⟩ := hcs
      exact ⟨[], .inl ⟨rfl, rfl, rfl, rfl⟩⟩
    · simp [Value.cells] at hcs
      obtain ⟨rfl, rfl, rfl⟩ := hcs
      exact ⟨zs, .inr ⟨_, rfl, hl, hm, by simpa using hz, hcell, hwz⟩⟩
  obtain ⟨a2, rfl, rfl, rfl, w2⟩ := open_int Try.underlying23 (hval 2 23 v2 rfl rfl) h2
  clear hA0 hval0
  refine (walk a0 len0 cap0 z0 a1 len1 cap1 z1 a2 W w0 w1 w2).mono fun e W' ⟨he, bel⟩ => ?_
  subst he
  exact ⟨_, rfl, _, _, _, [], _, [], hW', trodAll_mk1 (shut_bool Try.underlying4 _), (trodAll_cons_mk (Below.trod laidOut (by kernel_rfl) (of_decide_eq_true (by kernel_rfl)) k0 bel lt0) (trodAll_cons_mk (Below.trod laidOut (by kernel_rfl) (of_decide_eq_true (by kernel_rfl)) k1 bel lt1) (trodAll_cons_mk (shut_int Try.underlying23 w2) trodAll_mk0))), rfl, bel.frame _, fun h => by cases h⟩

theorem over : Rows.coilPutsRow.holds Try.pinned (OpenSpec.ofChange Rows.coilPutsSpec) :=
  OpenClaim.holds_of_wide 3 Try.f3 rfl rfl rfl rfl rfl rfl rfl ⟨rfl, rfl, rfl, rfl, rfl⟩ rfl rfl rfl rfl rfl (by kernel_rfl) Try.func3 (by kernel_rfl)
    (of_decide_eq_true (by kernel_rfl)) (by unfold Func.isWrapper; first | (rw [if_pos (by decide +kernel)]; kernel_rfl) | (rw [if_neg (by decide +kernel)]; exact ⟨rfl, rfl⟩))
    (fun os started H enc _ => lifted os started H enc)

theorem proved : Rows.CoilPutsSaid := over
end Go.Proofs.Ytcafanekckkdoaa.coilPuts
namespace Go.Proofs.Ytcafanekckkdoaa
theorem coilPuts_holds : Rows.CoilPutsSaid := coilPuts.proved
#print axioms coilPuts_holds
end Go.Proofs.Ytcafanekckkdoaa
