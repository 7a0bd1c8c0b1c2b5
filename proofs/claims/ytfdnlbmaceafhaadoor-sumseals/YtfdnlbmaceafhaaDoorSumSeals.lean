/-
  SumSeals (tied card): for every byte slice the law returns true and leaves its argument as it was: what is sealed is opened again, and any bytes are opened just if they are sealed so. Conditions: the table weathervane/sum.lines holds what the program's text lays (the card ties it).
-/
import Derived.Test.YtfdnlbmaceafhaaDoorCards
import Derived.Test.YtfdnlbmaceafhaaDoorTie
import Derived.WalkKit
import Derived.Test.YtfdnlbmaceafhaaDoorOpen
import Derived.BigQuiet
import Derived.Deep.RegionHeld
import Derived.ProofKit
import Derived.OpenShut
import Derived.ShutString
import Derived.ChangeOld
import Derived.Below
import Derived.Deep.DeepHandedRow
import Derived.Lib.LaidTab
namespace Go.Proofs.YtfdnlbmaceafhaaDoor.sumSeals
open Go.ChangeShapes Go.WideShapes Go.ChangeAt Go.RowKit
open Go.ChangeMaps (open_string shut_string)
set_option linter.unusedVariables false

theorem own : ownKnob Tryd.prog.godebug = none := by kernel_rfl
theorem laidOut : laidOutB Tryd.prog = true := by kernel_rfl
theorem gTab : Tryd.prog.globalNamed "weathervane/sum.lines" = some 0 := by kernel_rfl
theorem gTabType : (Tryd.prog.globals[0]?).map (·.type) = some 36 := by kernel_rfl
theorem cells36 : Tryd.prog.cellsOf 36 = 16 := by kernel_rfl
theorem cells24 : Tryd.prog.cellsOf 24 = 1 := by kernel_rfl

theorem table {W : World} (h : laidMetH Tryd.prog Rows.sumSealsRow.laid W) : Lib.TabIs Tryd.prog W "weathervane/sum.lines" .u32 (tab.map fun x : Nat => (x : Int)) :=
  Lib.tabIs_of_head (rest := []) gTab gTabType Tryd.underlying36 Tryd.underlying24 cells24 cells36 h
theorem tab_of {W : World} (h : laidMetH Tryd.prog Rows.sumSealsRow.laid W) : Tab W := by
  intro i hi
  have := (table h).cell gTab i (by simpa [tab] using hi)
  rw [this]
  have e : ∀ i : Fin 16, (tab.map fun x : Nat => (x : Int)).getD i.val 0 = ((tab.getD i.val 0 : Nat) : Int) := by decide
  exact congrArg (fun z => some (Value.int .u32 z)) (e ⟨i, hi⟩)

/-- WHAT THE WALK IS TOLD OF A SLICE OF INTEGERS THAT CAME IN: it is nil; or it leads to a row of 'cap' cells, the numbers 'zs' (the first 'len' are its elements, the rest its spare room), each fitting its kind. -/
def IsRow (k : IntKind) (w : World) (a : Option Addr) (len cap : Nat) (zs : List Int) : Prop :=
  (a = none ∧ len = 0 ∧ cap = 0 ∧ zs = []) ∨
  ∃ x, a = some x ∧ len ≤ cap ∧ cap ≤ maxLen ∧ zs.length = cap ∧ (∀ i, i < zs.length → w.cell? (x.add i) = some (.int k (zs.getD i 0))) ∧ ∀ n ∈ zs, (Lit.int k n).wf = true

set_option maxHeartbeats 400000 in
theorem walk_far (a0 : Option Addr) (len0 cap0 : Nat) (w : World) (hT : Tab w) (h : 300 < len0) :
    Calls Tryd.prog 4 #[.slice a0 len0 cap0] w fun e w' => e = .returned (.bool true) ∧ Below w.heap.size w w' := by
  have HT := Lib.hid hT
  clear hT
  go_enter Tryd.func4, Tryd.ntmps4
  go_wp2_with fail
  refine (awake_any _ HT.out).mono ?_
  rintro e w1 ⟨rfl, hb⟩
  have HB := Lib.hid hb
  have HT1 := Lib.hid (HT.out.old hb)
  clear hb
  go_wp2_with fail
  refine (awake_any _ HT1.out).mono ?_
  rintro e w2 ⟨rfl, hb⟩
  have HB2 := Lib.hid (HB.out.trans (hb.mono HB.out.size))
  clear hb
  go_wp2
  go_ret
  exact ⟨rfl, HB2.out⟩


theorem sealed_lt (l : List Nat) (h : ∀ x ∈ l, x < 256) (r : BitVec 32) : ∀ x ∈ l ++ four r, x < 256 := by
  intro x hx
  rw [List.mem_append] at hx
  rcases hx with hx | hx
  · exact h x hx
  · exact four_lt r x hx
theorem conv_src {w : World} {A : Option Addr} {l : List Nat} (c : Nat) (h : Src w A l) : (convert 22 9 (.slice A l.length c)).run Tryd.prog w = .ok (.string (str l)) w := by
  rcases A with _ | ad
  · have := h.1 rfl
    subst this
    exact run_convert_bytes_nil w 22 5 Tryd.underlying22 Tryd.underlying5 0 c 9 Tryd.underlying9
  · by_cases h0 : 0 < l.length
    · obtain ⟨b, o, he, hc⟩ := h.at_ h0
      rw [he, ← str_eq]
      refine run_convert_bytes_arg w 22 5 Tryd.underlying22 Tryd.underlying5 b o l.length c _ (by simp) (fun i hi => ?_) 9 Tryd.underlying9
      rw [hc i hi]
      simp [B, List.getD, hi]
    · have : l = [] := List.eq_nil_of_length_eq_zero (by omega)
      subst this
      rw [run_convert_bytes_string w 22 9 5 _ _ c Tryd.underlying22 Tryd.underlying5 Tryd.underlying9]
      exact run_bytesToString (P := Tryd.prog) w ad 0 c [] (run_loadCells_list (P := Tryd.prog) w ad [] (fun j v hj => by simp at hj))
theorem anyH_mono {P : Program} {md : Region.Mode} {ops : Array Oper} {Q : Exit → Act → World → Prop} {S S' : World → Prop} (hS : ∀ w, S' w → S w) :
    ∀ (fuel : Nat) (listed : Array Bool) (a : Act) (w : World), wpAnyH P md ops Q S' fuel listed a w → wpAnyH P md ops Q S fuel listed a w
  | 0, _, _, _, h => h
  | fuel + 1, _, _, _, h => ⟨h.1, fun i hi => wpOp_mono (fun a' w' h' => ⟨hS _ h'.1, anyH_mono hS fuel _ a' w' h'.2⟩) (h.2 i hi)⟩
/-- What sum.Open says of any bytes. -/
def Told (p : List Nat) (r : Value) (f : Int) (base : Nat) (w : World) : Prop :=
  (p.length < 4 ∧ r = .slice none 0 0 ∧ f = 3) ∨
  ∃ m t, p = m ++ t ∧ t.length = 4 ∧ ((t = four (crc ones m) ∧ f = 0 ∧ ∃ A c, r = .slice A m.length c ∧ w.ownsRow base 5 1 r m.length (m.map B)) ∨ (t ≠ four (crc ones m) ∧ r = .slice none 0 0 ∧ f = 6))
theorem open_told (A : Option Addr) (c : Nat) (p : List Nat) (w : World) (hT : Tab w) (h : Src w A p) (hl : p.length ≤ 1000) (hcap : p.length ≤ c) (hby : ∀ x ∈ p, x < 256) :
    Calls Tryd.prog 13 #[.slice A p.length c] w fun e w' => Below w.heap.size w w' ∧ ∃ r f, e = .returned (.tuple #[r, .int .i64 f]) ∧ Told p r f w.heap.size w' := by
  by_cases h4 : p.length < 4
  · refine (open_short A _ c w h4).mono ?_
    rintro e w' ⟨rfl, rfl⟩
    exact ⟨Below.refl _ _, _, _, rfl, .inl ⟨h4, rfl, rfl⟩⟩
  · obtain ⟨m, s0, s1, s2, s3, rfl⟩ : ∃ m s0 s1 s2 s3, p = m ++ [s0, s1, s2, s3] := by
      have hd : (p.drop (p.length - 4)).length = 4 := by rw [List.length_drop]; omega
      match hm : p.drop (p.length - 4), hd with
      | [a, b, c, d], _ => exact ⟨p.take (p.length - 4), a, b, c, d, by rw [← hm, List.take_append_drop]⟩
    have e : (m ++ [s0, s1, s2, s3]).length = m.length + 4 := by simp
    rw [e] at hl hcap ⊢
    refine (open_any A c m s0 s1 s2 s3 w hT h (by omega) hcap hby).mono ?_
    rintro e w' ⟨hb, ⟨ht, A1, c1, rfl, ho⟩ | ⟨ht, rfl⟩⟩
    · exact ⟨hb, _, _, rfl, .inr ⟨m, _, rfl, rfl, .inl ⟨ht, rfl, A1, c1, rfl, ho⟩⟩⟩
    · exact ⟨hb, _, _, rfl, .inr ⟨m, _, rfl, rfl, .inr ⟨ht, rfl, rfl⟩⟩⟩
theorem open_sealed (A : Option Addr) (n c : Nat) (p : List Nat) (w : World) (hn : (p ++ four (crc ones p)).length = n) (hT : Tab w) (h : Src w A (p ++ four (crc ones p))) (hl : p.length ≤ 1000) (hcap : n ≤ c) (hby : ∀ x ∈ p, x < 256) :
    Calls Tryd.prog 13 #[.slice A n c] w fun e w' => Below w.heap.size w w' ∧ ∃ A' c', e = .returned (.tuple #[.slice A' p.length c', .int .i64 0]) ∧ w'.ownsRow w.heap.size 5 1 (.slice A' p.length c') p.length (p.map B) := by
  subst hn
  have e : (p ++ four (crc ones p)).length = p.length + 4 := by rw [List.length_append, four_len]
  rw [e] at hcap ⊢
  refine (open_any A c p _ _ _ _ w hT h hl hcap (sealed_lt p hby _)).mono ?_
  rintro e w' ⟨hb, ⟨_, A1, c1, rfl, ho⟩ | ⟨ht, _⟩⟩
  · exact ⟨hb, A1, c1, rfl, ho⟩
  · exact absurd rfl ht

set_option maxRecDepth 20000 in
set_option maxHeartbeats 4000000 in
theorem walk_near (A : Option Addr) (p : List Nat) (c : Nat) (w : World) (hT : Tab w) (hs : Src w A p) (hb : ∀ x ∈ p, x < 256) (h : p.length ≤ 300) (hcap : p.length ≤ c) :
    Calls Tryd.prog 4 #[.slice A p.length c] w fun e w' => e = .returned (.bool true) ∧ Below w.heap.size w w' := by
  have HT := Lib.hid hT
  have HS := Lib.hid hs
  have HBy := Lib.hid hb
  clear hT hs hb
  have Hl4 : Hid ((p ++ four (crc ones p)).length = p.length + 4) := by rw [List.length_append, four_len]; rfl
  go_enter Tryd.func4, Tryd.ntmps4
  go_wp2_with fail
  refine (awake_any _ HT.out).mono ?_
  rintro e w1 ⟨rfl, hb⟩
  have HB := Lib.hid hb
  clear hb
  go_wp2_with fail
  refine (seal_any _ _ _ _ (HT.out.old HB.out) (HS.out.old HB.out) (by omega) HBy.out).mono ?_
  rintro e w2 ⟨A2, c2, rfl, hown, hb⟩
  rw [Hl4.out] at hown ⊢
  obtain ⟨A2', c2', hv, hc2, hs2, hA2⟩ := Src.own hown
  injection hv with hA hn hc
  subst hA hc
  clear hn hA2
  rw [Hl4.out] at hc2
  have HB2 := Lib.hid (HB.out.trans (hb.mono HB.out.size))
  have O2 := Lib.hid hown
  have S2 := Lib.hid hs2
  clear hown hb hs2
  go_wp2_with fail
  refine (open_sealed _ _ _ p _ Hl4.out (HT.out.old HB2.out) S2.out (by omega) hc2 HBy.out).mono ?_
  rintro e w3 ⟨hb, A3, c3, rfl, hown⟩
  have HB3 := Lib.hid (HB2.out.trans (hb.mono HB2.out.size))
  have O3 := Lib.hid hown
  have O2b := Lib.hid (own_old O2.out hb)
  clear hown hb S2 O2 hc2
  go_wp2_with fail
  refine (open_told _ _ p _ (HT.out.old HB3.out) (HS.out.old HB3.out) (by omega) hcap HBy.out).mono ?_
  rintro e w4 ⟨hb, r, f, rfl, htold⟩
  have HB4 := Lib.hid (HB3.out.trans (hb.mono HB3.out.size))
  have O4 := Lib.hid (own_old O3.out hb)
  have O2c := Lib.hid (own_old O2b.out hb)
  have HTold := Lib.hid htold
  clear hb htold O3 O2b
  have cs : ∀ W, Below w4.heap.size w4 W → (convert 22 9 (.slice A2 (p.length + 4) c2)).run Tryd.prog W = .ok (.string (str (p ++ four (crc ones p)))) W := fun W hW => conv_own (own_old O2c.out hW)
  have cq : ∀ W, Below w4.heap.size w4 W → (convert 22 9 (.slice A3 p.length c3)).run Tryd.prog W = .ok (.string (str p)) W := fun W hW => conv_own (own_old O4.out hW)
  have cp : ∀ W, Below w4.heap.size w4 W → (convert 22 9 (.slice A p.length c)).run Tryd.prog W = .ok (.string (str p)) W := fun W hW => conv_src c ((HS.out.old HB4.out).old hW)
  have CS := Lib.hid cs
  have CQ := Lib.hid cq
  have CP := Lib.hid cp
  clear cs cq cp
  go_upto_region 6 with (fail)
  have hk0 : Below w4.heap.size w4 w4.drew := (Below.refl _ _).drew
  have heq : ((str (p ++ four (crc ones p))).toList == (str (p ++ four (crc ones p))).toList) = true := by simp
  have heq2 : ((str p).toList == (str p).toList) = true := by simp
  refine wp_region_held_drew (S := (fun W => Below w4.heap.size w4 W ∧ (convert 22 9 (.slice A2 (p.length + 4) c2)).run Tryd.prog W = .ok (.string (str (p ++ four (crc ones p)))) W ∧ (convert 22 9 (.slice A3 p.length c3)).run Tryd.prog W = .ok (.string (str p)) W ∧ (convert 22 9 (.slice A p.length c)).run Tryd.prog W = .ok (.string (str p)) W)) (by kernel_rfl) ⟨hk0, CS.out _ hk0, CQ.out _ hk0, CP.out _ hk0⟩ (fun hHeld => ?_)
  clear hk0
  refine wpAnyH_take (i := 0) (oi := { dst := some 28, op := Go.Op.move (Go.Operand.tmp 3), type := 22, pos := "law.go:29", after := #[], guard := none }) (v := ?_) rfl (by kernel_rfl) (by kernel_rfl) (by kernel_rfl) (fun _ _ _ h => h) (Or.inl ⟨by rfl, ?_⟩) (by assumption) ?_
  rotate_left
  · (intro W hSW; (try dsimp only at hSW); go_simp; first | done | with_reducible rfl)
  try simp only [Act.put, List.setIfInBounds_toArray, List.set_cons_zero, List.set_cons_succ]
  refine wpAnyH_take (i := 1) (oi := { dst := some 29, op := Go.Op.convert 22 9 (Go.Operand.tmp 28), type := 9, pos := "law.go:29", after := #[{ on := 0, ground := Go.Ground.data }], guard := none }) (v := ?_) rfl (by kernel_rfl) (by kernel_rfl) (by kernel_rfl) (fun _ _ _ h => h) (Or.inl ⟨by rfl, ?_⟩) (by assumption) ?_
  rotate_left
  · (intro W hSW; (try dsimp only at hSW); go_simp; first | done | with_reducible rfl)
  try simp only [Act.put, List.setIfInBounds_toArray, List.set_cons_zero, List.set_cons_succ]
  refine wpAnyH_take (i := 2) (oi := { dst := some 30, op := Go.Op.move (Go.Operand.tmp 0), type := 22, pos := "law.go:29", after := #[], guard := none }) (v := ?_) rfl (by kernel_rfl) (by kernel_rfl) (by kernel_rfl) (fun _ _ _ h => h) (Or.inl ⟨by rfl, ?_⟩) (by assumption) ?_
  rotate_left
  · (intro W hSW; (try dsimp only at hSW); go_simp; first | done | with_reducible rfl)
  try simp only [Act.put, List.setIfInBounds_toArray, List.set_cons_zero, List.set_cons_succ]
  refine wpAnyH_ready (rs := [3]) (by kernel_rfl) (by simp) ?_
  refine AllReadyH.cons (o := { dst := some 31, op := Go.Op.call { callee := Go.Callee.value (Go.Operand.func 14), args := #[Go.Operand.tmp 30], argTypes := #[22] }, type := 22, pos := "law.go:29", after := #[{ on := 2, ground := Go.Ground.data }], guard := none }) rfl (fun K hK => ?_) AllReadyH.nil
  go_simp
  refine (rseal_any _ _ _ _ ((HS.out.old HB4.out).old hHeld.1) (by omega) HBy.out).mono ?_
  rintro e w5 ⟨A5, c5, rfl, hown, hb⟩
  rw [Hl4.out] at hown ⊢
  have hk5 : Below w4.heap.size w4 w5 := hHeld.1.trans (hb.mono hHeld.1.size)
  have c5' := conv_own hown
  have HK5 := Lib.hid hk5
  refine hK.out _ _ ⟨hk5, CS.out _ hk5, CQ.out _ hk5, CP.out _ hk5⟩ (fun _ => ?_)
  clear hK K hHeld
  refine anyH_mono (S' := (fun W => Below w4.heap.size w4 W ∧ (convert 22 9 (.slice A2 (p.length + 4) c2)).run Tryd.prog W = .ok (.string (str (p ++ four (crc ones p)))) W ∧ (convert 22 9 (.slice A3 p.length c3)).run Tryd.prog W = .ok (.string (str p)) W ∧ (convert 22 9 (.slice A p.length c)).run Tryd.prog W = .ok (.string (str p)) W ∧ (convert 22 9 (.slice A5 (p.length + 4) c5)).run Tryd.prog W = .ok (.string (str (p ++ four (crc ones p)))) W)) (fun _ h => ⟨h.1, h.2.1, h.2.2.1, h.2.2.2.1⟩) _ _ _ _ ?_
  have hHeld : (fun W => Below w4.heap.size w4 W ∧ (convert 22 9 (.slice A2 (p.length + 4) c2)).run Tryd.prog W = .ok (.string (str (p ++ four (crc ones p)))) W ∧ (convert 22 9 (.slice A3 p.length c3)).run Tryd.prog W = .ok (.string (str p)) W ∧ (convert 22 9 (.slice A p.length c)).run Tryd.prog W = .ok (.string (str p)) W ∧ (convert 22 9 (.slice A5 (p.length + 4) c5)).run Tryd.prog W = .ok (.string (str (p ++ four (crc ones p)))) W) w5 := ⟨hk5, CS.out _ hk5, CQ.out _ hk5, CP.out _ hk5, c5'⟩
  clear c5' hown hb hk5
  refine wpAnyH_take (i := 4) (oi := { dst := some 32, op := Go.Op.convert 22 9 (Go.Operand.tmp 31), type := 9, pos := "law.go:29", after := #[{ on := 3, ground := Go.Ground.data }], guard := none }) (v := ?_) rfl (by kernel_rfl) (by kernel_rfl) (by kernel_rfl) (fun _ _ _ h => h) (Or.inl ⟨by rfl, ?_⟩) (by assumption) ?_
  rotate_left
  · (intro W hSW; (try dsimp only at hSW); go_simp; first | done | with_reducible rfl)
  try simp only [Act.put, List.setIfInBounds_toArray, List.set_cons_zero, List.set_cons_succ]
  refine wpAnyH_take (i := 5) (oi := { dst := some 33, op := Go.Op.binOp Go.BinOp.neq 9 (Go.Operand.tmp 29) (Go.Operand.tmp 32) 9, type := 4, pos := "law.go:29", after := #[{ on := 1, ground := Go.Ground.data }, { on := 4, ground := Go.Ground.data }], guard := none }) (v := ?_) rfl (by kernel_rfl) (by kernel_rfl) (by kernel_rfl) (fun _ _ _ h => h) (Or.inl ⟨by rfl, ?_⟩) (by assumption) ?_
  rotate_left
  · (intro W hSW; (try dsimp only at hSW); go_simp; first | done | with_reducible rfl)
  try simp only [Act.put, List.setIfInBounds_toArray, List.set_cons_zero, List.set_cons_succ]
  refine wpAnyH_take (i := 6) (oi := { dst := some 34, op := Go.Op.move (Go.Operand.tmp 33), type := 4, pos := "law.go:29", after := #[{ on := 5, ground := Go.Ground.data }, { on := 3, ground := Go.Ground.chain }], guard := none }) (v := ?_) rfl (by kernel_rfl) (by kernel_rfl) (by kernel_rfl) (fun _ _ _ h => h) (Or.inl ⟨by rfl, ?_⟩) (by assumption) ?_
  rotate_left
  · (intro W hSW; (try dsimp only at hSW); go_simp; first | done | with_reducible rfl)
  try simp only [Act.put, List.setIfInBounds_toArray, List.set_cons_zero, List.set_cons_succ]
  refine wpAnyH_take (i := 7) (oi := { dst := some 35, op := Go.Op.move (Go.Operand.tmp 5), type := 28, pos := "law.go:29", after := #[{ on := 6, ground := Go.Ground.guard }], guard := some (6, false) }) (v := ?_) rfl (by kernel_rfl) (by kernel_rfl) (by kernel_rfl) (fun _ _ _ h => h) (Or.inl ⟨by rfl, ?_⟩) (by assumption) ?_
  rotate_left
  · (intro W hSW; (try dsimp only at hSW); go_simp; first | done | with_reducible rfl)
  try simp only [Act.put, List.setIfInBounds_toArray, List.set_cons_zero, List.set_cons_succ]
  refine wpAnyH_take (i := 8) (oi := { dst := some 36, op := Go.Op.binOp Go.BinOp.neq 28 (Go.Operand.tmp 35) (Go.Operand.const (Go.Value.int Go.IntKind.i64 0)) 28, type := 4, pos := "law.go:29", after := #[{ on := 7, ground := Go.Ground.data }, { on := 6, ground := Go.Ground.guard }], guard := some (6, false) }) (v := ?_) rfl (by kernel_rfl) (by kernel_rfl) (by kernel_rfl) (fun _ _ _ h => h) (Or.inl ⟨by rfl, ?_⟩) (by assumption) ?_
  rotate_left
  · (intro W hSW; (try dsimp only at hSW); go_simp; first | done | with_reducible rfl)
  try simp only [Act.put, List.setIfInBounds_toArray, List.set_cons_zero, List.set_cons_succ]
  refine wpAnyH_take (i := 9) (oi := { dst := some 37, op := Go.Op.pick (Go.Operand.tmp 34) (Go.Operand.const (Go.Value.bool true)) (Go.Operand.tmp 36), type := 4, pos := "law.go:29", after := #[{ on := 6, ground := Go.Ground.data }, { on := 8, ground := Go.Ground.data }], guard := none }) (v := ?_) rfl (by kernel_rfl) (by kernel_rfl) (by kernel_rfl) (fun _ _ _ h => h) (Or.inl ⟨by rfl, ?_⟩) (by assumption) ?_
  rotate_left
  · (intro W hSW; (try dsimp only at hSW); go_simp; first | done | with_reducible rfl)
  try simp only [Act.put, List.setIfInBounds_toArray, List.set_cons_zero, List.set_cons_succ]
  refine wpAnyH_take (i := 10) (oi := { dst := some 38, op := Go.Op.move (Go.Operand.tmp 37), type := 4, pos := "law.go:29", after := #[{ on := 9, ground := Go.Ground.data }, { on := 6, ground := Go.Ground.chain }], guard := none }) (v := ?_) rfl (by kernel_rfl) (by kernel_rfl) (by kernel_rfl) (fun _ _ _ h => h) (Or.inl ⟨by rfl, ?_⟩) (by assumption) ?_
  rotate_left
  · (intro W hSW; (try dsimp only at hSW); go_simp; first | done | with_reducible rfl)
  try simp only [Act.put, List.setIfInBounds_toArray, List.set_cons_zero, List.set_cons_succ]
  refine wpAnyH_take (i := 11) (oi := { dst := some 39, op := Go.Op.move (Go.Operand.tmp 4), type := 22, pos := "law.go:29", after := #[{ on := 10, ground := Go.Ground.guard }], guard := some (10, false) }) (v := ?_) rfl (by kernel_rfl) (by kernel_rfl) (by kernel_rfl) (fun _ _ _ h => h) (Or.inl ⟨by rfl, ?_⟩) (by assumption) ?_
  rotate_left
  · (intro W hSW; (try dsimp only at hSW); go_simp; first | done | with_reducible rfl)
  try simp only [Act.put, List.setIfInBounds_toArray, List.set_cons_zero, List.set_cons_succ]
  refine wpAnyH_take (i := 12) (oi := { dst := some 40, op := Go.Op.convert 22 9 (Go.Operand.tmp 39), type := 9, pos := "law.go:29", after := #[{ on := 11, ground := Go.Ground.data }, { on := 10, ground := Go.Ground.guard }], guard := some (10, false) }) (v := ?_) rfl (by kernel_rfl) (by kernel_rfl) (by kernel_rfl) (fun _ _ _ h => h) (Or.inl ⟨by rfl, ?_⟩) (by assumption) ?_
  rotate_left
  · (intro W hSW; (try dsimp only at hSW); go_simp; first | done | with_reducible rfl)
  try simp only [Act.put, List.setIfInBounds_toArray, List.set_cons_zero, List.set_cons_succ]
  refine wpAnyH_take (i := 13) (oi := { dst := some 41, op := Go.Op.move (Go.Operand.tmp 0), type := 22, pos := "law.go:29", after := #[{ on := 10, ground := Go.Ground.guard }], guard := some (10, false) }) (v := ?_) rfl (by kernel_rfl) (by kernel_rfl) (by kernel_rfl) (fun _ _ _ h => h) (Or.inl ⟨by rfl, ?_⟩) (by assumption) ?_
  rotate_left
  · (intro W hSW; (try dsimp only at hSW); go_simp; first | done | with_reducible rfl)
  try simp only [Act.put, List.setIfInBounds_toArray, List.set_cons_zero, List.set_cons_succ]
  refine wpAnyH_take (i := 14) (oi := { dst := some 42, op := Go.Op.convert 22 9 (Go.Operand.tmp 41), type := 9, pos := "law.go:29", after := #[{ on := 13, ground := Go.Ground.data }, { on := 10, ground := Go.Ground.guard }], guard := some (10, false) }) (v := ?_) rfl (by kernel_rfl) (by kernel_rfl) (by kernel_rfl) (fun _ _ _ h => h) (Or.inl ⟨by rfl, ?_⟩) (by assumption) ?_
  rotate_left
  · (intro W hSW; (try dsimp only at hSW); go_simp; first | done | with_reducible rfl)
  try simp only [Act.put, List.setIfInBounds_toArray, List.set_cons_zero, List.set_cons_succ]
  refine wpAnyH_take (i := 15) (oi := { dst := some 43, op := Go.Op.binOp Go.BinOp.neq 9 (Go.Operand.tmp 40) (Go.Operand.tmp 42) 9, type := 4, pos := "law.go:29", after := #[{ on := 12, ground := Go.Ground.data }, { on := 14, ground := Go.Ground.data }, { on := 10, ground := Go.Ground.guard }], guard := some (10, false) }) (v := ?_) rfl (by kernel_rfl) (by kernel_rfl) (by kernel_rfl) (fun _ _ _ h => h) (Or.inl ⟨by rfl, ?_⟩) (by assumption) ?_
  rotate_left
  · (intro W hSW; (try dsimp only at hSW); go_simp; first | done | with_reducible rfl)
  try simp only [Act.put, List.setIfInBounds_toArray, List.set_cons_zero, List.set_cons_succ]
  refine wpAnyH_take (i := 16) (oi := { dst := some 44, op := Go.Op.pick (Go.Operand.tmp 38) (Go.Operand.const (Go.Value.bool true)) (Go.Operand.tmp 43), type := 4, pos := "law.go:29", after := #[{ on := 10, ground := Go.Ground.data }, { on := 15, ground := Go.Ground.data }], guard := none }) (v := ?_) rfl (by kernel_rfl) (by kernel_rfl) (by kernel_rfl) (fun _ _ _ h => h) (Or.inl ⟨by rfl, ?_⟩) (by assumption) ?_
  rotate_left
  · (intro W hSW; (try dsimp only at hSW); go_simp; first | done | with_reducible rfl)
  try simp only [Act.put, List.setIfInBounds_toArray, List.set_cons_zero, List.set_cons_succ]
  refine wpAnyH_done (by kernel_rfl) ?_ _
  clear hHeld heq heq2
  have HB5 := Lib.hid (HB4.out.trans (HK5.out.mono HB4.out.size))
  have CP5 : Hid (∀ W, Below w5.heap.size w5 W → (convert 22 9 (.slice A p.length c)).run Tryd.prog W = .ok (.string (str p)) W) := fun W hW => conv_src c ((HS.out.old HB5.out).old hW)
  rcases HTold.out with ⟨h4, rfl, rfl⟩ | ⟨m, t, hp, ht4, hcase⟩
  · go_wp2
    go_ret
    exact ⟨rfl, HB5.out⟩
  · have hpl : p.length = m.length + 4 := by rw [hp, List.length_append, ht4]
    have hw4 : IntKind.i64.wrap ((p.length : Int) - 4) = (m.length : Int) := by rw [IntKind.wrap_i64]; omega
    have hn4 : ¬ p.length < 4 := by omega
    have hmc : (m.length : Int) ≤ (c : Int) := by omega
    have hm0 : (0 : Int) ≤ (m.length : Int) := by omega
    have hm300 : m.length ≤ 300 := by omega
    have SM : Hid (Src w5 A m) := by
      have := (HS.out.old HB5.out).take m.length
      rw [hp, List.take_append_of_le_length (Nat.le_refl _), List.take_length] at this
      exact this
    have HMy : Hid (∀ x ∈ m, x < 256) := fun x hx => HBy.out x (by rw [hp]; simp [hx])
    have Hm4 : Hid ((m ++ four (crc ones m)).length = m.length + 4) := by rw [List.length_append, four_len]; rfl
    have hbeq := str_beq (m ++ four (crc ones m)) p (sealed_lt m HMy.out _) HBy.out
    have HP := Lib.hid hp
    clear hpl ht4 hp
    rcases hcase with ⟨ht, rfl, A6, c6, rfl, ho6⟩ | ⟨ht, rfl, rfl⟩
    · have hyes : ((str (m ++ four (crc ones m))).toList == (str p).toList) = true := by
        rw [hbeq, HP.out, ht]; simp
      have O6 := Lib.hid ho6
      clear ho6 hbeq ht
      go_upto_region 10 with (fail)
      have hk0 : Below w5.heap.size w5 w5.drew := (Below.refl _ _).drew
      refine wp_region_held_drew (S := (fun W => Below w5.heap.size w5 W ∧ (convert 22 9 (.slice A p.length c)).run Tryd.prog W = .ok (.string (str p)) W)) (by kernel_rfl) ⟨hk0, CP5.out _ hk0⟩ (fun hHeld => ?_)
      clear hk0
      refine wpAnyH_take (i := 0) (oi := { dst := some 55, op := Go.Op.move (Go.Operand.tmp 0), type := 22, pos := "law.go:35", after := #[], guard := none }) (v := ?_) rfl (by kernel_rfl) (by kernel_rfl) (by kernel_rfl) (fun _ _ _ h => h) (Or.inl ⟨by rfl, ?_⟩) (by assumption) ?_
      rotate_left
      · (intro W hSW; (try dsimp only at hSW); go_simp; first | done | with_reducible rfl)
      try simp only [Act.put, List.setIfInBounds_toArray, List.set_cons_zero, List.set_cons_succ]
      refine wpAnyH_take (i := 1) (oi := { dst := some 56, op := Go.Op.move (Go.Operand.tmp 0), type := 22, pos := "law.go:35", after := #[], guard := none }) (v := ?_) rfl (by kernel_rfl) (by kernel_rfl) (by kernel_rfl) (fun _ _ _ h => h) (Or.inl ⟨by rfl, ?_⟩) (by assumption) ?_
      rotate_left
      · (intro W hSW; (try dsimp only at hSW); go_simp; first | done | with_reducible rfl)
      try simp only [Act.put, List.setIfInBounds_toArray, List.set_cons_zero, List.set_cons_succ]
      refine wpAnyH_take (i := 2) (oi := { dst := some 57, op := Go.Op.call { callee := Go.Callee.builtin Go.Builtin.len, args := #[Go.Operand.tmp 56], argTypes := #[22] }, type := 3, pos := "law.go:35", after := #[{ on := 1, ground := Go.Ground.data }], guard := none }) (v := ?_) rfl (by kernel_rfl) (by kernel_rfl) (by kernel_rfl) (fun _ _ _ h => h) (Or.inl ⟨by rfl, ?_⟩) (by assumption) ?_
      rotate_left
      · (intro W hSW; (try dsimp only at hSW); go_simp; first | done | with_reducible rfl)
      try simp only [Act.put, List.setIfInBounds_toArray, List.set_cons_zero, List.set_cons_succ]
      refine wpAnyH_take (i := 3) (oi := { dst := some 58, op := Go.Op.binOp Go.BinOp.sub 3 (Go.Operand.tmp 57) (Go.Operand.const (Go.Value.int Go.IntKind.i64 4)) 3, type := 3, pos := "law.go:35", after := #[{ on := 2, ground := Go.Ground.data }], guard := none }) (v := ?_) rfl (by kernel_rfl) (by kernel_rfl) (by kernel_rfl) (fun _ _ _ h => h) (Or.inl ⟨by rfl, ?_⟩) (by assumption) ?_
      rotate_left
      · (intro W hSW; (try dsimp only at hSW); go_simp; first | done | with_reducible rfl)
      try simp only [Act.put, List.setIfInBounds_toArray, List.set_cons_zero, List.set_cons_succ]
      refine wpAnyH_take (i := 4) (oi := { dst := some 59, op := Go.Op.slice 22 (Go.Operand.tmp 55) none (some (Go.Operand.tmp 58)) none, type := 22, pos := "law.go:35", after := #[{ on := 0, ground := Go.Ground.data }, { on := 3, ground := Go.Ground.data }], guard := none }) (v := ?_) rfl (by kernel_rfl) (by kernel_rfl) (by kernel_rfl) (fun _ _ _ h => h) (Or.inl ⟨by rfl, ?_⟩) (by assumption) ?_
      rotate_left
      · (intro W hSW; (try dsimp only at hSW); go_simp; first | done | with_reducible rfl)
      try simp only [Act.put, List.setIfInBounds_toArray, List.set_cons_zero, List.set_cons_succ]
      refine wpAnyH_take (i := 7) (oi := { dst := some 62, op := Go.Op.move (Go.Operand.tmp 0), type := 22, pos := "law.go:35", after := #[], guard := none }) (v := ?_) rfl (by kernel_rfl) (by kernel_rfl) (by kernel_rfl) (fun _ _ _ h => h) (Or.inl ⟨by rfl, ?_⟩) (by assumption) ?_
      rotate_left
      · (intro W hSW; (try dsimp only at hSW); go_simp; first | done | with_reducible rfl)
      try simp only [Act.put, List.setIfInBounds_toArray, List.set_cons_zero, List.set_cons_succ]
      refine wpAnyH_take (i := 8) (oi := { dst := some 63, op := Go.Op.convert 22 9 (Go.Operand.tmp 62), type := 9, pos := "law.go:35", after := #[{ on := 7, ground := Go.Ground.data }], guard := none }) (v := ?_) rfl (by kernel_rfl) (by kernel_rfl) (by kernel_rfl) (fun _ _ _ h => h) (Or.inl ⟨by rfl, ?_⟩) (by assumption) ?_
      rotate_left
      · (intro W hSW; (try dsimp only at hSW); go_simp; first | done | with_reducible rfl)
      try simp only [Act.put, List.setIfInBounds_toArray, List.set_cons_zero, List.set_cons_succ]
      refine wpAnyH_ready (rs := [5]) (by kernel_rfl) (by simp) ?_
      refine AllReadyH.cons (o := { dst := some 60, op := Go.Op.call { callee := Go.Callee.value (Go.Operand.func 14), args := #[Go.Operand.tmp 59], argTypes := #[22] }, type := 22, pos := "law.go:35", after := #[{ on := 4, ground := Go.Ground.data }], guard := none }) rfl (fun K hK => ?_) AllReadyH.nil
      go_simp
      refine (rseal_any _ _ _ _ (SM.out.old hHeld.1) (by omega) HMy.out).mono ?_
      rintro e w7 ⟨A7, c7, rfl, hown, hb⟩
      rw [Hm4.out] at hown ⊢
      have hk7 : Below w5.heap.size w5 w7 := hHeld.1.trans (hb.mono hHeld.1.size)
      have c7' := conv_own hown
      have HB7 := Lib.hid (HB5.out.trans (hk7.mono HB5.out.size))
      have HK7 := Lib.hid hk7
      refine hK.out _ _ ⟨hk7, CP5.out _ hk7⟩ (fun _ => ?_)
      clear hK K hHeld
      refine anyH_mono (S' := (fun W => Below w5.heap.size w5 W ∧ (convert 22 9 (.slice A p.length c)).run Tryd.prog W = .ok (.string (str p)) W ∧ (convert 22 9 (.slice A7 (m.length + 4) c7)).run Tryd.prog W = .ok (.string (str (m ++ four (crc ones m)))) W)) (fun _ h => ⟨h.1, h.2.1⟩) _ _ _ _ ?_
      have hHeld : (fun W => Below w5.heap.size w5 W ∧ (convert 22 9 (.slice A p.length c)).run Tryd.prog W = .ok (.string (str p)) W ∧ (convert 22 9 (.slice A7 (m.length + 4) c7)).run Tryd.prog W = .ok (.string (str (m ++ four (crc ones m)))) W) w7 := ⟨hk7, CP5.out _ hk7, c7'⟩
      clear c7' hown hb hk7
      refine wpAnyH_take (i := 6) (oi := { dst := some 61, op := Go.Op.convert 22 9 (Go.Operand.tmp 60), type := 9, pos := "law.go:35", after := #[{ on := 5, ground := Go.Ground.data }], guard := none }) (v := ?_) rfl (by kernel_rfl) (by kernel_rfl) (by kernel_rfl) (fun _ _ _ h => h) (Or.inl ⟨by rfl, ?_⟩) (by assumption) ?_
      rotate_left
      · (intro W hSW; (try dsimp only at hSW); go_simp; first | done | with_reducible rfl)
      try simp only [Act.put, List.setIfInBounds_toArray, List.set_cons_zero, List.set_cons_succ]
      refine wpAnyH_take (i := 9) (oi := { dst := some 64, op := Go.Op.binOp Go.BinOp.eql 9 (Go.Operand.tmp 61) (Go.Operand.tmp 63) 9, type := 4, pos := "law.go:35", after := #[{ on := 6, ground := Go.Ground.data }, { on := 8, ground := Go.Ground.data }], guard := none }) (v := ?_) rfl (by kernel_rfl) (by kernel_rfl) (by kernel_rfl) (fun _ _ _ h => h) (Or.inl ⟨by rfl, ?_⟩) (by assumption) ?_
      rotate_left
      · (intro W hSW; (try dsimp only at hSW); go_simp; first | done | with_reducible rfl)
      try simp only [Act.put, List.setIfInBounds_toArray, List.set_cons_zero, List.set_cons_succ]
      refine wpAnyH_done (by kernel_rfl) ?_ _
      clear hHeld
      have hkk : Below w7.heap.size w7 w7.drew := (Below.refl _ _).drew
      have heqm : ((str m).toList == (str m).toList) = true := by simp
      go_upto_region 11 with (fail)
      refine wp_region_held_drew (S := (fun W => (convert 22 9 (.slice A6 m.length c6)).run Tryd.prog W = .ok (.string (str m)) W ∧ (convert 22 9 (.slice A m.length c)).run Tryd.prog W = .ok (.string (str m)) W)) (by kernel_rfl) ⟨conv_own (own_old (own_old (own_old O6.out HK5.out) HK7.out) hkk), conv_src c ((SM.out.old HK7.out).old hkk)⟩ (fun hHeld => ?_)
      clear hkk
      refine wpAnyH_take (i := 0) (oi := { dst := some 65, op := Go.Op.move (Go.Operand.tmp 7), type := 28, pos := "law.go:36", after := #[], guard := none }) (v := ?_) rfl (by kernel_rfl) (by kernel_rfl) (by kernel_rfl) (fun _ _ _ h => h) (Or.inl ⟨by rfl, ?_⟩) (by assumption) ?_
      rotate_left
      · (intro W hSW; (try dsimp only at hSW); go_simp; first | done | with_reducible rfl)
      try simp only [Act.put, List.setIfInBounds_toArray, List.set_cons_zero, List.set_cons_succ]
      refine wpAnyH_take (i := 1) (oi := { dst := some 66, op := Go.Op.binOp Go.BinOp.eql 28 (Go.Operand.tmp 65) (Go.Operand.const (Go.Value.int Go.IntKind.i64 0)) 28, type := 4, pos := "law.go:36", after := #[{ on := 0, ground := Go.Ground.data }], guard := none }) (v := ?_) rfl (by kernel_rfl) (by kernel_rfl) (by kernel_rfl) (fun _ _ _ h => h) (Or.inl ⟨by rfl, ?_⟩) (by assumption) ?_
      rotate_left
      · (intro W hSW; (try dsimp only at hSW); go_simp; first | done | with_reducible rfl)
      try simp only [Act.put, List.setIfInBounds_toArray, List.set_cons_zero, List.set_cons_succ]
      refine wpAnyH_take (i := 2) (oi := { dst := some 67, op := Go.Op.move (Go.Operand.tmp 66), type := 4, pos := "law.go:36", after := #[{ on := 1, ground := Go.Ground.data }], guard := none }) (v := ?_) rfl (by kernel_rfl) (by kernel_rfl) (by kernel_rfl) (fun _ _ _ h => h) (Or.inl ⟨by rfl, ?_⟩) (by assumption) ?_
      rotate_left
      · (intro W hSW; (try dsimp only at hSW); go_simp; first | done | with_reducible rfl)
      try simp only [Act.put, List.setIfInBounds_toArray, List.set_cons_zero, List.set_cons_succ]
      refine wpAnyH_take (i := 3) (oi := { dst := some 68, op := Go.Op.move (Go.Operand.tmp 6), type := 22, pos := "law.go:36", after := #[{ on := 2, ground := Go.Ground.guard }], guard := some (2, true) }) (v := ?_) rfl (by kernel_rfl) (by kernel_rfl) (by kernel_rfl) (fun _ _ _ h => h) (Or.inl ⟨by rfl, ?_⟩) (by assumption) ?_
      rotate_left
      · (intro W hSW; (try dsimp only at hSW); go_simp; first | done | with_reducible rfl)
      try simp only [Act.put, List.setIfInBounds_toArray, List.set_cons_zero, List.set_cons_succ]
      refine wpAnyH_take (i := 4) (oi := { dst := some 69, op := Go.Op.convert 22 9 (Go.Operand.tmp 68), type := 9, pos := "law.go:36", after := #[{ on := 3, ground := Go.Ground.data }, { on := 2, ground := Go.Ground.guard }], guard := some (2, true) }) (v := ?_) rfl (by kernel_rfl) (by kernel_rfl) (by kernel_rfl) (fun _ _ _ h => h) (Or.inl ⟨by rfl, ?_⟩) (by assumption) ?_
      rotate_left
      · (intro W hSW; (try dsimp only at hSW); go_simp; first | done | with_reducible rfl)
      try simp only [Act.put, List.setIfInBounds_toArray, List.set_cons_zero, List.set_cons_succ]
      refine wpAnyH_take (i := 5) (oi := { dst := some 70, op := Go.Op.move (Go.Operand.tmp 0), type := 22, pos := "law.go:36", after := #[{ on := 2, ground := Go.Ground.guard }], guard := some (2, true) }) (v := ?_) rfl (by kernel_rfl) (by kernel_rfl) (by kernel_rfl) (fun _ _ _ h => h) (Or.inl ⟨by rfl, ?_⟩) (by assumption) ?_
      rotate_left
      · (intro W hSW; (try dsimp only at hSW); go_simp; first | done | with_reducible rfl)
      try simp only [Act.put, List.setIfInBounds_toArray, List.set_cons_zero, List.set_cons_succ]
      refine wpAnyH_take (i := 6) (oi := { dst := some 71, op := Go.Op.move (Go.Operand.tmp 0), type := 22, pos := "law.go:36", after := #[{ on := 2, ground := Go.Ground.guard }], guard := some (2, true) }) (v := ?_) rfl (by kernel_rfl) (by kernel_rfl) (by kernel_rfl) (fun _ _ _ h => h) (Or.inl ⟨by rfl, ?_⟩) (by assumption) ?_
      rotate_left
      · (intro W hSW; (try dsimp only at hSW); go_simp; first | done | with_reducible rfl)
      try simp only [Act.put, List.setIfInBounds_toArray, List.set_cons_zero, List.set_cons_succ]
      refine wpAnyH_take (i := 7) (oi := { dst := some 72, op := Go.Op.call { callee := Go.Callee.builtin Go.Builtin.len, args := #[Go.Operand.tmp 71], argTypes := #[22] }, type := 3, pos := "law.go:36", after := #[{ on := 6, ground := Go.Ground.data }, { on := 2, ground := Go.Ground.guard }], guard := some (2, true) }) (v := ?_) rfl (by kernel_rfl) (by kernel_rfl) (by kernel_rfl) (fun _ _ _ h => h) (Or.inl ⟨by rfl, ?_⟩) (by assumption) ?_
      rotate_left
      · (intro W hSW; (try dsimp only at hSW); go_simp; first | done | with_reducible rfl)
      try simp only [Act.put, List.setIfInBounds_toArray, List.set_cons_zero, List.set_cons_succ]
      refine wpAnyH_take (i := 8) (oi := { dst := some 73, op := Go.Op.binOp Go.BinOp.sub 3 (Go.Operand.tmp 72) (Go.Operand.const (Go.Value.int Go.IntKind.i64 4)) 3, type := 3, pos := "law.go:36", after := #[{ on := 7, ground := Go.Ground.data }, { on := 2, ground := Go.Ground.guard }], guard := some (2, true) }) (v := ?_) rfl (by kernel_rfl) (by kernel_rfl) (by kernel_rfl) (fun _ _ _ h => h) (Or.inl ⟨by rfl, ?_⟩) (by assumption) ?_
      rotate_left
      · (intro W hSW; (try dsimp only at hSW); go_simp; first | done | with_reducible rfl)
      try simp only [Act.put, List.setIfInBounds_toArray, List.set_cons_zero, List.set_cons_succ]
      refine wpAnyH_take (i := 9) (oi := { dst := some 74, op := Go.Op.slice 22 (Go.Operand.tmp 70) none (some (Go.Operand.tmp 73)) none, type := 22, pos := "law.go:36", after := #[{ on := 5, ground := Go.Ground.data }, { on := 8, ground := Go.Ground.data }, { on := 2, ground := Go.Ground.guard }], guard := some (2, true) }) (v := ?_) rfl (by kernel_rfl) (by kernel_rfl) (by kernel_rfl) (fun _ _ _ h => h) (Or.inl ⟨by rfl, ?_⟩) (by assumption) ?_
      rotate_left
      · (intro W hSW; (try dsimp only at hSW); go_simp; first | done | with_reducible rfl)
      try simp only [Act.put, List.setIfInBounds_toArray, List.set_cons_zero, List.set_cons_succ]
      refine wpAnyH_take (i := 10) (oi := { dst := some 75, op := Go.Op.convert 22 9 (Go.Operand.tmp 74), type := 9, pos := "law.go:36", after := #[{ on := 9, ground := Go.Ground.data }, { on := 2, ground := Go.Ground.guard }], guard := some (2, true) }) (v := ?_) rfl (by kernel_rfl) (by kernel_rfl) (by kernel_rfl) (fun _ _ _ h => h) (Or.inl ⟨by rfl, ?_⟩) (by assumption) ?_
      rotate_left
      · (intro W hSW; (try dsimp only at hSW); go_simp; first | done | with_reducible rfl)
      try simp only [Act.put, List.setIfInBounds_toArray, List.set_cons_zero, List.set_cons_succ]
      refine wpAnyH_take (i := 11) (oi := { dst := some 76, op := Go.Op.binOp Go.BinOp.eql 9 (Go.Operand.tmp 69) (Go.Operand.tmp 75) 9, type := 4, pos := "law.go:36", after := #[{ on := 4, ground := Go.Ground.data }, { on := 10, ground := Go.Ground.data }, { on := 2, ground := Go.Ground.guard }], guard := some (2, true) }) (v := ?_) rfl (by kernel_rfl) (by kernel_rfl) (by kernel_rfl) (fun _ _ _ h => h) (Or.inl ⟨by rfl, ?_⟩) (by assumption) ?_
      rotate_left
      · (intro W hSW; (try dsimp only at hSW); go_simp; first | done | with_reducible rfl)
      try simp only [Act.put, List.setIfInBounds_toArray, List.set_cons_zero, List.set_cons_succ]
      refine wpAnyH_take (i := 12) (oi := { dst := some 77, op := Go.Op.pick (Go.Operand.tmp 67) (Go.Operand.tmp 76) (Go.Operand.const (Go.Value.bool false)), type := 4, pos := "law.go:36", after := #[{ on := 2, ground := Go.Ground.data }, { on := 11, ground := Go.Ground.data }], guard := none }) (v := ?_) rfl (by kernel_rfl) (by kernel_rfl) (by kernel_rfl) (fun _ _ _ h => h) (Or.inl ⟨by rfl, ?_⟩) (by assumption) ?_
      rotate_left
      · (intro W hSW; (try dsimp only at hSW); go_simp; first | done | with_reducible rfl)
      try simp only [Act.put, List.setIfInBounds_toArray, List.set_cons_zero, List.set_cons_succ]
      refine wpAnyH_take (i := 13) (oi := { dst := some 2, op := Go.Op.assign (Go.Operand.tmp 77), type := 4, pos := "law.go:36", after := #[{ on := 12, ground := Go.Ground.data }, { on := 2, ground := Go.Ground.chain }, { on := 0, ground := Go.Ground.phase }, { on := 1, ground := Go.Ground.phase }, { on := 2, ground := Go.Ground.phase }, { on := 3, ground := Go.Ground.phase }, { on := 4, ground := Go.Ground.phase }, { on := 5, ground := Go.Ground.phase }, { on := 6, ground := Go.Ground.phase }, { on := 7, ground := Go.Ground.phase }, { on := 8, ground := Go.Ground.phase }, { on := 9, ground := Go.Ground.phase }, { on := 10, ground := Go.Ground.phase }, { on := 11, ground := Go.Ground.phase }, { on := 12, ground := Go.Ground.phase }], guard := none }) (v := ?_) rfl (by kernel_rfl) (by kernel_rfl) (by kernel_rfl) (fun _ _ _ h => h) (Or.inl ⟨by rfl, ?_⟩) (by assumption) ?_
      rotate_left
      · (intro W hSW; (try dsimp only at hSW); go_simp; first | done | with_reducible rfl)
      try simp only [Act.put, List.setIfInBounds_toArray, List.set_cons_zero, List.set_cons_succ]
      refine wpAnyH_done (by kernel_rfl) ?_ _
      clear hHeld
      go_wp2
      go_ret
      exact ⟨rfl, HB7.out.drew⟩
    · have hno : ((str (m ++ four (crc ones m))).toList == (str p).toList) = false := by
        rw [hbeq, HP.out]
        simp only [List.append_cancel_left_eq, decide_eq_false_iff_not]
        exact fun e => ht e.symm
      clear hbeq ht
      go_upto_region 10 with (fail)
      have hk0 : Below w5.heap.size w5 w5.drew := (Below.refl _ _).drew
      refine wp_region_held_drew (S := (fun W => Below w5.heap.size w5 W ∧ (convert 22 9 (.slice A p.length c)).run Tryd.prog W = .ok (.string (str p)) W)) (by kernel_rfl) ⟨hk0, CP5.out _ hk0⟩ (fun hHeld => ?_)
      clear hk0
      refine wpAnyH_take (i := 0) (oi := { dst := some 55, op := Go.Op.move (Go.Operand.tmp 0), type := 22, pos := "law.go:35", after := #[], guard := none }) (v := ?_) rfl (by kernel_rfl) (by kernel_rfl) (by kernel_rfl) (fun _ _ _ h => h) (Or.inl ⟨by rfl, ?_⟩) (by assumption) ?_
      rotate_left
      · (intro W hSW; (try dsimp only at hSW); go_simp; first | done | with_reducible rfl)
      try simp only [Act.put, List.setIfInBounds_toArray, List.set_cons_zero, List.set_cons_succ]
      refine wpAnyH_take (i := 1) (oi := { dst := some 56, op := Go.Op.move (Go.Operand.tmp 0), type := 22, pos := "law.go:35", after := #[], guard := none }) (v := ?_) rfl (by kernel_rfl) (by kernel_rfl) (by kernel_rfl) (fun _ _ _ h => h) (Or.inl ⟨by rfl, ?_⟩) (by assumption) ?_
      rotate_left
      · (intro W hSW; (try dsimp only at hSW); go_simp; first | done | with_reducible rfl)
      try simp only [Act.put, List.setIfInBounds_toArray, List.set_cons_zero, List.set_cons_succ]
      refine wpAnyH_take (i := 2) (oi := { dst := some 57, op := Go.Op.call { callee := Go.Callee.builtin Go.Builtin.len, args := #[Go.Operand.tmp 56], argTypes := #[22] }, type := 3, pos := "law.go:35", after := #[{ on := 1, ground := Go.Ground.data }], guard := none }) (v := ?_) rfl (by kernel_rfl) (by kernel_rfl) (by kernel_rfl) (fun _ _ _ h => h) (Or.inl ⟨by rfl, ?_⟩) (by assumption) ?_
      rotate_left
      · (intro W hSW; (try dsimp only at hSW); go_simp; first | done | with_reducible rfl)
      try simp only [Act.put, List.setIfInBounds_toArray, List.set_cons_zero, List.set_cons_succ]
      refine wpAnyH_take (i := 3) (oi := { dst := some 58, op := Go.Op.binOp Go.BinOp.sub 3 (Go.Operand.tmp 57) (Go.Operand.const (Go.Value.int Go.IntKind.i64 4)) 3, type := 3, pos := "law.go:35", after := #[{ on := 2, ground := Go.Ground.data }], guard := none }) (v := ?_) rfl (by kernel_rfl) (by kernel_rfl) (by kernel_rfl) (fun _ _ _ h => h) (Or.inl ⟨by rfl, ?_⟩) (by assumption) ?_
      rotate_left
      · (intro W hSW; (try dsimp only at hSW); go_simp; first | done | with_reducible rfl)
      try simp only [Act.put, List.setIfInBounds_toArray, List.set_cons_zero, List.set_cons_succ]
      refine wpAnyH_take (i := 4) (oi := { dst := some 59, op := Go.Op.slice 22 (Go.Operand.tmp 55) none (some (Go.Operand.tmp 58)) none, type := 22, pos := "law.go:35", after := #[{ on := 0, ground := Go.Ground.data }, { on := 3, ground := Go.Ground.data }], guard := none }) (v := ?_) rfl (by kernel_rfl) (by kernel_rfl) (by kernel_rfl) (fun _ _ _ h => h) (Or.inl ⟨by rfl, ?_⟩) (by assumption) ?_
      rotate_left
      · (intro W hSW; (try dsimp only at hSW); go_simp; first | done | with_reducible rfl)
      try simp only [Act.put, List.setIfInBounds_toArray, List.set_cons_zero, List.set_cons_succ]
      refine wpAnyH_take (i := 7) (oi := { dst := some 62, op := Go.Op.move (Go.Operand.tmp 0), type := 22, pos := "law.go:35", after := #[], guard := none }) (v := ?_) rfl (by kernel_rfl) (by kernel_rfl) (by kernel_rfl) (fun _ _ _ h => h) (Or.inl ⟨by rfl, ?_⟩) (by assumption) ?_
      rotate_left
      · (intro W hSW; (try dsimp only at hSW); go_simp; first | done | with_reducible rfl)
      try simp only [Act.put, List.setIfInBounds_toArray, List.set_cons_zero, List.set_cons_succ]
      refine wpAnyH_take (i := 8) (oi := { dst := some 63, op := Go.Op.convert 22 9 (Go.Operand.tmp 62), type := 9, pos := "law.go:35", after := #[{ on := 7, ground := Go.Ground.data }], guard := none }) (v := ?_) rfl (by kernel_rfl) (by kernel_rfl) (by kernel_rfl) (fun _ _ _ h => h) (Or.inl ⟨by rfl, ?_⟩) (by assumption) ?_
      rotate_left
      · (intro W hSW; (try dsimp only at hSW); go_simp; first | done | with_reducible rfl)
      try simp only [Act.put, List.setIfInBounds_toArray, List.set_cons_zero, List.set_cons_succ]
      refine wpAnyH_ready (rs := [5]) (by kernel_rfl) (by simp) ?_
      refine AllReadyH.cons (o := { dst := some 60, op := Go.Op.call { callee := Go.Callee.value (Go.Operand.func 14), args := #[Go.Operand.tmp 59], argTypes := #[22] }, type := 22, pos := "law.go:35", after := #[{ on := 4, ground := Go.Ground.data }], guard := none }) rfl (fun K hK => ?_) AllReadyH.nil
      go_simp
      refine (rseal_any _ _ _ _ (SM.out.old hHeld.1) (by omega) HMy.out).mono ?_
      rintro e w7 ⟨A7, c7, rfl, hown, hb⟩
      rw [Hm4.out] at hown ⊢
      have hk7 : Below w5.heap.size w5 w7 := hHeld.1.trans (hb.mono hHeld.1.size)
      have c7' := conv_own hown
      have HB7 := Lib.hid (HB5.out.trans (hk7.mono HB5.out.size))
      have HK7 := Lib.hid hk7
      refine hK.out _ _ ⟨hk7, CP5.out _ hk7⟩ (fun _ => ?_)
      clear hK K hHeld
      refine anyH_mono (S' := (fun W => Below w5.heap.size w5 W ∧ (convert 22 9 (.slice A p.length c)).run Tryd.prog W = .ok (.string (str p)) W ∧ (convert 22 9 (.slice A7 (m.length + 4) c7)).run Tryd.prog W = .ok (.string (str (m ++ four (crc ones m)))) W)) (fun _ h => ⟨h.1, h.2.1⟩) _ _ _ _ ?_
      have hHeld : (fun W => Below w5.heap.size w5 W ∧ (convert 22 9 (.slice A p.length c)).run Tryd.prog W = .ok (.string (str p)) W ∧ (convert 22 9 (.slice A7 (m.length + 4) c7)).run Tryd.prog W = .ok (.string (str (m ++ four (crc ones m)))) W) w7 := ⟨hk7, CP5.out _ hk7, c7'⟩
      clear c7' hown hb hk7
      refine wpAnyH_take (i := 6) (oi := { dst := some 61, op := Go.Op.convert 22 9 (Go.Operand.tmp 60), type := 9, pos := "law.go:35", after := #[{ on := 5, ground := Go.Ground.data }], guard := none }) (v := ?_) rfl (by kernel_rfl) (by kernel_rfl) (by kernel_rfl) (fun _ _ _ h => h) (Or.inl ⟨by rfl, ?_⟩) (by assumption) ?_
      rotate_left
      · (intro W hSW; (try dsimp only at hSW); go_simp; first | done | with_reducible rfl)
      try simp only [Act.put, List.setIfInBounds_toArray, List.set_cons_zero, List.set_cons_succ]
      refine wpAnyH_take (i := 9) (oi := { dst := some 64, op := Go.Op.binOp Go.BinOp.eql 9 (Go.Operand.tmp 61) (Go.Operand.tmp 63) 9, type := 4, pos := "law.go:35", after := #[{ on := 6, ground := Go.Ground.data }, { on := 8, ground := Go.Ground.data }], guard := none }) (v := ?_) rfl (by kernel_rfl) (by kernel_rfl) (by kernel_rfl) (fun _ _ _ h => h) (Or.inl ⟨by rfl, ?_⟩) (by assumption) ?_
      rotate_left
      · (intro W hSW; (try dsimp only at hSW); go_simp; first | done | with_reducible rfl)
      try simp only [Act.put, List.setIfInBounds_toArray, List.set_cons_zero, List.set_cons_succ]
      refine wpAnyH_done (by kernel_rfl) ?_ _
      clear hHeld
      go_wp2
      go_ret
      exact ⟨rfl, HB7.out⟩

theorem walk (a0 : Option Addr) (len0 cap0 : Nat) (z0 : List Int) (w : World) (w0 : IsRow .u8 w a0 len0 cap0 z0) (hT : Tab w) :
    Calls Tryd.prog 4 #[.slice a0 len0 cap0] w fun e w' => e = .returned (.bool true) ∧ Below w.heap.size w w' := by
  obtain ⟨p, rfl, s0, b0, c0, z0⟩ := src_of_row w0
  by_cases h : 300 < p.length
  · exact walk_far _ _ _ _ hT h
  · exact walk_near _ p _ w hT s0 b0 (by omega) (by omega)

theorem contract (H : Type) (enc : TypeId × Value → H) (W : World) (base : Nat) (args : Array Value) (ds gs : List (DataW H)) (before : List MemPlace)
    (hval : ∀ (j : Nat) t v, Tryd.f4.params[j]? = some t → args[j]? = some v → Value.okWide Tryd.prog W .any base t v)
    (hW : DataW.Whole enc Tryd.prog Tryd.f4.params.toList Rows.sumSealsSpec.vars false W args.toList ds gs before) (hL : laidMetH Tryd.prog Rows.sumSealsRow.laid W) :
    Calls Tryd.prog 4 args W fun e W' => ∃ v, e = .returned v ∧ Rows.sumSealsSpec.post enc Tryd.prog Tryd.f4 false true false false W args v W' := by
  have hW' := hW
  obtain ⟨p, q, hA0, hV, rfl, hfz, hnd⟩ := hW
  have hA : DataW.TrodAll enc Tryd.prog W 0 (fun _ => true) true Tryd.f4.params.toList args.toList ds p := hA0
  rw [Tryd.params4] at hA hval
  obtain ⟨v0, vs0, d0, ds0, p0, q0, hargs, rfl, rfl, h0, r0⟩ := trodAll_cons hA
  obtain ⟨rfl, rfl, rfl⟩ := trodAll_nil r0
  obtain rfl : args = #[v0] := by cases args; simp_all
  obtain ⟨rfl, rfl⟩ := trodVars_none hV
  obtain ⟨a0, len0, cap0, rfl⟩ := okWide_slice Tryd.underlying22 (hval 0 22 v0 rfl rfl)
  have k0 := h0
  have lt0 : ∀ x ∈ p0, x.block < W.heap.size := by obtain ⟨m, hm⟩ := k0; exact DataW.trod_lt m _ _ _ hm
  obtain ⟨z0, w0⟩ : ∃ zs, IsRow .u8 W a0 len0 cap0 zs := by
    obtain ⟨fuel, hf⟩ := h0
    rcases open_ints Tryd.underlying22 Tryd.underlying5 (by kernel_rfl) hf with ⟨hcs, _⟩ | ⟨x, l, c, zs, hcs, _, hl, hm, hz, _, hcell, hwz⟩
    · simp [Value.cells] at hcs
      obtain ⟨rfl, rfl, rfl⟩ := hcs
      exact ⟨[], .inl ⟨rfl, rfl, rfl, rfl⟩⟩
    · simp [Value.cells] at hcs
      obtain ⟨rfl, rfl, rfl⟩ := hcs
      exact ⟨zs, .inr ⟨_, rfl, hl, hm, by simpa using hz, hcell, hwz⟩⟩
  clear hA0
  refine (walk a0 len0 cap0 z0 W w0 (tab_of hL)).mono fun e W' ⟨he, bel⟩ => ?_
  subst he
  exact ⟨_, rfl, _, _, _, [], _, [], hW', trodAll_mk1 (shut_bool Tryd.underlying4 _), (trodAll_cons_mk (Below.trod laidOut (by kernel_rfl) (of_decide_eq_true (by kernel_rfl)) k0 bel lt0) trodAll_mk0), rfl, bel.frame _, fun h => by cases h⟩


noncomputable def laidWorld (os : Os) : World :=
  { World.holding Tryd.prog os ⟨#[], #[], []⟩ with heap := (World.holding Tryd.prog os ⟨#[], #[], []⟩).heap.modify 0 fun
      | .cells _ t frozen => .cells #[.int .u32 0, .int .u32 79764919, .int .u32 159529838, .int .u32 222504665, .int .u32 319059676, .int .u32 398814059, .int .u32 445009330, .int .u32 507990021, .int .u32 638119352, .int .u32 583659535, .int .u32 797628118, .int .u32 726387553, .int .u32 890018660, .int .u32 835552979, .int .u32 1015980042, .int .u32 944750013] t frozen
      | o => o }
theorem laid_met (os : Os) : laidMet Tryd.prog Rows.sumSealsRow.laid ((laidWorld os).forCall (fun _ _ => 0) ⟨#[], #[.slice none 0 0], []⟩).memory :=
  laidMet_of_run' 8 (by kernel_rfl) (by kernel_rfl)
theorem reads (os : Os) {H : Type} (enc : TypeId × Value → H) : ∃ places, DataW.whole enc Tryd.prog ((laidWorld os).forCall (fun _ _ => 0) ⟨#[], #[.slice none 0 0], []⟩).memory Tryd.f4.params.toList Rows.sumSealsSpec.vars false (#[.slice none 0 0] : Array Value).toList 8 = some ([.nil], [], places) :=
  ⟨[], by kernel_rfl⟩

set_option maxRecDepth 100000 in
theorem lifted (os : Os) (started : os.Started) (H : Type) (enc : TypeId × Value → H) (F : Stop.Interp) :
    ReturnsInHanded {} Tryd.checked os 4 .any ((OpenSpec.ofChange Rows.sumSealsSpec).preRow enc Tryd.prog Tryd.f4 Rows.sumSealsRow.domain false Rows.sumSealsRow.laid) (((OpenSpec.ofChange Rows.sumSealsSpec).at F).post enc Tryd.prog Tryd.f4 false true false false) := by
  obtain ⟨places, hx⟩ := reads os enc
  refine returnsInHanded_of_row (C := Tryd.checked) (s := OpenSpec.ofChange Rows.sumSealsSpec) own started (by kernel_rfl) Tryd.func4
    (witness_row_at (enc := enc) (C := Tryd.checked) false (laidWorld os) #[.slice none 0 0] rfl (by kernel_rfl) (by kernel_rfl) (by kernel_rfl)
      (OpenSpec.preRow_of_cond 8 hx (by kernel_rfl) (fun k hk => by cases hk) (by kernel_rfl) (laid_met os))) ?_
  intro W base args ds gs before hval hW _ _ _ hL _ _
  exact contract H enc W base args ds gs before hval hW hL

theorem said : Rows.SumSealsSaid :=
  OpenClaim.holds_of_cond 4 Tryd.f4 rfl rfl rfl rfl rfl rfl rfl ⟨rfl, rfl, rfl, rfl, rfl⟩ rfl rfl rfl rfl rfl (by kernel_rfl) Tryd.func4 (by kernel_rfl)
    (of_decide_eq_true (by kernel_rfl)) (by unfold Func.isWrapper; first | (rw [if_pos (by decide +kernel)]; kernel_rfl) | (rw [if_neg (by decide +kernel)]; exact ⟨rfl, rfl⟩))
    (fun os started H enc _ F => by rw [OpenClaim.pre_eq_preRow]; exact lifted os started H enc F)

theorem plain (f : FuncId) (fn : Func) (hf : Tryd.pinned.checked.prog.funcNamed "weathervane/weathervanelaw02.SumSeals" = some f) (hfn : Tryd.pinned.checked.prog.funcs[f]? = some fn) :
    false = Tryd.pinned.checked.prog.looks [] ∧ ∀ (j : Nat) t, fn.params[j]? = some t → Tryd.pinned.checked.prog.wantsStandIn t = false := by
  obtain rfl : f = 4 := Option.some.inj ((show Tryd.prog.funcNamed "weathervane/weathervanelaw02.SumSeals" = some 4 by kernel_rfl).symm.trans hf) |>.symm
  obtain rfl : fn = Tryd.f4 := (Option.some.inj (Tryd.func4.symm.trans hfn)).symm
  refine ⟨by kernel_rfl, fun j t ht => ?_⟩
  rw [Tryd.params4] at ht
  have ht2 : t = 22 := by simpa using Array.mem_of_getElem? ht
  subst ht2
  exact (show Tryd.prog.wantsStandIn 22 = false by kernel_rfl)
end Go.Proofs.YtfdnlbmaceafhaaDoor.sumSeals
namespace Go.Proofs.YtfdnlbmaceafhaaDoor
theorem sumSeals_holds : Rows.SumSealsCardSaid :=
  Claim7.holds_tied_plain_at .later [] _ _ _ _ sumSeals.said (fun _ h => by cases h) (by kernel_rfl) (fun _ h => by cases h) sumSeals_row_tie rfl ⟨rfl, rfl⟩ (by kernel_rfl) rfl sumSeals.plain (by kernel_rfl)
#print axioms sumSeals_holds
end Go.Proofs.YtfdnlbmaceafhaaDoor
