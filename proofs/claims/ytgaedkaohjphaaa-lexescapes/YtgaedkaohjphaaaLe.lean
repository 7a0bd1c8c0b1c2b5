/-
  Lex: names, bare and in quotes.
-/
import Derived.Test.YtgaedkaohjphaaaLd
import Derived.Deep.QuietTactic
import Derived.BigQuiet
import Derived.Deep.RegionWith
import Derived.Deep.DeepCutAuto
import Derived.Deep.CutBlock
namespace Go.Proofs.Ytgaedkaohjphaaa
open Go.RowKit
set_option linter.unusedVariables false
set_option linter.unusedSimpArgs false
set_option maxRecDepth 20000

theorem quiet_left {P : Program} {f : FuncId} {args : Array Value} {w : World} {n : Nat} {v : Value}
    (h : Calls P f args (w.drewN n) fun e w' => e = .returned v ∧ w.drewN n = w') : Calls P f args (w.drewN n) fun e w' => e = .returned v ∧ ∃ m, w' = w.drewN m :=
  h.mono fun e w' h => ⟨h.1, n, h.2.symm⟩
def digs : List UInt8 := [48, 49, 50, 51, 52, 53, 54, 55, 56, 57, 97, 98, 99, 100, 101, 102]
theorem dig_any (x : Int) (w : World) : Calls Try.prog 35 #[.string ⟨#[48, 49, 50, 51, 52, 53, 54, 55, 56, 57, 97, 98, 99, 100, 101, 102]⟩, .int .u8 x] w fun e w' => e = .returned (.int .i64 (Lib.indexByte digs x.toNat.toUInt8)) ∧ w = w' :=
  (Try.strings_IndexByte _ x w).mono fun e w' h => ⟨h.1, h.2.symm⟩
theorem dig_lt (x : UInt8) : -1 ≤ Lib.indexByte digs x ∧ Lib.indexByte digs x < 16 := by
  have h1 := Lib.indexByte_ge digs x
  have h2 := indexByte_fits digs x
  have h3 : digs.length = 16 := rfl
  rcases h2 with h | ⟨h, _⟩
  · omega
  · simp [digs] at h
theorem or16 : ∀ a : Nat, a < 16 → ∀ b : Nat, b < 16 → bits BinOp.or IntKind.i64 ((a : Int) * 16) (b : Int) = (a : Int) * 16 + (b : Int) := by decide
/-- The byte that is told at the beginning of what stands in quotes, and by how many; by 0: none. -/
def qbF (p : List UInt8) : UInt8 × Nat :=
  if (p.headD 0).toNat ≠ 92 ∧ seenF ((p.headD 0).toNat : Int) = true then (p.headD 0, 1)
  else if [92, 34].isPrefixOf p = true ∨ [92, 92].isPrefixOf p = true then (p.getD 1 0, 2)
  else if [92, 120].isPrefixOf p = true ∧ 4 ≤ p.length then
    (if 0 ≤ Lib.indexByte digs (p.getD 2 0) ∧ 0 ≤ Lib.indexByte digs (p.getD 3 0) then (UInt8.ofNat ((Lib.indexByte digs (p.getD 2 0)).toNat * 16 + (Lib.indexByte digs (p.getD 3 0)).toNat), 4) else (0, 0))
  else (0, 0)
set_option maxHeartbeats 2000000 in
theorem qb_any (b o n c : Nat) (p : List UInt8) (w : World) (h : Src w (some ⟨b, o, none⟩) n p) (hc : n ≤ c) (hn : n ≤ 1000000000) (hp : 0 < n) :
    Calls Try.prog 59 #[.slice (some ⟨b, o, none⟩) n c] w fun e w' => e = .returned (.tuple #[.int .u8 ((qbF p).1.toNat : Int), .int .i64 ((qbF p).2 : Int)]) ∧ Below w.heap.size w w' := by
  obtain ⟨v, hv⟩ : ∃ v, v = qbF p := ⟨_, rfl⟩
  rw [← hv]
  unfold qbF at hv
  have H := Lib.hid h
  have hl : p.length = n := h.1
  obtain ⟨x, l, rfl⟩ : ∃ x l, p = x :: l := by cases p with | nil => simp at hl; omega | cons x l => exact ⟨x, l, rfl⟩
  have hcells : ∀ i (hi : i < (x :: l).length), w.cell? ⟨b, o + i, none⟩ = some (.int .u8 (((x :: l)[i]).toNat : Int)) := by
    obtain ⟨b', o', hA, hcc⟩ := h.2 hp
    injection hA with hA
    injection hA with h1 h2
    subst h1; subst h2
    exact hcc
  have e0 := hcells 0 (by simp)
  simp only [Nat.add_zero, List.getElem_cons_zero] at e0
  change v = if x.toNat ≠ 92 ∧ seenF (x.toNat : Int) = true then (x, 1) else _ at hv
  have HL := Lib.hid hl
  have HV := Lib.hid hv
  have HC := Lib.hid hcells
  have hS := seen_any (x.toNat : Int) w
  clear hcells h hl hv
  have hbr : ∀ (s : List UInt8) wx, Below w.heap.size w wx → Calls Try.prog 46 #[.slice (some ⟨b, o, none⟩) n c, .string (bs s)] wx fun e w' => e = .returned (.bool (s.isPrefixOf (x :: l))) ∧ Below wx.heap.size wx w' := fun s wx hx => begins_any (some ⟨b, o, none⟩) n c (x :: l) s wx (H.out.old hx) hc
  have HBr := Lib.hid hbr
  clear hbr
  have hq : ∀ j, j < n → w.cell? ⟨b, o + j, none⟩ = some (.int .u8 (((x :: l).getD j 0).toNat : Int)) := fun j hj => by
    have hjl : j < (x :: l).length := by rw [HL.out]; exact hj
    rw [HC.out j hjl, List.getD_eq_getElem?_getD, List.getElem?_eq_getElem hjl]; rfl
  have HQ := Lib.hid hq
  have hlen : ∀ u, [92, u].isPrefixOf (x :: l) = true → 2 ≤ n := fun u hu => by
    have h1 := (List.isPrefixOf_iff_prefix.1 hu).length_le
    have h2 := HL.out
    simp only [List.length_cons, List.length_nil] at h1 h2
    omega
  have l1 := hlen 34
  have l2 := hlen 92
  have l3 := hlen 120
  have B1 := fun wx hx => HBr.out [92, 34] wx hx
  have B2 := fun wx hx => HBr.out [92, 92] wx hx
  have B3 := fun wx hx => HBr.out [92, 120] wx hx
  rw [show bs [92, 34] = ⟨#[92, 34]⟩ from rfl] at B1
  rw [show bs [92, 92] = ⟨#[92, 92]⟩ from rfl] at B2
  rw [show bs [92, 120] = ⟨#[92, 120]⟩ from rfl] at B3
  have hv2 := HV.out
  rw [HL.out] at hv2
  generalize [92, 34].isPrefixOf (x :: l) = b1 at *
  generalize [92, 92].isPrefixOf (x :: l) = b2 at *
  generalize [92, 120].isPrefixOf (x :: l) = b3 at *
  have q1 := hq 1
  have q2 := hq 2
  have q3 := hq 3
  generalize (x :: l).getD 1 0 = x1 at *
  generalize (x :: l).getD 2 0 = x2 at *
  generalize (x :: l).getD 3 0 = x3 at *
  have Q1 := Lib.hid q1
  have Q2 := Lib.hid q2
  have Q3 := Lib.hid q3
  have B1 := Lib.hid B1
  have B2 := Lib.hid B2
  have B3 := Lib.hid B3
  have HL1 := Lib.hid l1
  have HL2 := Lib.hid l2
  have HL3 := Lib.hid l3
  have HV := Lib.hid hv2
  clear hq q1 q2 q3 l1 l2 l3 hlen hv2 HBr HC HQ H
  go_enter Try.func59, Try.ntmps59
  by_cases h92 : x.toNat = 92
  · have HV2 : Hid (v = if b1 = true ∨ b2 = true then (x1, 2) else if b3 = true ∧ 4 ≤ n then (if 0 ≤ Lib.indexByte digs x2 ∧ 0 ≤ Lib.indexByte digs x3 then (UInt8.ofNat ((Lib.indexByte digs x2).toNat * 16 + (Lib.indexByte digs x3).toNat), 4) else (0, 0)) else (0, 0)) := by
      show _ = _
      have := HV.out
      rwa [if_neg (fun h => h.1 h92)] at this
    have h92b : (((x.toNat : Nat) : Int) == 92) = true := by simp; omega
    clear HV
    go_wp2_with fail
    refine (B1.out w (Below.refl _ _)).mono ?_
    rintro e w1 ⟨rfl, hb1⟩
    have HB1 := Lib.hid hb1
    clear hb1
    cases b1 with
    | true =>
      have hn2 := HL1.out rfl
      have e1 : w1.cell? ⟨b, o + 1, none⟩ = some (.int .u8 (x1.toNat : Int)) := cell_old HB1.out (World.block_lt_of_cell? w _ (Q1.out (by omega))) (Q1.out (by omega))
      have hlt1 : (1 : Int) < (n : Int) := by omega
      obtain rfl : v = (x1, 2) := by have := HV2.out; simpa using this
      clear HV2
      go_wp2
      go_ret2
      exact ⟨rfl, HB1.out⟩
    | false =>
      go_wp2_with fail
      refine (B2.out w1 HB1.out).mono ?_
      rintro e w2 ⟨rfl, hb2⟩
      have HB2 := Lib.hid (HB1.out.trans (hb2.mono HB1.out.size))
      clear hb2
      cases b2 with
      | true =>
        have hn2 := HL2.out rfl
        have e1 : w2.cell? ⟨b, o + 1, none⟩ = some (.int .u8 (x1.toNat : Int)) := cell_old HB2.out (World.block_lt_of_cell? w _ (Q1.out (by omega))) (Q1.out (by omega))
        have hlt1 : (1 : Int) < (n : Int) := by omega
        obtain rfl : v = (x1, 2) := by have := HV2.out; simpa using this
        clear HV2
        go_wp2
        go_ret2
        exact ⟨rfl, HB2.out⟩
      | false =>
        go_wp2_with fail
        refine (B3.out w2 HB2.out).mono ?_
        rintro e w3 ⟨rfl, hb3⟩
        have HB3 := Lib.hid (HB2.out.trans (hb3.mono HB2.out.size))
        clear hb3
        cases b3 with
        | false =>
          obtain rfl : v = (0, 0) := by have := HV2.out; simpa using this
          clear HV2
          go_wp2
          go_ret2
          exact ⟨rfl, HB3.out⟩
        | true =>
          by_cases h4 : 4 ≤ n
          · have h4i : (4 : Int) ≤ (n : Int) := by omega
            have hlt2 : (2 : Int) < (n : Int) := by omega
            have hlt3 : (3 : Int) < (n : Int) := by omega
            have e2 : w3.cell? ⟨b, o + 2, none⟩ = some (.int .u8 (x2.toNat : Int)) := cell_old HB3.out (World.block_lt_of_cell? w _ (Q2.out (by omega))) (Q2.out (by omega))
            have e3 : w3.cell? ⟨b, o + 3, none⟩ = some (.int .u8 (x3.toNat : Int)) := cell_old HB3.out (World.block_lt_of_cell? w _ (Q3.out (by omega))) (Q3.out (by omega))
            have HV3 : Hid (v = if 0 ≤ Lib.indexByte digs x2 ∧ 0 ≤ Lib.indexByte digs x3 then (UInt8.ofNat ((Lib.indexByte digs x2).toNat * 16 + (Lib.indexByte digs x3).toNat), 4) else (0, 0)) := by show _ = _; have := HV2.out; simpa [h4] using this
            have D2 := fun wx => dig_any (x2.toNat : Int) wx
            have D3 := fun wx => dig_any (x3.toNat : Int) wx
            rw [show ((x2.toNat : Int).toNat.toUInt8) = x2 from by simp] at D2
            rw [show ((x3.toNat : Int).toNat.toUInt8) = x3 from by simp] at D3
            have r2 := dig_lt x2
            have r3 := dig_lt x3
            generalize Lib.indexByte digs x2 = k2 at *
            generalize Lib.indexByte digs x3 = k3 at *
            have D2 := Lib.hid D2
            have D3 := Lib.hid D3
            clear HV2
            go_upto_region 7 with (fail)
            go_quiet ((go_at_call 35; first | exact quiet_left (D2.out _) | exact quiet_left (D3.out _)))
            have HB4 := Lib.hid (HB3.out.trans ((below_dn _ w3 nq).mono HB3.out.size))
            by_cases hk2 : 0 ≤ k2
            · by_cases hk3 : 0 ≤ k3
              · have hv3 := HV3.out
                rw [if_pos ⟨hk2, hk3⟩] at hv3
                obtain ⟨m2, rfl⟩ : ∃ m : Nat, k2 = m := ⟨k2.toNat, by omega⟩
                obtain ⟨m3, rfl⟩ : ∃ m : Nat, k3 = m := ⟨k3.toNat, by omega⟩
                subst hv3
                clear HV3
                go_wp2
                rw [or16 m2 (by omega) m3 (by omega)]
                go_ret2
                exact ⟨rfl, HB4.out⟩
              · obtain rfl : v = (0, 0) := by have := HV3.out; rwa [if_neg (fun h => hk3 h.2)] at this
                clear HV3
                go_wp2
                go_ret2
                exact ⟨rfl, HB4.out⟩
            · obtain rfl : v = (0, 0) := by have := HV3.out; rwa [if_neg (fun h => hk2 h.1)] at this
              clear HV3
              go_wp2
              go_ret2
              exact ⟨rfl, HB4.out⟩
          · have h4i : ¬ (4 : Int) ≤ (n : Int) := by omega
            obtain rfl : v = (0, 0) := by have := HV2.out; simpa [h4] using this
            clear HV2
            go_wp2
            go_ret2
            exact ⟨rfl, HB3.out⟩
  · have h92b : (((x.toNat : Nat) : Int) == 92) = false := by simp; omega
    go_wp2_with fail
    refine hS.mono ?_
    rintro e w0 ⟨rfl, rfl⟩
    cases hse : seenF (x.toNat : Int) with
    | true =>
      obtain rfl : v = (x, 1) := by have := HV.out; rwa [if_pos ⟨h92, hse⟩] at this
      clear HV hse
      go_wp2
      go_ret2
      exact ⟨rfl, Below.refl _ _⟩
    | false =>
      have HV2 : Hid (v = if b1 = true ∨ b2 = true then (x1, 2) else if b3 = true ∧ 4 ≤ n then (if 0 ≤ Lib.indexByte digs x2 ∧ 0 ≤ Lib.indexByte digs x3 then (UInt8.ofNat ((Lib.indexByte digs x2).toNat * 16 + (Lib.indexByte digs x3).toNat), 4) else (0, 0)) else (0, 0)) := by
        show _ = _
        have := HV.out
        rwa [if_neg (by rw [hse]; simp)] at this
      clear HV hse
      go_wp2_with fail
      refine (B1.out w (Below.refl _ _)).mono ?_
      rintro e w1 ⟨rfl, hb1⟩
      have HB1 := Lib.hid hb1
      clear hb1
      cases b1 with
      | true =>
        have hn2 := HL1.out rfl
        have e1 : w1.cell? ⟨b, o + 1, none⟩ = some (.int .u8 (x1.toNat : Int)) := cell_old HB1.out (World.block_lt_of_cell? w _ (Q1.out (by omega))) (Q1.out (by omega))
        have hlt1 : (1 : Int) < (n : Int) := by omega
        obtain rfl : v = (x1, 2) := by have := HV2.out; simpa using this
        clear HV2
        go_wp2
        go_ret2
        exact ⟨rfl, HB1.out⟩
      | false =>
        go_wp2_with fail
        refine (B2.out w1 HB1.out).mono ?_
        rintro e w2 ⟨rfl, hb2⟩
        have HB2 := Lib.hid (HB1.out.trans (hb2.mono HB1.out.size))
        clear hb2
        cases b2 with
        | true =>
          have hn2 := HL2.out rfl
          have e1 : w2.cell? ⟨b, o + 1, none⟩ = some (.int .u8 (x1.toNat : Int)) := cell_old HB2.out (World.block_lt_of_cell? w _ (Q1.out (by omega))) (Q1.out (by omega))
          have hlt1 : (1 : Int) < (n : Int) := by omega
          obtain rfl : v = (x1, 2) := by have := HV2.out; simpa using this
          clear HV2
          go_wp2
          go_ret2
          exact ⟨rfl, HB2.out⟩
        | false =>
          go_wp2_with fail
          refine (B3.out w2 HB2.out).mono ?_
          rintro e w3 ⟨rfl, hb3⟩
          have HB3 := Lib.hid (HB2.out.trans (hb3.mono HB2.out.size))
          clear hb3
          cases b3 with
          | false =>
            obtain rfl : v = (0, 0) := by have := HV2.out; simpa using this
            clear HV2
            go_wp2
            go_ret2
            exact ⟨rfl, HB3.out⟩
          | true =>
            by_cases h4 : 4 ≤ n
            · have h4i : (4 : Int) ≤ (n : Int) := by omega
              have hlt2 : (2 : Int) < (n : Int) := by omega
              have hlt3 : (3 : Int) < (n : Int) := by omega
              have e2 : w3.cell? ⟨b, o + 2, none⟩ = some (.int .u8 (x2.toNat : Int)) := cell_old HB3.out (World.block_lt_of_cell? w _ (Q2.out (by omega))) (Q2.out (by omega))
              have e3 : w3.cell? ⟨b, o + 3, none⟩ = some (.int .u8 (x3.toNat : Int)) := cell_old HB3.out (World.block_lt_of_cell? w _ (Q3.out (by omega))) (Q3.out (by omega))
              have HV3 : Hid (v = if 0 ≤ Lib.indexByte digs x2 ∧ 0 ≤ Lib.indexByte digs x3 then (UInt8.ofNat ((Lib.indexByte digs x2).toNat * 16 + (Lib.indexByte digs x3).toNat), 4) else (0, 0)) := by show _ = _; have := HV2.out; simpa [h4] using this
              have D2 := fun wx => dig_any (x2.toNat : Int) wx
              have D3 := fun wx => dig_any (x3.toNat : Int) wx
              rw [show ((x2.toNat : Int).toNat.toUInt8) = x2 from by simp] at D2
              rw [show ((x3.toNat : Int).toNat.toUInt8) = x3 from by simp] at D3
              have r2 := dig_lt x2
              have r3 := dig_lt x3
              generalize Lib.indexByte digs x2 = k2 at *
              generalize Lib.indexByte digs x3 = k3 at *
              have D2 := Lib.hid D2
              have D3 := Lib.hid D3
              clear HV2
              go_upto_region 7 with (fail)
              go_quiet ((go_at_call 35; first | exact quiet_left (D2.out _) | exact quiet_left (D3.out _)))
              have HB4 := Lib.hid (HB3.out.trans ((below_dn _ w3 nq).mono HB3.out.size))
              by_cases hk2 : 0 ≤ k2
              · by_cases hk3 : 0 ≤ k3
                · have hv3 := HV3.out
                  rw [if_pos ⟨hk2, hk3⟩] at hv3
                  obtain ⟨m2, rfl⟩ : ∃ m : Nat, k2 = m := ⟨k2.toNat, by omega⟩
                  obtain ⟨m3, rfl⟩ : ∃ m : Nat, k3 = m := ⟨k3.toNat, by omega⟩
                  subst hv3
                  clear HV3
                  go_wp2
                  rw [or16 m2 (by omega) m3 (by omega)]
                  go_ret2
                  exact ⟨rfl, HB4.out⟩
                · obtain rfl : v = (0, 0) := by have := HV3.out; rwa [if_neg (fun h => hk3 h.2)] at this
                  clear HV3
                  go_wp2
                  go_ret2
                  exact ⟨rfl, HB4.out⟩
              · obtain rfl : v = (0, 0) := by have := HV3.out; rwa [if_neg (fun h => hk2 h.1)] at this
                clear HV3
                go_wp2
                go_ret2
                exact ⟨rfl, HB4.out⟩
            · have h4i : ¬ (4 : Int) ≤ (n : Int) := by omega
              obtain rfl : v = (0, 0) := by have := HV2.out; simpa [h4] using this
              clear HV2
              go_wp2
              go_ret2
              exact ⟨rfl, HB3.out⟩
end Go.Proofs.Ytgaedkaohjphaaa
