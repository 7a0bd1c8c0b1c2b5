/-
  SumOnes (tied card): for every byte slice, uint16 and uint8 the law returns true and leaves its arguments as they were: to change one byte changes the sum, and a sealed slice shares no memory with what was sealed. Conditions: the table weathervane/sum.lines holds what the program's text lays (the card ties it).
-/
import Derived.Test.YtfdnlbmaceafhaaDoorCards
import Derived.Test.YtfdnlbmaceafhaaDoorTie
import Derived.WalkKit
import Derived.Test.YtfdnlbmaceafhaaDoorOpen
import Derived.BigQuiet
import Derived.Deep.RegionWith
import Derived.ProofKit
import Derived.OpenShut
import Derived.ShutString
import Derived.ChangeOld
import Derived.Below
import Derived.Deep.DeepHandedRow
import Derived.Lib.LaidTab
namespace Go.Proofs.YtfdnlbmaceafhaaDoor.sumOnes
open Go.ChangeShapes Go.WideShapes Go.ChangeAt Go.RowKit
open Go.ChangeMaps (open_string shut_string)
set_option linter.unusedVariables false

theorem own : ownKnob Tryd.prog.godebug = none := by kernel_rfl
theorem laidOut : laidOutB Tryd.prog = true := by kernel_rfl
theorem gTab : Tryd.prog.globalNamed "weathervane/sum.lines" = some 0 := by kernel_rfl
theorem gTabType : (Tryd.prog.globals[0]?).map (·.type) = some 36 := by kernel_rfl
theorem cells36 : Tryd.prog.cellsOf 36 = 16 := by kernel_rfl
theorem cells24 : Tryd.prog.cellsOf 24 = 1 := by kernel_rfl

theorem table {W : World} (h : laidMetH Tryd.prog Rows.sumOnesRow.laid W) : Lib.TabIs Tryd.prog W "weathervane/sum.lines" .u32 (tab.map fun x : Nat => (x : Int)) :=
  Lib.tabIs_of_head (rest := []) gTab gTabType Tryd.underlying36 Tryd.underlying24 cells24 cells36 h
theorem tab_of {W : World} (h : laidMetH Tryd.prog Rows.sumOnesRow.laid W) : Tab W := by
  intro i hi
  have := (table h).cell gTab i (by simpa [tab] using hi)
  rw [this]
  have e : ∀ i : Fin 16, (tab.map fun x : Nat => (x : Int)).getD i.val 0 = ((tab.getD i.val 0 : Nat) : Int) := by decide
  exact congrArg (fun z => some (Value.int .u32 z)) (e ⟨i, hi⟩)

/-- WHAT THE WALK IS TOLD OF A SLICE OF INTEGERS THAT CAME IN: it is nil; or it leads to a row of 'cap' cells, the numbers 'zs' (the first 'len' are its elements, the rest its spare room), each fitting its kind. -/
def IsRow (k : IntKind) (w : World) (a : Option Addr) (len cap : Nat) (zs : List Int) : Prop :=
  (a = none ∧ len = 0 ∧ cap = 0 ∧ zs = []) ∨
  ∃ x, a = some x ∧ len ≤ cap ∧ cap ≤ maxLen ∧ zs.length = cap ∧ (∀ i, i < zs.length → w.cell? (x.add i) = some (.int k (zs.getD i 0))) ∧ ∀ n ∈ zs, (Lit.int k n).wf = true

set_option maxHeartbeats 1000000 in
theorem walk_far (a0 : Option Addr) (n0 c0 : Nat) (a1 a2 : Int) (w : World) (hT : Tab w) (h : ((n0 : Int) == 0) = true ∨ (((n0 : Int) == 0) = false ∧ 300 < n0) ∨ (((n0 : Int) == 0) = false ∧ ¬ 300 < n0 ∧ (a2 == 0) = true)) :
    Calls Tryd.prog 8 #[.slice a0 n0 c0, .int .u16 a1, .int .u8 a2] w fun e w' => e = .returned (.bool true) ∧ Below w.heap.size w w' := by
  have HT := Lib.hid hT
  clear hT
  rcases h with h | ⟨h, h1⟩ | ⟨h, h1, h2⟩
  all_goals
    go_enter Tryd.func8, Tryd.ntmps8
    go_wp2_with fail
    refine (awake_any _ HT.out).mono ?_
    rintro e w1 ⟨rfl, hb⟩
    have HB := Lib.hid hb
    have HT1 := Lib.hid (HT.out.old hb)
    clear hb
    go_wp2_with fail
    refine (awake_any _ HT1.out).mono ?_
    rintro e w2 ⟨rfl, hb⟩
    have HB2 := Lib.hid (HB.out.trans (hb.mono HB.out.size))
    clear hb
    go_wp2
    go_ret
    exact ⟨rfl, HB2.out⟩

theorem seal_len (A : Option Addr) (n c : Nat) (l : List Nat) (w : World) (hn : l.length = n) (hT : Tab w) (h : Src w A l) (hl : l.length ≤ 1000) (hby : ∀ x ∈ l, x < 256) :
    Calls Tryd.prog 12 #[.slice A n c] w (Fresh w (l ++ four (crc ones l))) := by
  subst hn
  exact seal_any A c l w hT h hl hby

theorem sealed_lt (l : List Nat) (h : ∀ x ∈ l, x < 256) (r : BitVec 32) : ∀ x ∈ l ++ four r, x < 256 := by
  intro x hx
  rw [List.mem_append] at hx
  rcases hx with hx | hx
  · exact h x hx
  · exact four_lt r x hx

theorem open_weak (A : Option Addr) (n c : Nat) (w : World) (l : List Nat) (hn : l.length = n) (hT : Tab w) (h : Src w A l) (h4 : 4 ≤ n) (hl : n ≤ 1000) (hcap : n ≤ c) (hby : ∀ x ∈ l, x < 256) :
    Calls Tryd.prog 13 #[.slice A n c] w fun e w' => Below w.heap.size w w' ∧ ∃ v k, e = .returned (.tuple #[v, .int .i64 k]) ∧ (k = 6 ∨ k = 0) := by
  subst hn
  obtain ⟨m, s0, s1, s2, s3, rfl⟩ : ∃ m s0 s1 s2 s3, l = m ++ [s0, s1, s2, s3] := by
    have hd : (l.drop (l.length - 4)).length = 4 := by rw [List.length_drop]; omega
    match hm : l.drop (l.length - 4), hd with
    | [a, b, c, d], _ => exact ⟨l.take (l.length - 4), a, b, c, d, by rw [← hm, List.take_append_drop]⟩
  have e : (m ++ [s0, s1, s2, s3]).length = m.length + 4 := by simp
  rw [e] at hl hcap ⊢
  refine (open_any A c m s0 s1 s2 s3 w hT h (by omega) hcap hby).mono ?_
  rintro e w' ⟨hb, ⟨_, A1, c1, rfl, _⟩ | ⟨_, rfl⟩⟩
  · exact ⟨hb, _, 0, rfl, .inr rfl⟩
  · exact ⟨hb, _, 6, rfl, .inl rfl⟩

set_option maxRecDepth 20000 in
set_option maxHeartbeats 2000000 in
theorem walk_near (A : Option Addr) (p : List Nat) (c0 : Nat) (at_ : Nat) (t : Nat) (w : World) (hT : Tab w) (hs : Src w A p) (hb : ∀ x ∈ p, x < 256) (hp0 : 0 < p.length) (h : p.length ≤ 300) (ht0 : 0 < t) (ht : t < 256) (hat : at_ < 65536) :
    Calls Tryd.prog 8 #[.slice A p.length c0, .int .u16 at_, .int .u8 t] w fun e w' => e = .returned (.bool true) ∧ Below w.heap.size w w' := by
  obtain ⟨i0, hi0, hi1, hi2, hi3⟩ := info_parts info5
  have HT := Lib.hid hT
  have HS := Lib.hid hs
  have HBy := Lib.hid hb
  clear hT hs hb
  go_enter Tryd.func8, Tryd.ntmps8
  go_wp2_with fail
  refine (awake_any _ HT.out).mono ?_
  rintro e w1 ⟨rfl, hb⟩
  have HB := Lib.hid hb
  have HS1 := Lib.hid (HS.out.old hb)
  clear hb
  have hz1 : ((p.length : Int) == 0) = false := beq_eq_false_iff_ne.2 (by omega)
  have hz2 : ((t : Int) == 0) = false := by simp; omega
  go_upto_region 4 with (at_builtin; refine wpList_append_any _ rfl (.const (.slice none 0 0)) (.tmp 28) 22 rfl w.heap.size 5 i0 (.int .u8 0) 1 1 Tryd.underlying22 hi0 hi1 hi2 hi3 rfl (by decide) (.slice none 0 0) 0 [] rfl (World.ownsRow_nil _ _ _ _) w1.heap.size A p.length c0 (p.map B) rfl HS1.out.reads (B_one _) (by unfold maxLen; omega) (by omega) HB.out.size ?_; intro v2 w2 hown2 hg2 hat2; have O2 := Lib.hid hown2; have G2 := Lib.hid hg2; clear hown2 hg2 hat2)
  clear hz1 hz2
  have HB2 := Lib.hid (HB.out.grown G2.out HB.out.size (by simp [Value.ownBlock]))
  have hown2 := O2.out
  rw [Nat.zero_add, List.nil_append] at hown2
  obtain ⟨A2, c2, hv2, hc2, hs2, hA2⟩ := Src.own hown2
  obtain ⟨g2, rfl, hg2, hg2b⟩ : ∃ g, A2 = some ⟨g, 0, none⟩ ∧ g < w2.heap.size ∧ w.heap.size ≤ g := by
    rcases hA2 with rfl | h
    · have := congrArg List.length (hs2.1 rfl)
      simp only [List.length_nil] at this
      omega
    · exact h
  rw [hv2] at hown2 ⊢
  have OO2 := Lib.hid hown2
  obtain ⟨i, hi⟩ : ∃ i, i = at_ % p.length := ⟨_, rfl⟩
  have hil : i < p.length := by rw [hi]; exact Nat.mod_lt _ hp0
  have hieq : (at_ : Int) % (p.length : Int) = (i : Int) := by rw [hi]; push_cast; rfl
  have ec := hown2.cellAt i (by omega)
  have ef := hown2.frozenAt i
  have ec2 : w2.cell? ⟨g2, i, none⟩ = some (.int .u8 ((p.getD i 0 : Nat) : Int)) := by
    rw [ec]; simp [B, hil]
  have hx := HBy.out (p.getD i 0) (by simp [hil])
  have Hset := Lib.hid (crc_set_ne p i t hil ones (by omega) ht)
  have hxor := u8_xor_nat (p.getD i 0) t hx ht
  clear hown2 O2 G2 hv2 hc2 hs2 ec
  generalize hpx : p.getD i 0 = x at *
  have Hpx := Lib.hid hpx
  clear hpx hi
  go_wp2_with fail
  clear ec2 ef hxor hieq
  obtain ⟨q, hq⟩ : ∃ q, q = p.set i (x ^^^ t) := ⟨_, rfl⟩
  have hql : q.length = p.length := by rw [hq]; simp
  have Hql := Lib.hid hql
  have hqb : ∀ y ∈ q, y < 256 := by
    intro y hy
    rw [hq] at hy
    rcases List.mem_or_eq_of_mem_set hy with h1 | h1
    · exact HBy.out y h1
    · rw [h1]; exact Nat.xor_lt_two_pow (n := 8) hx ht
  have HQb := Lib.hid hqb
  have Hne : Hid (crc ones q ≠ crc ones p) := by
    have := Hset.out
    rw [← hq] at this
    exact this
  have hst := OO2.out.stored i (B (x ^^^ t))
  rw [← List.map_set, ← hq] at hst
  have HB3 := Lib.hid (HB2.out.grown hst.2 HB2.out.size (fun k hk => by injection hk with hk; omega))
  have O3 := Lib.hid hst.1
  clear hst hqb Hset hq
  change Calls Tryd.prog 12 _ (w2.setCell ⟨g2, i, none⟩ (B (x ^^^ t))) _
  generalize w2.setCell ⟨g2, i, none⟩ (B (x ^^^ t)) = w3 at *
  obtain ⟨A3, c3, hv3, hc3, hs3, hA3⟩ := Src.own O3.out
  injection hv3 with hA hn hc
  subst hA hc
  have S3 := Lib.hid hs3
  clear hs3 hA3 hn hc3 hql
  refine (seal_len _ _ _ _ _ Hql.out (HT.out.old HB3.out) S3.out (by have := Hql.out; omega) HQb.out).mono ?_
  rintro e w4 ⟨A4, c4, rfl, hown4, hb4⟩
  have hl4 : (q ++ four (crc ones q)).length = p.length + 4 := by rw [List.length_append, four_len, Hql.out]
  rw [hl4] at hown4 ⊢
  obtain ⟨A4', c4', hv4, hc4, hs4, hA4⟩ := Src.own hown4
  injection hv4 with hA hn hc
  subst hA hc
  obtain ⟨g4, rfl, hg4, hg4b⟩ : ∃ g, A4 = some ⟨g, 0, none⟩ ∧ g < w4.heap.size ∧ w3.heap.size ≤ g := by
    rcases hA4 with rfl | h4
    · have := congrArg List.length (hs4.1 rfl)
      rw [hl4] at this
      simp only [List.length_nil] at this
      omega
    · exact h4
  have hq0 : 0 < q.length := by have := Hql.out; omega
  have ec4 := hown4.cellAt 0 (by omega)
  have ef4 := hown4.frozenAt 0
  have ec5 : w4.cell? ⟨g4, 0, none⟩ = some (.int .u8 ((q.getD 0 0 : Nat) : Int)) := by
    rw [ec4, List.map_append, List.getElem?_append_left (by simpa using hq0)]
    simp [B, hq0]
  have hy := HQb.out (q.getD 0 0) (by simp [hq0])
  have HB4 := Lib.hid (HB3.out.trans (hb4.mono HB3.out.size))
  have O4 := Lib.hid hown4
  have O3' := Lib.hid (own_old O3.out hb4)
  have hcq := O3'.out.cellAt 0 (by have := Hql.out; omega)
  have hcq2 : w4.cell? ⟨g2, 0, none⟩ = some (.int .u8 ((q.getD 0 0 : Nat) : Int)) := by
    rw [hcq]; simp [B, hq0]
  have hg24 : g2 < g4 := by
    have := (O3.out.lt g2 rfl).2
    omega
  have hq00 : (q.map B)[0]? = some (B (q.getD 0 0)) := by simp [hq0]
  have Hq0 := Lib.hid hq00
  clear hq00
  generalize q.getD 0 0 = y at *
  clear hown4 hb4 ec4 hcq hs4 hA4 hc4 hn S3
  go_wp2_with fail
  have st5 := O4.out.stored 0 (.int .u8 (((y : Int) + 1) % 256))
  have HB5 := Lib.hid (HB4.out.grown st5.2 HB4.out.size (fun k hk => by injection hk with hk; have := HB3.out.size; omega))
  have cs5 := st5.1.cellAt 0 (by omega)
  have O5 := Lib.hid (O3'.out.kept st5.2 (.inr (fun e => by injection e with e; have e2 : g2 = g4 := e; omega)))
  have cq5 := O5.out.cellAt 0 (by have := Hql.out; omega)
  rw [Hq0.out] at cq5
  have cs5' : (w4.setCell ⟨g4, 0, none⟩ (.int .u8 (((y : Int) + 1) % 256))).cell? ⟨g4, 0, none⟩ = some (.int .u8 (((y : Int) + 1) % 256)) := by
    rw [cs5, List.getElem?_set_self (by rw [List.length_map, hl4]; omega)]
  have CS5 := Lib.hid cs5'
  have CQ5 := Lib.hid cq5
  clear cs5 cq5 cs5' ec5 hcq2 ef4 st5
  generalize w4.setCell ⟨g4, 0, none⟩ (.int .u8 (((y : Int) + 1) % 256)) = w5 at *
  refine (seal_any _ _ _ _ (HT.out.old HB5.out) (HS.out.old HB5.out) (by omega) HBy.out).mono ?_
  rintro e w6 ⟨A6, c6, rfl, hown6, hb6⟩
  have hl6 : (p ++ four (crc ones p)).length = p.length + 4 := by rw [List.length_append, four_len]
  rw [hl6] at hown6 ⊢
  obtain ⟨A6', c6', hv6, hc6, hs6, hA6⟩ := Src.own hown6
  injection hv6 with hA hn hc
  subst hA hc
  rw [hl6] at hc6
  have S6 := Lib.hid (hs6.take (p.length + 3))
  have HB6 := Lib.hid (HB5.out.trans (hb6.mono HB5.out.size))
  have Hb6 := Lib.hid hb6
  have hlt6 : ((p ++ four (crc ones p)).take (p.length + 3)).length = p.length + 3 := by rw [List.length_take, hl6]; omega
  have Hlt6 := Lib.hid hlt6
  clear hown6 hs6 hA6 hn hl6 hb6 hlt6
  go_wp2_with fail
  refine (open_weak _ _ _ _ _ Hlt6.out (HT.out.old HB6.out) S6.out (by omega) (by omega) (by omega) (fun x hx => sealed_lt p HBy.out _ x (List.mem_of_mem_take hx))).mono ?_
  rintro e w7 ⟨hb7, v7, k7, rfl, hk7⟩
  have HB7 := Lib.hid (HB6.out.trans (hb7.mono HB6.out.size))
  have h57 : Below w5.heap.size w5 w7 := Hb6.out.trans (hb7.mono Hb6.out.size)
  have H57 := Lib.hid h57
  have cs7 : w7.cell? ⟨g4, 0, none⟩ = some (.int .u8 (((y : Int) + 1) % 256)) := (World.cell?_of_block (h57.block g4 (World.block_lt_of_cell? w5 ⟨g4, 0, none⟩ CS5.out))).trans CS5.out
  have cq7 : w7.cell? ⟨g2, 0, none⟩ = some (.int .u8 (y : Int)) := (World.cell?_of_block (h57.block g2 (World.block_lt_of_cell? w5 ⟨g2, 0, none⟩ CQ5.out))).trans CQ5.out
  obtain ⟨Aq, cq, hvq, hcq, hsq, _⟩ := Src.own (own_old O5.out h57)
  injection hvq with hA hn hc
  subst hA hc
  have SQ := Lib.hid hsq
  clear hb7 hsq hn h57 hcq
  have hle := (crc ones q).isLt
  have hnes : (((crc ones p).toNat : Int) != ((crc ones q).toNat : Int)) = true := by
    rw [bne_iff_ne]
    intro e
    exact Hne.out (BitVec.eq_of_toNat_eq (by omega))
  have hy1 : ((y : Int) == (((y : Int) + 1) % 256 - 1) % 256) = true := by simp; omega
  have hy2 : IntKind.u8.wrap (((y : Int) + 1) % 256 - 1) = (y : Int) := by rw [IntKind.wrap_u8]; omega
  have K7 : Hid (∀ n, Below w7.heap.size w7 (w7.drewN n)) := fun n => below_drewN (Below.refl _ _) n
  have hpl : (0 : Int) < (p.length : Int) := by omega
  have hpl4 : (0 : Int) < (p.length : Int) + 4 := by omega
  rcases hk7 with rfl | rfl
  all_goals
    go_wp2_with fail
    go_quiet ((first | (go_at_call_of 10 (Value.slice A p.length c0); exact quiet_left (of_len _ _ _ _ p rfl ((HT.out.old HB7.out).old (K7.out _)) ((HS.out.old HB7.out).old (K7.out _)) (by omega) HBy.out)) | (go_at_call_of 10 (Value.slice (some { block := g2, off := 0 }) p.length c2); exact quiet_left (of_len _ _ _ _ q Hql.out ((HT.out.old HB7.out).old (K7.out _)) (SQ.out.old (K7.out _)) (by have := Hql.out; omega) HQb.out))))
    go_wp2
    go_ret
    exact ⟨rfl, below_drewN HB7.out _⟩

theorem walk (a0 : Option Addr) (len0 cap0 : Nat) (z0 : List Int) (a1 : Int) (a2 : Int) (w : World) (w0 : IsRow .u8 w a0 len0 cap0 z0) (w1 : (Lit.int .u16 a1).wf = true) (w2 : (Lit.int .u8 a2).wf = true) (hT : Tab w) :
    Calls Tryd.prog 8 #[.slice a0 len0 cap0, .int .u16 a1, .int .u8 a2] w fun e w' => e = .returned (.bool true) ∧ Below w.heap.size w w' := by
  obtain ⟨p, rfl, s0, b0, _, _⟩ := src_of_row w0
  have h1 := bounds_u16 w1
  have h2 := bounds_u8 w2
  obtain ⟨n, rfl⟩ := Int.eq_ofNat_of_zero_le h1.1
  obtain ⟨t, rfl⟩ := Int.eq_ofNat_of_zero_le h2.1
  by_cases hp : p.length = 0
  · exact walk_far _ _ _ _ _ _ hT (.inl (beq_iff_eq.2 (by omega)))
  · by_cases h : 300 < p.length
    · exact walk_far _ _ _ _ _ _ hT (.inr (.inl ⟨beq_eq_false_iff_ne.2 (by omega), h⟩))
    · by_cases ht : t = 0
      · exact walk_far _ _ _ _ _ _ hT (.inr (.inr ⟨beq_eq_false_iff_ne.2 (by omega), h, beq_iff_eq.2 (by omega)⟩))
      · exact walk_near _ p _ n t w hT s0 b0 (by omega) (by omega) (by omega) (by omega) (by omega)

theorem contract (H : Type) (enc : TypeId × Value → H) (W : World) (base : Nat) (args : Array Value) (ds gs : List (DataW H)) (before : List MemPlace)
    (hval : ∀ (j : Nat) t v, Tryd.f8.params[j]? = some t → args[j]? = some v → Value.okWide Tryd.prog W .any base t v)
    (hW : DataW.Whole enc Tryd.prog Tryd.f8.params.toList Rows.sumOnesSpec.vars false W args.toList ds gs before) (hL : laidMetH Tryd.prog Rows.sumOnesRow.laid W) :
    Calls Tryd.prog 8 args W fun e W' => ∃ v, e = .returned v ∧ Rows.sumOnesSpec.post enc Tryd.prog Tryd.f8 false true false false W args v W' := by
  have hW' := hW
  obtain ⟨p, q, hA0, hV, rfl, hfz, hnd⟩ := hW
  have hA : DataW.TrodAll enc Tryd.prog W 0 (fun _ => true) true Tryd.f8.params.toList args.toList ds p := hA0
  rw [Tryd.params8] at hA hval
  obtain ⟨v0, vs0, d0, ds0, p0, q0, hargs, rfl, rfl, h0, r0⟩ := trodAll_cons hA
  obtain ⟨v1, vs1, d1, ds1, p1, q1, rfl, rfl, rfl, h1, r1⟩ := trodAll_cons r0
  obtain ⟨v2, vs2, d2, ds2, p2, q2, rfl, rfl, rfl, h2, r2⟩ := trodAll_cons r1
  obtain ⟨rfl, rfl, rfl⟩ := trodAll_nil r2
  obtain rfl : args = #[v0, v1, v2] := by cases args; simp_all
  obtain ⟨rfl, rfl⟩ := trodVars_none hV
  obtain ⟨a0, len0, cap0, rfl⟩ := okWide_slice Tryd.underlying22 (hval 0 22 v0 rfl rfl)
  have k0 := h0
  have lt0 : ∀ x ∈ p0, x.block < W.heap.size := by obtain ⟨m, hm⟩ := k0; exact DataW.trod_lt m _ _ _ hm
  obtain ⟨z0, w0⟩ : ∃ zs, IsRow .u8 W a0 len0 cap0 zs := by
    obtain ⟨fuel, hf⟩ := h0
    rcases open_ints Tryd.underlying22 Tryd.underlying5 (by kernel_rfl) hf with ⟨hcs, _⟩ | ⟨x, l, c, zs, hcs, _, hl, hm, hz, _, hcell, hwz⟩
    · simp [Value.cells] at hcs
      obtain ⟨rfl, rfl, rfl⟩ := hcs
      exact ⟨[], .inl ⟨rfl, rfl, rfl, rfl⟩⟩
    · simp [Value.cells] at hcs
      obtain ⟨rfl, rfl, rfl⟩ := hcs
      exact ⟨zs, .inr ⟨_, rfl, hl, hm, by simpa using hz, hcell, hwz⟩⟩
  obtain ⟨a1, rfl, rfl, rfl, w1⟩ := open_int Tryd.underlying31 (hval 1 31 v1 rfl rfl) h1
  obtain ⟨a2, rfl, rfl, rfl, w2⟩ := open_int Tryd.underlying5 (hval 2 5 v2 rfl rfl) h2
  clear hA0
  refine (walk a0 len0 cap0 z0 a1 a2 W w0 w1 w2 (tab_of hL)).mono fun e W' ⟨he, bel⟩ => ?_
  subst he
  exact ⟨_, rfl, _, _, _, [], _, [], hW', trodAll_mk1 (shut_bool Tryd.underlying4 _), (trodAll_cons_mk (Below.trod laidOut (by kernel_rfl) (of_decide_eq_true (by kernel_rfl)) k0 bel lt0) (trodAll_cons_mk (shut_int Tryd.underlying31 w1) (trodAll_cons_mk (shut_int Tryd.underlying5 w2) trodAll_mk0))), rfl, bel.frame _, fun h => by cases h⟩


noncomputable def laidWorld (os : Os) : World :=
  { World.holding Tryd.prog os ⟨#[], #[], []⟩ with heap := (World.holding Tryd.prog os ⟨#[], #[], []⟩).heap.modify 0 fun
      | .cells _ t frozen => .cells #[.int .u32 0, .int .u32 79764919, .int .u32 159529838, .int .u32 222504665, .int .u32 319059676, .int .u32 398814059, .int .u32 445009330, .int .u32 507990021, .int .u32 638119352, .int .u32 583659535, .int .u32 797628118, .int .u32 726387553, .int .u32 890018660, .int .u32 835552979, .int .u32 1015980042, .int .u32 944750013] t frozen
      | o => o }
theorem laid_met (os : Os) : laidMet Tryd.prog Rows.sumOnesRow.laid ((laidWorld os).forCall (fun _ _ => 0) ⟨#[], #[.slice none 0 0, .int .u16 0, .int .u8 0], []⟩).memory :=
  laidMet_of_run' 8 (by kernel_rfl) (by kernel_rfl)
theorem reads (os : Os) {H : Type} (enc : TypeId × Value → H) : ∃ places, DataW.whole enc Tryd.prog ((laidWorld os).forCall (fun _ _ => 0) ⟨#[], #[.slice none 0 0, .int .u16 0, .int .u8 0], []⟩).memory Tryd.f8.params.toList Rows.sumOnesSpec.vars false (#[.slice none 0 0, .int .u16 0, .int .u8 0] : Array Value).toList 8 = some ([.nil, .lit (.int .u16 0), .lit (.int .u8 0)], [], places) :=
  ⟨[], by kernel_rfl⟩

set_option maxRecDepth 100000 in
theorem lifted (os : Os) (started : os.Started) (H : Type) (enc : TypeId × Value → H) (F : Stop.Interp) :
    ReturnsInHanded {} Tryd.checked os 8 .any ((OpenSpec.ofChange Rows.sumOnesSpec).preRow enc Tryd.prog Tryd.f8 Rows.sumOnesRow.domain false Rows.sumOnesRow.laid) (((OpenSpec.ofChange Rows.sumOnesSpec).at F).post enc Tryd.prog Tryd.f8 false true false false) := by
  obtain ⟨places, hx⟩ := reads os enc
  refine returnsInHanded_of_row (C := Tryd.checked) (s := OpenSpec.ofChange Rows.sumOnesSpec) own started (by kernel_rfl) Tryd.func8
    (witness_row_at (enc := enc) (C := Tryd.checked) false (laidWorld os) #[.slice none 0 0, .int .u16 0, .int .u8 0] rfl (by kernel_rfl) (by kernel_rfl) (by kernel_rfl)
      (OpenSpec.preRow_of_cond 8 hx (by kernel_rfl) (fun k hk => by cases hk) (by kernel_rfl) (laid_met os))) ?_
  intro W base args ds gs before hval hW _ _ _ hL _ _
  exact contract H enc W base args ds gs before hval hW hL

theorem said : Rows.SumOnesSaid :=
  OpenClaim.holds_of_cond 8 Tryd.f8 rfl rfl rfl rfl rfl rfl rfl ⟨rfl, rfl, rfl, rfl, rfl⟩ rfl rfl rfl rfl rfl (by kernel_rfl) Tryd.func8 (by kernel_rfl)
    (of_decide_eq_true (by kernel_rfl)) (by unfold Func.isWrapper; first | (rw [if_pos (by decide +kernel)]; kernel_rfl) | (rw [if_neg (by decide +kernel)]; exact ⟨rfl, rfl⟩))
    (fun os started H enc _ F => by rw [OpenClaim.pre_eq_preRow]; exact lifted os started H enc F)

theorem plain (f : FuncId) (fn : Func) (hf : Tryd.pinned.checked.prog.funcNamed "weathervane/weathervanelaw02.SumOnes" = some f) (hfn : Tryd.pinned.checked.prog.funcs[f]? = some fn) :
    false = Tryd.pinned.checked.prog.looks [] ∧ ∀ (j : Nat) t, fn.params[j]? = some t → Tryd.pinned.checked.prog.wantsStandIn t = false := by
  obtain rfl : f = 8 := Option.some.inj ((show Tryd.prog.funcNamed "weathervane/weathervanelaw02.SumOnes" = some 8 by kernel_rfl).symm.trans hf) |>.symm
  obtain rfl : fn = Tryd.f8 := (Option.some.inj (Tryd.func8.symm.trans hfn)).symm
  refine ⟨by kernel_rfl, fun j t ht => ?_⟩
  rw [Tryd.params8] at ht
  have ht2 : t = 22 ∨ t = 31 ∨ t = 5 := by simpa using Array.mem_of_getElem? ht
  rcases ht2 with rfl | rfl | rfl
  · exact (show Tryd.prog.wantsStandIn 22 = false by kernel_rfl)
  · exact (show Tryd.prog.wantsStandIn 31 = false by kernel_rfl)
  · exact (show Tryd.prog.wantsStandIn 5 = false by kernel_rfl)
end Go.Proofs.YtfdnlbmaceafhaaDoor.sumOnes
namespace Go.Proofs.YtfdnlbmaceafhaaDoor
theorem sumOnes_holds : Rows.SumOnesCardSaid :=
  Claim7.holds_tied_plain_at .later [] _ _ _ _ sumOnes.said (fun _ h => by cases h) (by kernel_rfl) (fun _ h => by cases h) sumOnes_row_tie rfl ⟨rfl, rfl⟩ (by kernel_rfl) rfl sumOnes.plain (by kernel_rfl)
#print axioms sumOnes_holds
end Go.Proofs.YtfdnlbmaceafhaaDoor
