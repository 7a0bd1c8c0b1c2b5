/-
  Lex: a byte in quotes, and Quote.
-/
import Derived.Test.YtgaedkaohjphaaaNa
import Derived.Test.YtgaedkaohjphaaaLf
import Derived.Deep.RegionLaw
import Derived.Deep.RegionHeld3
import Derived.OwnWalk
namespace Go.Proofs.Ytgaedkaohjphaaa
open Go.RowKit
set_option linter.unusedVariables false
set_option linter.unusedSimpArgs false
set_option maxRecDepth 20000

/-- A byte as it stands in quotes. -/
def qbyte (b : UInt8) : List UInt8 :=
  if escF (b.toNat : Int) = true then [92, b] else if seenF (b.toNat : Int) = true then [b] else [92, 120, digs.getD (b.toNat / 16) 0, digs.getD (b.toNat % 16) 0]
def qF (s : List UInt8) : List UInt8 := if isBareF s = true then s else [34] ++ s.flatMap qbyte ++ [34]
theorem qbyte_len (b : UInt8) : 1 ≤ (qbyte b).length ∧ (qbyte b).length ≤ 4 := by
  unfold qbyte
  repeat' split
  all_goals simp
/-- Some bytes more. -/
theorem pushL (base : Nat) (v : Value) (m k : Nat) (l x : List UInt8) (w : World) (hm : m = l.length) (hk : x.length = k) (h : w.ownsRow base 5 1 v m (bytesV l)) (hl : m ≤ 1000000000) (hk1 : 1 ≤ k) (hk4 : k ≤ 4) (hb : base ≤ w.heap.size) (cs : Array Value) (hcs : cs.toList = bytesV x) :
    ∃ A c w', (Builtin.append_ #[22, 22] 22 #[v, .slice (some ⟨w.heap.size, 0, none⟩) k k]).run Try.prog (w.alloc (.cells cs 5)) = .ok (.slice A (m + k) c) w' ∧ w'.ownsRow base 5 1 (.slice A (m + k) c) (m + k) (bytesV (l ++ x)) ∧ Below base w w' := by
  subst hm
  subst hk
  obtain ⟨i0, hi0, hz0, hz1, hz2⟩ := info_parts info5
  have hc : ∀ j u, (bytesV x)[j]? = some u → (w.alloc (.cells cs 5)).cell? ((⟨w.heap.size, 0, none⟩ : Addr).add j) = some u := by
    intro j u hj
    rw [Go.WideShapes.add_plain, cell_of_row _ w.heap.size _ _ 5 (0, 0) (heap_alloc_new w _), Nat.zero_add, ← Array.getElem?_toList, hcs]
    exact hj
  obtain ⟨v5, w5, hr5, hO5, hg5, _, hat⟩ := run_append_own_at (P := Try.prog) (w.alloc (.cells cs 5)) base 22 22 5 i0 (.int .u8 0) 1 1 Try.underlying22 hi0 hz0 hz1 hz2 rfl (by decide) v l.length _ (h.alloc _) ⟨w.heap.size, 0, none⟩ x.length x.length (bytesV x) (by simp [bytesV]) hc (by intro u hu; simp [bytesV] at hu; obtain ⟨a, _, rfl⟩ := hu; rfl) (by unfold maxLen; omega) (by omega) (by simp; omega)
  obtain ⟨q5, c5, rfl⟩ : ∃ q5 c5, v5 = .slice (some ⟨q5, 0, none⟩) (l.length + x.length) c5 := by
    rcases hO5.2 with ⟨_, h1⟩ | ⟨k, cap, cur, hv, _⟩
    · omega
    · exact ⟨k, cap, hv⟩
  refine ⟨_, c5, w5, hr5, ?_, ?_⟩
  · rw [show bytesV (l ++ x) = bytesV l ++ bytesV x from by simp [bytesV]]; exact hO5
  · exact ((Below.refl base w).alloc hb _).grown hg5 (by simp; omega) (fun k hk => (h.lt k hk).1)
/-- append at a step of a region that draws, by its own equation. -/
theorem step_append_run {P : Program} (w : World) {ops : Array Oper} {o : Oper} {a : Act} {K : Act → World → Prop} {Q : Exit → Act → World → Prop} {E : Prop} (hgd : o.guard = none) (s x : Operand) (t : TypeId)
    (ho : o.op = .call { callee := .builtin .append, args := #[s, x], argTypes := #[t, t] }) (v xv : Value) (hs : a.eval s = v) (hx : a.eval x = xv) (v' : Value) (w' : World)
    (hr : (Builtin.append_ #[t, t] o.type #[v, xv]).run P w = .ok v' w') (h : K (a.put o.dst v') w') :
    if Region.wanted o (yielded ops a.tmps) = true then Oper.wp P o a w K Q else E := by
  have hw : Region.wanted o (yielded ops a.tmps) = true := by simp [Region.wanted, hgd]
  rw [if_pos hw]
  unfold Oper.wp execOp
  simp only [ho, resolve, invoke, builtin, Sem.run_bind, Sem.run_pure, Result.andThen_ok, List.map_toArray, List.map_cons, List.map_nil, hs, hx, hr]
  exact h

/-- What a call that puts a byte behind a row leaves. -/
def PutB (base : Nat) (w : World) (m : Nat) (acc : List UInt8) (e : Ending) (w' : World) : Prop :=
  ∃ A c, e = .returned (.slice A m c) ∧ w'.ownsRow base 5 1 (.slice A m c) m (bytesV acc) ∧ Below base w w'
set_option maxHeartbeats 4000000 in
theorem put_any (base : Nat) (A : Option Addr) (m c : Nat) (acc : List UInt8) (x : UInt8) (w : World) (hm : m = acc.length) (h : w.ownsRow base 5 1 (.slice A m c) m (bytesV acc)) (hl : m ≤ 900000000) (hb : base ≤ w.heap.size) :
    Calls Try.prog 25 #[.slice A m c, .int .u8 (x.toNat : Int)] w (PutB base w (m + (qbyte x).length) (acc ++ qbyte x)) := by
  obtain ⟨q, hq⟩ : ∃ q, q = qbyte x := ⟨_, rfl⟩
  rw [← hq]
  unfold qbyte at hq
  have hE := esc_any (x.toNat : Int) w
  have hS := seen_any (x.toNat : Int) w
  have hx := x.toNat_lt
  by_cases he : escF (x.toNat : Int) = true
  · rw [if_pos he] at hq
    rw [he] at hE
    subst hq
    obtain ⟨A5, c5, w5, hr5, hO5, hb5⟩ := pushL base (.slice A m c) m 2 acc [92, x] w hm rfl h (by omega) (by omega) (by omega) hb #[.int .u8 92, .int .u8 (x.toNat : Int)] rfl
    have HO5 := Lib.hid hO5
    clear hO5 h hm hS he
    simp only [List.length_cons, List.length_nil, Nat.zero_add, Nat.reduceAdd]
    generalize (x.toNat : Int) = xi at *
    go_enter Try.func25, Try.ntmps25
    go_wp2_with fail
    refine hE.mono ?_
    rintro e w2 ⟨rfl, rfl⟩
    go_wp2_with (at_builtin; refine Lib.wpList_append_run _ rfl _ _ 22 22 rfl _ _ rfl rfl _ _ hr5 ?_)
    go_ret
    exact ⟨A5, c5, rfl, HO5.out, hb5⟩
  · rw [if_neg he] at hq
    have he' : escF (x.toNat : Int) = false := by simpa using he
    rw [he'] at hE
    by_cases hs : seenF (x.toNat : Int) = true
    · rw [if_pos hs] at hq
      rw [hs] at hS
      subst hq
      obtain ⟨A5, c5, w5, hr5, hO5, hb5⟩ := pushL base (.slice A m c) m 1 acc [x] w hm rfl h (by omega) (by omega) (by omega) hb #[.int .u8 (x.toNat : Int)] rfl
      have HO5 := Lib.hid hO5
      clear hO5 h hm he he' hs
      simp only [List.length_cons, List.length_nil, Nat.zero_add]
      generalize (x.toNat : Int) = xi at *
      go_enter Try.func25, Try.ntmps25
      go_wp2_with fail
      refine hE.mono ?_
      rintro e w2 ⟨rfl, rfl⟩
      go_wp2_with fail
      refine hS.mono ?_
      rintro e w2 ⟨rfl, rfl⟩
      go_wp2_with (at_builtin; refine Lib.wpList_append_run _ rfl _ _ 22 22 rfl _ _ rfl rfl _ _ hr5 ?_)
      go_ret
      exact ⟨A5, c5, rfl, HO5.out, hb5⟩
    · rw [if_neg hs] at hq
      have hs' : seenF (x.toNat : Int) = false := by simpa using hs
      rw [hs'] at hS
      subst hq
      obtain ⟨k1, hk1⟩ : ∃ k, k = x.toNat / 16 := ⟨_, rfl⟩
      obtain ⟨k2, hk2⟩ : ∃ k, k = x.toNat % 16 := ⟨_, rfl⟩
      rw [← hk1, ← hk2]
      have hk1l : k1 < 16 := by omega
      have hk2l : k2 < 16 := by omega
      have hk1i : (k1 : Int) < 16 := by omega
      have hk2i : (k2 : Int) < 16 := by omega
      have hd1 : (x.toNat : Int) / 16 = (k1 : Int) := by
        omega
      have hd2 : bits BinOp.and IntKind.u8 (x.toNat : Int) 15 = (k2 : Int) := by
        subst hk2
        have : ∀ n : Nat, n < 256 → bits BinOp.and IntKind.u8 (n : Int) 15 = ((n % 16 : Nat) : Int) := by decide +kernel
        exact this _ hx
      obtain ⟨d1, hd1e⟩ : ∃ d, d = digs.getD k1 0 := ⟨_, rfl⟩
      obtain ⟨d2, hd2e⟩ : ∃ d, d = digs.getD k2 0 := ⟨_, rfl⟩
      have hx1 : ∀ h, (((⟨#[48, 49, 50, 51, 52, 53, 54, 55, 56, 57, 97, 98, 99, 100, 101, 102]⟩ : ByteArray)[k1]'h).toNat : Int) = (d1.toNat : Int) := fun h => by
        rw [hd1e, List.getD_eq_getElem?_getD, List.getElem?_eq_getElem (by exact h)]; rfl
      have hx2 : ∀ h, (((⟨#[48, 49, 50, 51, 52, 53, 54, 55, 56, 57, 97, 98, 99, 100, 101, 102]⟩ : ByteArray)[k2]'h).toNat : Int) = (d2.toNat : Int) := fun h => by
        rw [hd2e, List.getD_eq_getElem?_getD, List.getElem?_eq_getElem (by exact h)]; rfl
      rw [← hd1e, ← hd2e]
      have hO := own_old h (Below.refl _ w).drew
      have hBd : Below base w w.drew := (Below.refl _ w).drew
      obtain ⟨A5, c5, w5, hr5, hO5, hb5⟩ := pushL base (.slice A m c) m 4 acc [92, 120, d1, d2] w.drew hm rfl hO (by omega) (by omega) (by omega) hb #[.int .u8 92, .int .u8 120, .int .u8 (d1.toNat : Int), .int .u8 (d2.toNat : Int)] rfl
      have HO5 := Lib.hid hO5
      have HB5 := Lib.hid (hBd.trans (hb5))
      clear hO5 h hm he he' hs hs' hk1 hk2 hd1e hd2e hO hb5 hBd
      simp only [List.length_cons, List.length_nil, Nat.zero_add, Nat.reduceAdd]
      generalize (x.toNat : Int) = xi at *
      generalize (d1.toNat : Int) = y1 at *
      generalize (d2.toNat : Int) = y2 at *
      go_enter Try.func25, Try.ntmps25
      go_wp2_with fail
      refine hE.mono ?_
      rintro e w2 ⟨rfl, rfl⟩
      go_wp2_with fail
      refine hS.mono ?_
      rintro e w2 ⟨rfl, rfl⟩
      go_upto_region 5 with (fail)
      go_region_law (refine step_append_run _ (by rfl) _ _ _ (by rfl) _ _ (by rfl) (by rfl) _ _ hr5 ?_)
      all_goals
        simp only [List.getElem_toArray, List.getElem_cons_succ, List.getElem_cons_zero, Act.put, List.setIfInBounds_toArray, List.set_cons_zero, List.set_cons_succ]
        go_wp2
        go_ret
        exact ⟨A5, c5, rfl, HO5.out, HB5.out⟩
end Go.Proofs.Ytgaedkaohjphaaa
