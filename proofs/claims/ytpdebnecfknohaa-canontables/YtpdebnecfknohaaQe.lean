/-
  What the comparison of two lists of functions leaves, and of two modules.
-/
import Derived.Test.YtpdebnecfknohaaMz
namespace Go.Proofs.Ytpdebnecfknohaa
open Go.RowKit
set_option linter.unusedVariables false
set_option maxRecDepth 20000

/-- A truth, and nothing but draws. -/
def QuB (w : World) (v : Bool) (e : Ending) (w' : World) : Prop := e = .returned (.bool v) ∧ ∃ k, w' = w.drewN k
theorem RdS.at_ {S : Nat → Prop} {w w' : World} {A : Option Addr} {n : Nat} {xs : List Value} (h : RdS S w A n 1 xs) (hb : Below w.heap.size w w') (i : Nat) (hi : i < n) {u : Value} (hu : xs[i]? = some u) : ∃ b o, A = some ⟨b, o, none⟩ ∧ b < w'.heap.size ∧ w'.cell? ⟨b, o + i, none⟩ = some u := by
  obtain ⟨b, o, hA, _, hc⟩ := h.2 (by omega)
  have := hc i u hu
  have hl := World.block_lt_of_cell? w ⟨b, o + i, none⟩ this
  exact ⟨b, o, hA, Nat.lt_of_lt_of_le hl hb.size, cell_old hb hl this⟩
theorem drop_eq_iff {α : Type} [DecidableEq α] {a b : List α} {i : Nat} (ha : i < a.length) (hb : i < b.length) : decide (a.drop i = b.drop i) = (decide (a[i] = b[i]) && decide (a.drop (i + 1) = b.drop (i + 1))) := by
  have e1 : a.drop i = a[i] :: a.drop (i + 1) := List.drop_eq_getElem_cons ha
  have e2 : b.drop i = b[i] :: b.drop (i + 1) := List.drop_eq_getElem_cons hb
  rw [e1, e2]
  generalize a.drop (i + 1) = ra
  generalize b.drop (i + 1) = rb
  by_cases h1 : a[i] = b[i] <;> by_cases h2 : ra = rb <;> simp [h1, h2]

set_option maxHeartbeats 1000000 in
theorem sameInts_any (a b : List Int) (A B : Option Addr) (ca cb : Nat) (w : World) (h1 : RdS (fun _ => True) w A a.length 1 (intV a)) (h2 : RdS (fun _ => True) w B b.length 1 (intV b)) (hl1 : a.length ≤ 1000000) (hl2 : b.length ≤ 1000000) :
    Calls Try.prog 53 #[.slice A a.length ca, .slice B b.length cb] w (QuB w (decide (a = b))) := by
  by_cases hlen : a.length = b.length
  · have H1 := Lib.hid h1
    have H2 := Lib.hid h2
    obtain ⟨v, hv⟩ : ∃ v, v = decide (a = b) := ⟨_, rfl⟩
    have HV : Hid (decide (a.drop 0 = b.drop 0) = v) := hv.symm
    rw [← hv]
    obtain ⟨L, hL⟩ : ∃ L, L = a.length := ⟨_, rfl⟩
    have HL1 : Hid (a.length = L) := hL.symm
    have HL2 : Hid (b.length = L) := hlen.symm.trans hL.symm
    rw [← hlen, ← hL]
    rw [← hL] at hl1
    clear hL hlen hl2 h1 h2 hv
    go_enter Try.func53, Try.ntmps53
    go_wp2_with fail
    go_loopw [5] (fun s wr => ∃ (i m : Nat), i ≤ L ∧ s = .int .i64 (i : Int) ∧ Hid (wr = w.drewN m) ∧ Hid (decide (a.drop i = b.drop i) = v)) (fun s _ => L - (intOf s).toNat)
    case atStart => exact ⟨0, 0, Nat.zero_le _, rfl, rfl, HV⟩
    case round =>
      obtain ⟨i, m, hi, rfl, hW, hE⟩ := hrel
      by_cases hlt : i < L
      · have hia : i < a.length := by have := HL1.out; omega
        have hib : i < b.length := by have := HL2.out; omega
        have hBW : Below w.heap.size w wr := by rw [hW.out]; exact below_dN w m _
        obtain ⟨q, o, rfl, hql, c1⟩ := H1.out.at_ hBW i hia (intV_get a i hia)
        obtain ⟨q', o', rfl, hql', c2⟩ := H2.out.at_ hBW i hib (intV_get b i hib)
        have hE2 := hE.out
        rw [drop_eq_iff hia hib] at hE2
        have HE2 := Lib.hid hE2
        have hq0 : (a[i] == b[i]) = decide (a[i] = b[i]) := rfl
        have hq1 : (a[i] != b[i]) = !decide (a[i] = b[i]) := rfl
        have hli : (i : Int) < (L : Int) := by omega
        clear hE hE2 hBW HV
        by_cases hx : a[i] = b[i]
        · have HE3 : Hid (decide (a.drop (i + 1) = b.drop (i + 1)) = v) := by show _ = _; have := HE2.out; simpa [hx] using this
          simp only [hx, decide_true, Bool.not_true] at hq0 hq1
          rw [hx] at c1
          clear HE2 hx
          generalize b[i] = xb at *
          go_upto_region 6 with (fail)
          go_quiet ((fail))
          go_wp2
          go_roundw
          case rel => exact ⟨i + 1, _, by omega, by go_num, quiet_w hW.out _, HE3⟩
          case measure => simp [intOf]; omega
        · obtain rfl : v = false := by rw [← HE2.out]; simp [hx]
          simp only [hx, decide_false, Bool.not_false] at hq0 hq1
          clear HE2 hx
          generalize a[i] = xa at *
          generalize b[i] = xb at *
          go_upto_region 6 with (fail)
          go_quiet ((fail))
          go_wp2
          go_ret
          exact ⟨rfl, _, quiet_w hW.out _⟩
      · obtain rfl : i = L := by omega
        obtain rfl : v = true := by rw [← hE.out, List.drop_of_length_le (by have := HL1.out; omega), List.drop_of_length_le (by have := HL2.out; omega)]; simp
        clear hE HV
        go_wp2
        go_ret
        exact ⟨rfl, _, hW.out⟩
  · have hv : decide (a = b) = false := by simp; intro h; rw [h] at hlen; exact hlen rfl
    rw [hv]
    have hli : ((a.length : Int) == (b.length : Int)) = false := by simp; omega
    have hlj : ((a.length : Int) != (b.length : Int)) = true := by simp; omega
    clear h1 h2 hv
    generalize a.length = la at *
    generalize b.length = lb at *
    go_enter Try.func53, Try.ntmps53
    go_wp2
    go_ret
    exact ⟨rfl, 0, rfl⟩

end Go.Proofs.Ytpdebnecfknohaa
namespace Go.Proofs.Ytpdebnecfknohaa
open Go.RowKit
set_option linter.unusedVariables false
set_option maxRecDepth 20000
set_option linter.unusedSimpArgs false

def fnSame (f g : Fn) : Bool := decide (f.name = g.name) && (decide (f.params = g.params) && (decide (f.locals = g.locals) && (decide (f.sites = g.sites) && f.body.same g.body)))
def fnsSame : List Fn → List Fn → Bool
  | [], [] => true
  | f :: l, g :: m => fnSame f g && fnsSame l m
  | _, _ => false
theorem fnsSame_len : ∀ l m : List Fn, l.length ≠ m.length → fnsSame l m = false
  | [], [], h => by simp at h
  | [], _ :: _, _ => rfl
  | _ :: _, [], _ => rfl
  | f :: l, g :: m, h => by simp only [fnsSame, fnsSame_len l m (by simpa using h), Bool.and_false]
theorem fnsSame_drop {l m : List Fn} {i : Nat} (h1 : i < l.length) (h2 : i < m.length) : fnsSame (l.drop i) (m.drop i) = (fnSame l[i] m[i] && fnsSame (l.drop (i + 1)) (m.drop (i + 1))) := by
  have e1 : l.drop i = l[i] :: l.drop (i + 1) := List.drop_eq_getElem_cons h1
  have e2 : m.drop i = m[i] :: m.drop (i + 1) := List.drop_eq_getElem_cons h2
  rw [e1, e2]
  rfl
theorem fnSame_refl (f : Fn) : fnSame f f = true := by simp [fnSame, Bd.same_refl]
theorem fnsSame_refl : ∀ l : List Fn, fnsSame l l = true
  | [] => rfl
  | f :: l => by simp [fnsSame, fnSame_refl, fnsSame_refl l]
/-- A truth, and what was there is as it was. -/
def BoB (w : World) (v : Bool) (e : Ending) (w' : World) : Prop := e = .returned (.bool v) ∧ Below w.heap.size w w'
theorem QuB.bo {w w' : World} {v : Bool} {e : Ending} (h : QuB w v e w') : BoB w v e w' := by
  obtain ⟨he, k, rfl⟩ := h
  exact ⟨he, below_dN _ _ _⟩
/-- No list is too long. -/
structure Fn.Fit (f : Fn) : Prop where
  locals : f.locals.length ≤ 1000000
  sites : f.sites.length ≤ 1000000
  size : f.body.size ≤ 10000000
  wide : f.body.wide ≤ 10000000

end Go.Proofs.Ytpdebnecfknohaa
namespace Go.Proofs.Ytpdebnecfknohaa
open Go.RowKit
set_option linter.unusedVariables false
set_option maxRecDepth 20000
set_option linter.unusedSimpArgs false

theorem FnsS.at_ {S : Nat → Prop} {w w' : World} {A : Option Addr} {L : List Fn} (h : FnsS S w A L) (hb : Below w.heap.size w w') (i : Nat) (hi : i < L.length) : ∃ b o A1 a1 A2 a2 A3 a3, A = some ⟨b, o, none⟩ ∧ b < w'.heap.size ∧ (w'.cell? ⟨b, o + i * 5, none⟩ = some (.int .i64 L[i].name) ∧ w'.cell? ⟨b, o + i * 5 + 1, none⟩ = some (.int .i64 L[i].params) ∧ w'.cell? ⟨b, o + i * 5 + 2, none⟩ = some (.slice A1 L[i].locals.length a1) ∧ w'.cell? ⟨b, o + i * 5 + 3, none⟩ = some (.slice A2 L[i].sites.length a2) ∧ w'.cell? ⟨b, o + i * 5 + 4, none⟩ = some (.slice A3 L[i].body.len a3)) ∧ RdS (fun _ => True) w' A1 L[i].locals.length 1 (intV L[i].locals) ∧ RdS (fun _ => True) w' A2 L[i].sites.length 1 (intV L[i].sites) ∧ BodyV w' A3 L[i].body := by
  obtain ⟨b, o, hA, _, hc⟩ := h (by omega)
  obtain ⟨cs, ⟨A1, a1, A2, a2, A3, a3, rfl, r1, r2, r3⟩, hat⟩ := hc i hi
  have hl : b < w.heap.size := World.block_lt_of_cell? w ⟨b, o + i * 5 + 0, none⟩ (hat 0 _ rfl)
  refine ⟨b, o, A1, a1, A2, a2, A3, a3, hA, Nat.lt_of_lt_of_le hl hb.size, ⟨cell_old hb hl (hat 0 _ rfl), cell_old hb hl (hat 1 _ rfl), cell_old hb hl (hat 2 _ rfl), cell_old hb hl (hat 3 _ rfl), cell_old hb hl (hat 4 _ rfl)⟩, (r1.old hb (by omega)).below (fun _ _ => trivial), (r2.old hb (by omega)).below (fun _ _ => trivial), r3.at_.old hb⟩

/-- A module that is read. -/
structure MdR (w : World) (As Ag Af Ae : Option Addr) (M : Md) : Prop where
  strs : RdS (fun _ => True) w As M.strs.length 1 (strV M.strs)
  globs : RdS (fun _ => True) w Ag M.globs.length 1 (intV M.globs)
  funcs : FnsS (fun _ => True) w Af M.funcs
  ents : RdS (fun _ => True) w Ae M.ents.length 1 (intV M.ents)
theorem MdR.old {w w' : World} {As Ag Af Ae : Option Addr} {M : Md} (h : MdR w As Ag Af Ae M) (hb : Below w.heap.size w w') : MdR w' As Ag Af Ae M :=
  ⟨h.strs.old hb (by omega), h.globs.old hb (by omega), h.funcs.old hb, h.ents.old hb (by omega)⟩
structure Md.Fit (M : Md) : Prop where
  strs : M.strs.length ≤ 1000000
  globs : M.globs.length ≤ 1000000
  funcs : M.funcs.length ≤ 1000000
  ents : M.ents.length ≤ 1000000
  fns : ∀ f ∈ M.funcs, f.Fit
def mdSame (M N : Md) : Bool := decide (M.strs = N.strs) && (decide (M.globs = N.globs) && (fnsSame M.funcs N.funcs && decide (M.ents = N.ents)))
theorem mdSame_refl (M : Md) : mdSame M M = true := by simp [mdSame, fnsSame_refl]

end Go.Proofs.Ytpdebnecfknohaa
