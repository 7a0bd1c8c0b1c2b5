
/-
  Functions and modules in memory; what the reference's Used leaves.
-/
import Derived.Test.YtpdebnecfknohaaNu
namespace Go.Proofs.Ytpdebnecfknohaa
open Go.RowKit
set_option linter.unusedVariables false
set_option maxRecDepth 20000

structure Fn where
  name : Int
  params : Int
  locals : List Int
  sites : List Int
  body : Bd
/-- A function's cells. -/
def FnS (S : Nat → Prop) (w : World) (cs : List Value) (f : Fn) : Prop := ∃ Al cl As cs' Ab cb, cs = [.int .i64 f.name, .int .i64 f.params, .slice Al f.locals.length cl, .slice As f.sites.length cs', .slice Ab f.body.len cb] ∧ RdS S w Al f.locals.length 1 (intV f.locals) ∧ RdS S w As f.sites.length 1 (intV f.sites) ∧ BodyS S w Ab f.body
def FnsS (S : Nat → Prop) (w : World) (A : Option Addr) (L : List Fn) : Prop := 0 < L.length → ∃ b o, A = some ⟨b, o, none⟩ ∧ S b ∧ ∀ i (h : i < L.length), ∃ cs, FnS S w cs L[i] ∧ ∀ j u, cs[j]? = some u → w.cell? ⟨b, o + i * 5 + j, none⟩ = some u
theorem FnS.kept {S S' : Nat → Prop} {w w' : World} {cs : List Value} {f : Fn} (h : FnS S w cs f) (hk : Kept S w w') (hS : ∀ k, S k → k < w.heap.size → S' k) : FnS S' w' cs f := by
  obtain ⟨Al, cl, As, cs', Ab, cb, h1, h2, h3, h4⟩ := h
  exact ⟨Al, cl, As, cs', Ab, cb, h1, h2.kept hk hS (by decide), h3.kept hk hS (by decide), h4.kept hk hS⟩
theorem FnsS.kept {S S' : Nat → Prop} {w w' : World} {A : Option Addr} {L : List Fn} (h : FnsS S w A L) (hk : Kept S w w') (hS : ∀ k, S k → k < w.heap.size → S' k) : FnsS S' w' A L := fun hp => by
  obtain ⟨b, o, hA, hb, hc⟩ := h hp
  obtain ⟨cs, hf, h0⟩ := hc 0 hp
  obtain ⟨Al, cl, As, cs', Ab, cb, h1, _⟩ := hf
  refine ⟨b, o, hA, hS b hb (World.block_lt_of_cell? w ⟨b, o + 0 * 5 + 0, none⟩ (h0 0 _ (by rw [h1]; rfl))), fun i hi => ?_⟩
  obtain ⟨cs, hf, hcc⟩ := hc i hi
  exact ⟨cs, hf.kept hk hS, fun j u hj => hk.cell hb (hcc j u hj)⟩
theorem FnsS.old {S : Nat → Prop} {w w' : World} {A : Option Addr} {L : List Fn} (h : FnsS S w A L) (hb : Below w.heap.size w w') : FnsS S w' A L := h.kept (fun k _ hk => hb.block k hk) (fun _ h _ => h)
def usedF (g : List Int) (L : List Fn) (n : Int) : Bool := g.any (fun x => x == n) || L.any (fun f => f.name == n || f.locals.any (fun x => x == n) || f.sites.any (fun x => x == n))

theorem any_take_succ {l : List Int} {n : Int} {k : Nat} (hk : k < l.length) (h : (l.take k).any (fun x => x == n) = false) : (l.take (k + 1)).any (fun x => x == n) = (l[k] == n) := by
  rw [List.take_succ_eq_append_getElem hk, List.any_append, h]; simp
theorem any_of_take {l : List Int} {n : Int} {k : Nat} (h : (l.take k).any (fun x => x == n) = true) : l.any (fun x => x == n) = true := by
  rw [List.any_eq_true] at h ⊢
  obtain ⟨x, hx, h⟩ := h
  exact ⟨x, List.mem_of_mem_take hx, h⟩
theorem anyF_of {l : List Fn} {p : Fn → Bool} {k : Nat} (hk : k < l.length) (h : p l[k] = true) : l.any p = true := List.any_eq_true.2 ⟨_, List.getElem_mem hk, h⟩

set_option maxRecDepth 20000 in
set_option maxHeartbeats 2000000 in
theorem used_any (m0 m3 : Value) (Ag Af : Option Addr) (cg cf : Nat) (g : List Int) (L : List Fn) (n : Int) (w : World) (h1 : RdS (fun _ => True) w Ag g.length 1 (intV g)) (h2 : FnsS (fun _ => True) w Af L) (hg : g.length ≤ 1000000) (hL : L.length ≤ 1000000) (hlo : ∀ f ∈ L, f.locals.length ≤ 1000000 ∧ f.sites.length ≤ 1000000) :
    Calls Try.prog 44 #[.agg #[m0, .slice Ag g.length cg, .slice Af L.length cf, m3], .int .i64 n] w fun e w' => e = .returned (.bool (usedF g L n)) ∧ Below w.heap.size w w' := by
  have H1 := Lib.hid h1
  have H2 := Lib.hid h2
  have HLO := Lib.hid hlo
  clear h1 h2 hlo
  obtain ⟨G, hG⟩ : ∃ G, G = g.length := ⟨_, rfl⟩
  obtain ⟨N, hN⟩ : ∃ N, N = L.length := ⟨_, rfl⟩
  rw [← hG] at hg
  rw [← hN] at hL
  have HG := Lib.hid hG
  have HN := Lib.hid hN
  rw [← hG, ← hN]
  clear hG hN
  have HB0 : Hid (Below w.heap.size w (w.alloc (.cells #[m0, .slice Ag G cg, .slice Af N cf, m3] 30))) := (Below.refl _ _).alloc (Nat.le_refl _) _
  have KM : Hid (Blk (w.alloc (.cells #[m0, .slice Ag G cg, .slice Af N cf, m3] 30)) w.heap.size 30 #[m0, .slice Ag G cg, .slice Af N cf, m3]) := Blk.new w 30 _
  go_enter Try.func44, Try.ntmps44
  go_wp2_with fail
  generalize w.alloc (.cells #[m0, .slice Ag G cg, .slice Af N cf, m3] 30) = W0 at *
  go_loopw [5] (fun s5 wr => ∃ k : Nat, k ≤ G ∧ s5 = .int .i64 (k : Int) ∧ W0 = wr ∧ Hid ((g.take k).any (fun x => x == n) = false)) (fun s5 _ => G - (intOf s5).toNat)
  case atStart => exact ⟨0, Nat.zero_le _, rfl, rfl, by simp [Hid]⟩
  case round =>
    obtain ⟨k, hk, rfl, rfl, hE⟩ := hrel
    obtain ⟨m01, m11, m21, m31⟩ := KM.out.c4
    by_cases hlt : k < G
    · have hkl : k < g.length := by have := HG.out; omega
      obtain ⟨b, o, rfl, _, dc⟩ := H1.out.2 (by omega)
      have c1 := cell_old HB0.out (World.block_lt_of_cell? w ⟨b, o + k, none⟩ (dc k _ (intV_get g k hkl))) (dc k _ (intV_get g k hkl))
      have hE2 := any_take_succ hkl hE.out
      clear dc
      by_cases hx : g[k] = n
      · have HR : Hid (usedF g L n = true) := by
          show _ = _
          unfold usedF
          rw [any_of_take (k := k + 1) (by rw [hE2]; simpa using hx)]; rfl
        rw [hx] at c1
        clear hE2 hx
        go_wp2
        go_ret
        exact ⟨congrArg (fun b => Ending.returned (Value.bool b)) HR.out.symm, HB0.out⟩
      · have hq : (g[k] == n) = false := by simpa using hx
        rw [hq] at hE2
        have HE2 := Lib.hid hE2
        generalize g[k] = gk' at *
        clear hE2 hx
        go_wp2
        go_roundw
        case rel => exact ⟨k + 1, by omega, by go_num, trivial, HE2⟩
        case measure => simp [intOf]; omega
    · obtain rfl : k = G := by omega
      have HEg : Hid (g.any (fun x => x == n) = false) := by
        have := hE.out
        rw [List.take_of_length_le (by have := HG.out; omega)] at this
        exact this
      go_wp2_with fail
      go_loopw [6] (fun s6 wr => ∃ i : Nat, i ≤ N ∧ s6 = .int .i64 (i : Int) ∧ Hid (Below W0.heap.size W0 wr) ∧ Hid ((L.take i).any (fun f => f.name == n || f.locals.any (fun x => x == n) || f.sites.any (fun x => x == n)) = false)) (fun s6 _ => N - (intOf s6).toNat)
      case atStart => exact ⟨0, Nat.zero_le _, rfl, Below.refl _ _, by simp [Hid]⟩
      case round =>
        obtain ⟨i, hi, rfl, hB, hF⟩ := hrel
        have KMr := KM.out.old hB.out
        obtain ⟨n01, n11, n21, n31⟩ := KMr.c4
        have HBw := Lib.hid (HB0.out.trans (hB.out.mono HB0.out.size))
        clear m01 m11 m21 m31
        by_cases hlt : i < N
        · have hiL : i < L.length := by have := HN.out; omega
          obtain ⟨b, o, rfl, _, dc⟩ := H2.out (by omega)
          obtain ⟨cs, ⟨Al, cl, As, csc, Ab, cb, hcs, rl, rs, _⟩, hcc⟩ := dc i hiL
          subst hcs
          have hbl := World.block_lt_of_cell? w ⟨b, o + i * 5 + 0, none⟩ (hcc 0 _ rfl)
          have e0 := cell_old HBw.out hbl (hcc 0 _ rfl)
          have e1 := cell_old HBw.out hbl (hcc 1 _ rfl)
          have e2 := cell_old HBw.out hbl (hcc 2 _ rfl)
          have e3 := cell_old HBw.out hbl (hcc 3 _ rfl)
          have e4 := cell_old HBw.out hbl (hcc 4 _ rfl)
          have hlo2 := HLO.out _ (List.getElem_mem hiL)
          have RNl := Lib.hid rl
          have RNs := Lib.hid rs
          simp only [Nat.add_zero] at e0
          obtain ⟨Nl, hNl⟩ : ∃ Nl, Nl = L[i].locals.length := ⟨_, rfl⟩
          obtain ⟨Ns, hNs⟩ : ∃ Ns, Ns = L[i].sites.length := ⟨_, rfl⟩
          have HNl := Lib.hid hNl
          have HNs := Lib.hid hNs
          rw [← hNl] at e2 hlo2
          rw [← hNs] at e3 hlo2
          generalize L[i].body.len = nb at *
          generalize L[i].params = pr at *
          clear dc hcc rl rs hNl hNs
          by_cases hnm : L[i].name = n
          · have HR : Hid (usedF g L n = true) := by
              show _ = _
              unfold usedF
              rw [anyF_of hiL (by simp [hnm])]; simp
            rw [hnm] at e0
            clear hnm
            go_wp2
            go_ret
            exact ⟨congrArg (fun b => Ending.returned (Value.bool b)) HR.out.symm, HBw.out.alloc HBw.out.size _⟩
          have hnq : (L[i].name == n) = false := by simpa using hnm
          have hnm := Lib.hid hnq
          have HB1 := Lib.hid (HBw.out.alloc HBw.out.size (.cells #[.int .i64 L[i].name, .int .i64 pr, .slice Al Nl cl, .slice As Ns csc, .slice Ab nb cb] 40))
          have KF1 := Lib.hid (Blk.new wr 40 #[.int .i64 L[i].name, .int .i64 pr, .slice Al Nl cl, .slice As Ns csc, .slice Ab nb cb])
          have HB10 := Lib.hid (hB.out.alloc hB.out.size (.cells #[.int .i64 L[i].name, .int .i64 pr, .slice Al Nl cl, .slice As Ns csc, .slice Ab nb cb] 40))
          have hpr : ∃ nm, nm = L[i].name := ⟨_, rfl⟩
          go_wp2_with fail
          clear e0 e1 e2 e3 e4 n01 n11 n21 n31 hnq
          obtain ⟨qf, hqf⟩ : ∃ qf, qf = wr.heap.size := ⟨_, rfl⟩
          rw [← hqf]
          rw [← hqf] at KF1
          clear hqf
          generalize wr.alloc (.cells #[.int .i64 L[i].name, .int .i64 pr, .slice Al Nl cl, .slice As Ns csc, .slice Ab nb cb] 40) = W1 at *
          obtain ⟨k0, k1, k2, k3, k4⟩ := KF1.out.c5
          go_loopw [8] (fun sq wi => ∃ k : Nat, k ≤ Nl ∧ sq = .int .i64 (k : Int) ∧ W1 = wi ∧ Hid (((L[i].locals).take k).any (fun x => x == n) = false)) (fun sq _ => Nl - (intOf sq).toNat)
          case atStart => exact ⟨0, Nat.zero_le _, rfl, rfl, by simp [Hid]⟩
          case round =>
            obtain ⟨k, hk, rfl, rfl, hE⟩ := hrel
            by_cases hlt2 : k < Nl
            · have hkl : k < L[i].locals.length := by have := HNl.out; omega
              obtain ⟨b2, o2, rfl, _, dc⟩ := RNl.out.2 (by have := HNl.out; omega)
              have c1 := cell_old HB1.out (World.block_lt_of_cell? w ⟨b2, o2 + k, none⟩ (dc k _ (intV_get _ k hkl))) (dc k _ (intV_get _ k hkl))
              have hE2 := any_take_succ hkl hE.out
              clear dc
              by_cases hx : L[i].locals[k] = n
              · have HR : Hid (usedF g L n = true) := by
                  show _ = _
                  unfold usedF
                  rw [anyF_of hiL (by rw [any_of_take (l := L[i].locals) (k := k + 1) (by rw [hE2]; simpa using hx)]; simp)]; simp
                rw [hx] at c1
                clear hE2 hx
                go_wp2
                go_ret
                exact ⟨congrArg (fun b => Ending.returned (Value.bool b)) HR.out.symm, HB1.out⟩
              · have hq : (L[i].locals[k] == n) = false := by simpa using hx
                rw [hq] at hE2
                have HE2 := Lib.hid hE2
                generalize L[i].locals[k] = gk' at *
                clear hE2 hx
                go_wp2
                go_roundw
                case rel => exact ⟨k + 1, by omega, by go_num, trivial, HE2⟩
                case measure => simp [intOf]; omega
            · obtain rfl : k = Nl := by omega
              have HENl : Hid (L[i].locals.any (fun x => x == n) = false) := by
                have := hE.out
                rw [List.take_of_length_le (by have := HNl.out; omega)] at this
                exact this
              go_wp2_with fail
              go_loopw [9] (fun sq wi => ∃ k : Nat, k ≤ Ns ∧ sq = .int .i64 (k : Int) ∧ W1 = wi ∧ Hid (((L[i].sites).take k).any (fun x => x == n) = false)) (fun sq _ => Ns - (intOf sq).toNat)
              case atStart => exact ⟨0, Nat.zero_le _, rfl, rfl, by simp [Hid]⟩
              case round =>
                obtain ⟨k, hk, rfl, rfl, hE⟩ := hrel
                by_cases hlt2 : k < Ns
                · have hkl : k < L[i].sites.length := by have := HNs.out; omega
                  obtain ⟨b2, o2, rfl, _, dc⟩ := RNs.out.2 (by have := HNs.out; omega)
                  have c1 := cell_old HB1.out (World.block_lt_of_cell? w ⟨b2, o2 + k, none⟩ (dc k _ (intV_get _ k hkl))) (dc k _ (intV_get _ k hkl))
                  have hE2 := any_take_succ hkl hE.out
                  clear dc
                  by_cases hx : L[i].sites[k] = n
                  · have HR : Hid (usedF g L n = true) := by
                      show _ = _
                      unfold usedF
                      rw [anyF_of hiL (by rw [any_of_take (l := L[i].sites) (k := k + 1) (by rw [hE2]; simpa using hx)]; simp)]; simp
                    rw [hx] at c1
                    clear hE2 hx
                    go_wp2
                    go_ret
                    exact ⟨congrArg (fun b => Ending.returned (Value.bool b)) HR.out.symm, HB1.out⟩
                  · have hq : (L[i].sites[k] == n) = false := by simpa using hx
                    rw [hq] at hE2
                    have HE2 := Lib.hid hE2
                    generalize L[i].sites[k] = gk' at *
                    clear hE2 hx
                    go_wp2
                    go_roundw
                    case rel => exact ⟨k + 1, by omega, by go_num, trivial, HE2⟩
                    case measure => simp [intOf]; omega
                · obtain rfl : k = Ns := by omega
                  have HENs : Hid (L[i].sites.any (fun x => x == n) = false) := by
                    have := hE.out
                    rw [List.take_of_length_le (by have := HNs.out; omega)] at this
                    exact this
                  have HEi : Hid ((L.take (i + 1)).any (fun f => f.name == n || f.locals.any (fun x => x == n) || f.sites.any (fun x => x == n)) = false) := by
                    show _ = _
                    rw [List.take_succ_eq_append_getElem hiL, List.any_append, hF.out]
                    simp [hnm.out, HENl.out, HENs.out]
                  go_wp2
                  go_roundw
                  case rel => exact ⟨i + 1, by omega, by go_num, HB10, HEi⟩
                  case measure => simp [intOf]; omega
        · obtain rfl : i = N := by omega
          have HR : Hid (usedF g L n = false) := by
            show _ = _
            have := hF.out
            rw [List.take_of_length_le (by have := HN.out; omega)] at this
            unfold usedF
            rw [HEg.out, this]; rfl
          go_wp2
          go_ret
          exact ⟨congrArg (fun b => Ending.returned (Value.bool b)) HR.out.symm, HBw.out⟩
end Go.Proofs.Ytpdebnecfknohaa
