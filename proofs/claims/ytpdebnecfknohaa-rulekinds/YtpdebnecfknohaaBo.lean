/-
  RuleBounds: rows under way, and what the law hands on in the end.
-/
import Derived.Test.YtpdebnecfknohaaRw
import Derived.Test.YtpdebnecfknohaaAr
namespace Go.Proofs.Ytpdebnecfknohaa
open Go.RowKit
set_option linter.unusedVariables false
set_option maxRecDepth 20000

/-- What is left behind 'x.f = append(x.f, u)': x's box at q, its cell j; elements of m cells. -/
structure StepM (wr wf : World) (B q tq j e m : Nat) (cs : Array Value) (old new : Value) (n : Nat) (xs : List Value) : Prop where
  box : Blk wf q tq (cs.setIfInBounds j new)
  own : wf.ownsRow B e m new n xs
  kept : ∀ k, k < wr.heap.size → k ≠ q → some k ≠ old.ownBlock → wf.heap[k]? = wr.heap[k]?
  size : wr.heap.size ≤ wf.heap.size
  bel : ∀ (B' : Nat) (a : World), Below B' a wr → B' ≤ B → B' ≤ q → B' ≤ wr.heap.size → Below B' a wf
theorem StepM.low {wr wf : World} {B q tq j e m : Nat} {cs : Array Value} {old new : Value} {n : Nat} {xs : List Value} (h : StepM wr wf B q tq j e m cs old new n xs) {n' : Nat} {ys : List Value} (ho : wr.ownsRow B e m old n' ys) (hB : B ≤ wr.heap.size) : Kept (fun k => k < B ∧ k ≠ q) wr wf := fun k hk hkw =>
  h.kept k hkw hk.2 (fun he => by have := (ho.lt k he.symm).1; have := hk.1; omega)
theorem rowM_step (e t m bytes : Nat) (z : Value) (ht : Try.prog.underlying t = some (.slice e)) (hinfo : (Try.prog.info? e).map (fun i => (i.zero, i.size, i.bytes)) = some (some z, m, bytes)) (hz : z.cells.size = m) (hm : 0 < m) (hby : bytes ≤ 128)
    {wr w3 : World} {B q tq j n cS : Nat} {As : Option Addr} {cs : Array Value} {xs : List Value} (us : List Value) (hlen : us.length = m) (hu : ∀ u ∈ us, u.oneCell' = true) (hb : Below wr.heap.size wr w3) (hbox : Blk wr q tq cs) (htq : tq ≠ e) (hj : cs[j]? = some (.slice As n cS)) (hown : wr.ownsRow B e m (.slice As n cS) n xs) (hl : n ≤ 10000000) (hB : B ≤ wr.heap.size) :
    ∃ q5 c5 w5, (Builtin.append_ #[t, t] t #[.slice As n cS, .slice (some ⟨w3.heap.size, 0, none⟩) 1 1]).run Try.prog (w3.alloc (.cells us.toArray e)) = .ok (.slice (some ⟨q5, 0, none⟩) (n + 1) c5) w5 ∧ w5.cell? ⟨q, j, none⟩ = some (.slice As n cS) ∧ w5.frozen? ⟨q, j, none⟩ = false ∧ q < w5.heap.size ∧
      Hid (StepM wr (w5.setCell ⟨q, j, none⟩ (.slice (some ⟨q5, 0, none⟩) (n + 1) c5)) B q tq j e m cs (.slice As n cS) (.slice (some ⟨q5, 0, none⟩) (n + 1) c5) (n + 1) (xs ++ us)) := by
  obtain ⟨i0, hi0, hz0, hz1, hz2⟩ := info_parts hinfo
  have hown3 := own_old hown hb
  have hc : ∀ k v, us[k]? = some v → (w3.alloc (.cells us.toArray e)).cell? ((⟨w3.heap.size, 0, none⟩ : Addr).add k) = some v := by
    intro k v hk
    rw [Go.WideShapes.add_plain, cell_of_row _ w3.heap.size _ _ e (0, 0) (heap_alloc_new w3 _), Nat.zero_add]
    simpa using hk
  obtain ⟨v5, w5, hr5, hO5, hg5, _, hat⟩ := run_append_own_at (P := Try.prog) (w3.alloc (.cells us.toArray e)) B t t e i0 z m bytes ht hi0 hz0 hz1 hz2 hz hm (.slice As n cS) n xs (hown3.alloc _) ⟨w3.heap.size, 0, none⟩ 1 1 us (by omega) hc hu (by unfold maxLen; omega) (Nat.le_trans (Nat.mul_le_mul (show n + 1 ≤ 10000001 by omega) hby) (by decide)) (by have := hb.size; simp; omega)
  obtain ⟨q5, c5, rfl⟩ : ∃ q5 c5, v5 = .slice (some ⟨q5, 0, none⟩) (n + 1) c5 := by
    rcases hO5.2 with ⟨_, h1⟩ | ⟨k, cap, cur, hv, _⟩
    · omega
    · exact ⟨k, cap, hv⟩
  have hbox3 := hbox.old hb
  have hbox5 : Blk w5 q tq cs := (hbox3.alloc _).grown hg5 (own_ne hown3 hbox3 (fun x => htq x.symm))
  have hsz := hb.size
  have hsz5 := hg5.size
  refine ⟨q5, c5, w5, hr5, (hbox5.cell j).trans hj, hbox5.frozen j, hbox5.lt, hbox5.set_ j _, ?_, fun k hk hkq hko => ?_, ?_, fun B' a hBa hB1 hB2 hB3 => ?_⟩
  · refine own_blocks hO5 (fun k hk => Below.heap_setCell w5 ⟨q, j, none⟩ _ k (fun e0 => ?_))
    rcases hO5.2 with ⟨h0, _⟩ | ⟨g, cap, cur, hv, _, hh, _⟩
    · cases h0
    · have e1 : k = g := by rw [hv] at hk; simpa [Value.ownBlock] using hk
      have e2 : k = q := e0
      subst e1
      subst e2
      exact htq (hbox5.uniq hh)
  · rw [Below.heap_setCell w5 ⟨q, j, none⟩ _ k hkq, hg5.block k (by simp; omega) hko, heap_alloc_old _ _ (by omega), hb.block k hk]
  · simp [World.setCell] at hsz5 ⊢; omega
  · exact Below.set1 (((hBa.trans (hb.mono hB3)).alloc (by omega) _).grown hg5 (by simp; omega) (fun k hk => by have := (hown3.lt k hk).1; omega)) hB2 _
end Go.Proofs.Ytpdebnecfknohaa
namespace Go.Proofs.Ytpdebnecfknohaa
open Go.RowKit
set_option linter.unusedVariables false
set_option linter.unusedSimpArgs false
set_option maxRecDepth 20000

def sx (n : Nat) : List (List UInt8) := (List.range n).map fun i => [UInt8.ofNat (97 + i / 26), UInt8.ofNat (97 + i % 26)]
theorem sx_len (n : Nat) : (sx n).length = n := by simp [sx]
theorem sx_succ (n : Nat) : sx (n + 1) = sx n ++ [[UInt8.ofNat (97 + n / 26), UInt8.ofNat (97 + n % 26)]] := by simp [sx, List.range_succ]
def up (n : Nat) : List Int := (List.range n).map fun (i : Nat) => (i : Int)
theorem up_len (n : Nat) : (up n).length = n := by simp [up]
theorem up_succ (n : Nat) : up (n + 1) = up n ++ [(n : Int)] := by simp [up, List.range_succ]
def retB : Nat → Bd
  | 0 => .nil
  | n + 1 => .cons 6 0 0 1 0 [] .nil (retB n)
def nest : Nat → Bd
  | 0 => .cons 6 0 0 1 0 [] .nil .nil
  | n + 1 => .cons 7 0 0 0 0 [] (nest n) .nil
def bdF (c n : Nat) : Fn := ⟨59, if c = 4 then ((5 + n : Nat) : Int) else 0, if c = 1 then up (39 + n) else if c = 4 then up (5 + n) else [58], if c = 2 then up (39 + n) else [57], if c = 3 then retB (399 + n) else if c = 5 then nest (7 + n) else .nil⟩
def bdM (c n : Nat) : Md := ⟨if c = 6 then (sx 60).set 59 (List.replicate (39 + n) 122) else sx 60, if c = 0 then up (39 + n) else [], [bdF c n], []⟩
def bdW (c : Nat) : Int × Int × Int := (if c = 4 then 4 else if c = 5 then 6 else if c = 6 then 1 else 2, if c = 0 ∨ c = 6 then -1 else 0, if c = 5 then 9 else -1)
theorem bd0 : toldF (treeF (bdM 0 2)) 2 (-1) (-1) = true ∧ toldF (treeF (bdM 0 1)) 0 0 0 = true := by decide +kernel
theorem bd1 : toldF (treeF (bdM 1 2)) 2 0 (-1) = true ∧ toldF (treeF (bdM 1 1)) 0 0 0 = true := by decide +kernel
theorem bd2 : toldF (treeF (bdM 2 2)) 2 0 (-1) = true ∧ toldF (treeF (bdM 2 1)) 0 0 0 = true := by decide +kernel
theorem bd3 : toldF (treeF (bdM 3 2)) 2 0 (-1) = true ∧ toldF (treeF (bdM 3 1)) 0 0 0 = true := by decide +kernel
theorem bd4 : toldF (treeF (bdM 4 2)) 4 0 (-1) = true ∧ toldF (treeF (bdM 4 1)) 0 0 0 = true := by decide +kernel
theorem bd5 : toldF (treeF (bdM 5 2)) 6 0 9 = true ∧ toldF (treeF (bdM 5 1)) 0 0 0 = true := by decide +kernel
theorem bd6 : toldF (treeF (bdM 6 2)) 1 (-1) (-1) = true ∧ toldF (treeF (bdM 6 1)) 0 0 0 = true := by decide +kernel
theorem up_wf (n : Nat) (h : n ≤ 1000000) : WfI (up n) := by
  intro x hx
  simp [up] at hx
  obtain ⟨i, hi, rfl⟩ := hx
  omega
theorem retB_size : ∀ n, (retB n).size = n ∧ (retB n).len = n
  | 0 => ⟨rfl, rfl⟩
  | n + 1 => by have := retB_size n; simp [retB, Bd.size, Bd.len, this.1, this.2]
theorem retB_wide : ∀ n, (retB n).wide = 0
  | 0 => rfl
  | n + 1 => by have := retB_wide n; simp [retB, Bd.wide, this]
theorem nest_size : ∀ n, (nest n).size = n + 1
  | 0 => rfl
  | n + 1 => by have := nest_size n; simp [nest, Bd.size, this]
theorem nest_wide : ∀ n, (nest n).wide = 0
  | 0 => rfl
  | n + 1 => by have := nest_wide n; simp [nest, Bd.wide, this]
theorem nest_len (n : Nat) : (nest n).len = 1 := by cases n <;> rfl
theorem bd_wf (c n : Nat) (hn : n ≤ 2) : (bdM c n).Wf := by
  have h58 : WfI [58] := by intro x hx; simp at hx; omega
  have h57 : WfI [57] := by intro x hx; simp at hx; omega
  refine ⟨?_, ⟨?_, ?_⟩, ⟨by simp [bdM], by intro x hx; simp [bdM] at hx⟩, by simp [bdM], ?_, ?_⟩
  · simp only [bdM]; split <;> simp [sx_len]
  · simp only [bdM]; split <;> simp [up_len]; omega
  · simp only [bdM]; split
    · exact up_wf _ (by omega)
    · intro x hx; simp at hx
  · intro f hf
    have : f = bdF c n := by simpa [bdM] using hf
    subst this
    refine ⟨?_, ?_, ?_, ?_, ?_, ?_⟩
    · simp only [bdF]; split
      · exact up_wf _ (by omega)
      · split
        · exact up_wf _ (by omega)
        · exact h58
    · simp only [bdF]; split
      · exact up_wf _ (by omega)
      · exact h57
    · simp only [bdF]; split
      · simp [up_len]; omega
      · split <;> simp [up_len]; omega
    · simp only [bdF]; split <;> simp [up_len]; omega
    · simp only [bdF]; split
      · rw [(retB_size _).1]; omega
      · split
        · rw [nest_size]; omega
        · simp [Bd.size]
    · simp only [bdF]; split
      · rw [retB_wide]; omega
      · split
        · rw [nest_wide]; omega
        · simp [Bd.wide]
  · intro x hx; simp [bdM, bdF, namesL] at hx; omega
end Go.Proofs.Ytpdebnecfknohaa
namespace Go.Proofs.Ytpdebnecfknohaa
open Go.RowKit
set_option linter.unusedVariables false
set_option linter.unusedSimpArgs false
set_option maxRecDepth 20000

/-- A row that a box holds, under way: the box is F of the row; what is below B, but the box, is as it was. -/
structure Rowing (B q tq j e m : Nat) (F : Value → Array Value) (w wp wr : World) (v : Value) (n : Nat) (xs : List Value) : Prop where
  box : Blk wr q tq (F v)
  own : wr.ownsRow B e m v n xs
  kept : Kept (fun k => k < B ∧ k ≠ q) wp wr
  bel : Below w.heap.size w wr
  le : w.heap.size ≤ q ∧ w.heap.size ≤ B ∧ B ≤ wr.heap.size ∧ w.heap.size ≤ wr.heap.size ∧ wp.heap.size ≤ wr.heap.size
theorem Rowing.step {B q tq j e m : Nat} {F : Value → Array Value} {w wp wr : World} {As : Option Addr} {cS n : Nat} {xs : List Value} (h : Rowing B q tq j e m F w wp wr (.slice As n cS) n xs) (t bytes : Nat) (z : Value) (ht : Try.prog.underlying t = some (.slice e)) (hinfo : (Try.prog.info? e).map (fun i => (i.zero, i.size, i.bytes)) = some (some z, m, bytes)) (hz : z.cells.size = m) (hm : 0 < m) (hby : bytes ≤ 128)
    (hF : ∀ v v', (F v).setIfInBounds j v' = F v') (hG : ∀ v, (F v)[j]? = some v) (htq : tq ≠ e) (us : List Value) (hlen : us.length = m) (hu : ∀ u ∈ us, u.oneCell' = true) {w3 : World} (hb : Below wr.heap.size wr w3) (hl : n ≤ 10000000) :
    ∃ q5 c5 w5, (Builtin.append_ #[t, t] t #[.slice As n cS, .slice (some ⟨w3.heap.size, 0, none⟩) 1 1]).run Try.prog (w3.alloc (.cells us.toArray e)) = .ok (.slice (some ⟨q5, 0, none⟩) (n + 1) c5) w5 ∧ wr.cell? ⟨q, j, none⟩ = some (.slice As n cS) ∧ q < wr.heap.size ∧ w5.cell? ⟨q, j, none⟩ = some (.slice As n cS) ∧ w5.frozen? ⟨q, j, none⟩ = false ∧ q < w5.heap.size ∧
      Hid (Rowing B q tq j e m F w wp (w5.setCell ⟨q, j, none⟩ (.slice (some ⟨q5, 0, none⟩) (n + 1) c5)) (.slice (some ⟨q5, 0, none⟩) (n + 1) c5) (n + 1) (xs ++ us)) := by
  obtain ⟨q5, c5, w5, hr, hc, hf, hz5, hs⟩ := rowM_step e t m bytes z ht hinfo hz hm hby us hlen hu hb h.box htq (j := j) (hG _) h.own hl h.le.2.2.1
  refine ⟨q5, c5, w5, hr, (h.box.cell j).trans (hG _), h.box.lt, hc, hf, hz5, ?_, hs.out.own, ?_, ?_, h.le.1, h.le.2.1, ?_, ?_, ?_⟩
  · have := hs.out.box
    rwa [hF] at this
  · intro k hk hkw
    exact (hs.out.low h.own h.le.2.2.1 k hk (by have := h.le.2.2.2.2; omega)).trans (h.kept k hk hkw)
  · exact hs.out.bel _ _ h.bel h.le.2.1 h.le.1 h.le.2.2.2.1
  · have := hs.out.size; have := h.le.2.2.1; omega
  · have := hs.out.size; have := h.le.2.2.2.1; omega
  · have := hs.out.size; have := h.le.2.2.2.2; omega
theorem Rowing.kept' {B q g tq j e m : Nat} {gf : Nat} {F : Value → Array Value} {w wp wr : World} {v : Value} {n : Nat} {xs : List Value} (h : Rowing B q tq j e m F w wp wr v n xs) (hq : q = g ∨ q = gf := by first | exact .inl rfl | exact .inr rfl) : Kept (fun k => k < B ∧ k ≠ g ∧ k ≠ gf) wp wr :=
  fun k hk hl => h.kept k ⟨hk.1, by rcases hq with rfl | rfl; exact hk.2.1; exact hk.2.2⟩ hl
theorem RdS.ownS {S : Nat → Prop} {w : World} {base n size e c : Nat} {A : Option Addr} {xs : List Value} (h : w.ownsRow base e size (.slice A n c) n xs) (hS : ∀ k, some k = (Value.slice A n c).ownBlock → k < w.heap.size → S k) : RdS S w A n size xs := by
  refine ⟨h.1, fun hp => ?_⟩
  obtain ⟨b, o, hA, hb, hc⟩ := (RdS.own h).2 hp
  refine ⟨b, o, hA, ?_, hc⟩
  subst hA
  refine hS b rfl ?_
  rcases h.2 with ⟨h1, _⟩ | ⟨q, cap, cur, hv, h2, hk, _⟩
  · cases h1
  · injection hv with hv
    injection hv with hv
    injection hv with hv
    subst hv
    exact heap_ltM hk

/-- What the law hands on in the end. -/
structure Fin7 (g : Nat) (w wx : World) (M : Md) (f : Fn) (AS Ag Al At Ab : Option Addr) (cS cg cl ct cb gf : Nat) : Prop where
  fn : M.funcs = [f] ∧ M.ents = []
  bm : Blk wx g 30 #[.slice AS M.strs.length cS, .slice Ag M.globs.length cg, .slice none 0 0, .slice none 0 0]
  bf : Blk wx gf 40 #[.int .i64 f.name, .int .i64 f.params, .slice Al f.locals.length cl, .slice At f.sites.length ct, .slice Ab f.body.len cb]
  rs : RdS (fun k => k ≠ g) wx AS M.strs.length 1 (strV M.strs)
  rg : RdS (fun k => k ≠ g) wx Ag M.globs.length 1 (intV M.globs)
  rl : RdS (fun k => k ≠ g) wx Al f.locals.length 1 (intV f.locals)
  rt : RdS (fun k => k ≠ g) wx At f.sites.length 1 (intV f.sites)
  rb : BodyS (fun k => k ≠ g) wx Ab f.body
  bel : Below w.heap.size w wx
  le : w.heap.size ≤ g ∧ w.heap.size ≤ wx.heap.size
theorem Fin7.fin {g : Nat} {w wx : World} {M : Md} {f : Fn} {AS Ag Al At Ab : Option Addr} {cS cg cl ct cb gf : Nat} (h : Fin7 g w wx M f AS Ag Al At Ab cS cg cl ct cb gf) (w4 : World)
    (hw4 : w4 = (wx.alloc (.cells #[.int .i64 f.name, .int .i64 f.params, .slice Al f.locals.length cl, .slice At f.sites.length ct, .slice Ab f.body.len cb] 40)).setCell ⟨g, 2, none⟩ (.slice (some ⟨wx.heap.size, 0, none⟩) 1 1)) :
    Below w.heap.size w w4 ∧ MdR w4 AS Ag (some ⟨wx.heap.size, 0, none⟩) none M ∧ Blk w4 g 30 #[.slice AS M.strs.length cS, .slice Ag M.globs.length cg, .slice (some ⟨wx.heap.size, 0, none⟩) 1 1, .slice none 0 0] := by
  have hK : Kept (fun k => k ≠ g) wx w4 := fun k hk hkx => by
    rw [hw4, Below.heap_setCell _ _ _ _ hk, heap_alloc_old _ _ hkx]
  have hg := h.bm.lt
  have hC : Blk w4 wx.heap.size 40 #[.int .i64 f.name, .int .i64 f.params, .slice Al f.locals.length cl, .slice At f.sites.length ct, .slice Ab f.body.len cb] := by
    rw [hw4]; exact (Blk.new wx 40 _).far (by show _ ≠ g; omega) _
  refine ⟨?_, ⟨?_, ?_, ?_, ?_⟩, ?_⟩
  · rw [hw4]; exact (h.bel.alloc h.le.2 _).setCell (p := ⟨g, 2, none⟩) h.le.1 _
  · exact h.rs.kept hK (fun _ _ _ => trivial) (by decide)
  · exact h.rg.kept hK (fun _ _ _ => trivial) (by decide)
  · rw [h.fn.1]
    exact fns_blk hC (h.rl.kept hK (fun _ _ _ => trivial) (by decide)) (h.rt.kept hK (fun _ _ _ => trivial) (by decide)) (h.rb.kept hK (fun _ _ _ => trivial))
  · rw [h.fn.2]; exact RdS.none_ _ _ _
  · rw [hw4]; exact (h.bm.alloc _).set_ 2 _
/-- Ahead of the switch. -/
structure Pre7 (g gL gT gf : Nat) (w wp : World) (AS : Option Addr) (cS : Nat) : Prop where
  bm : Blk wp g 30 #[.slice AS 60 cS, .slice none 0 0, .slice none 0 0, .slice none 0 0]
  bf : Blk wp gf 40 #[.int .i64 59, .int .i64 0, .slice (some ⟨gL, 0, none⟩) 1 1, .slice (some ⟨gT, 0, none⟩) 1 1, .slice none 0 0]
  os : wp.ownsRow w.heap.size 9 1 (.slice AS 60 cS) 60 (strV (sx 60))
  kL : Blk wp gL 3 #[.int .i64 58]
  kT : Blk wp gT 3 #[.int .i64 57]
  bel : Below w.heap.size w wp
  le : w.heap.size ≤ g ∧ g < gL ∧ gL < gT ∧ gT < gf
theorem Pre7.rs {g gL gT gf : Nat} {w wp : World} {AS : Option Addr} {cS : Nat} (h : Pre7 g gL gT gf w wp AS cS) : RdS (fun k => k < wp.heap.size ∧ k ≠ g ∧ k ≠ gf) wp AS 60 1 (strV (sx 60)) :=
  RdS.ownS h.os fun k hk hlt => ⟨hlt, fun e => own_ne h.os h.bm (by decide) (by rw [← e]; exact hk), fun e => own_ne h.os h.bf (by decide) (by rw [← e]; exact hk)⟩
theorem Pre7.rL {g gL gT gf : Nat} {w wp : World} {AS : Option Addr} {cS : Nat} (h : Pre7 g gL gT gf w wp AS cS) : RdS (fun k => k < wp.heap.size ∧ k ≠ g ∧ k ≠ gf) wp (some ⟨gL, 0, none⟩) 1 1 (intV [58]) :=
  ⟨rfl, fun _ => ⟨gL, 0, rfl, ⟨h.kL.lt, by have := h.le; omega, by have := h.le; omega⟩, fun j u hj => by rw [Nat.zero_add, h.kL.cell]; simpa [intV] using hj⟩⟩
theorem Pre7.rT {g gL gT gf : Nat} {w wp : World} {AS : Option Addr} {cS : Nat} (h : Pre7 g gL gT gf w wp AS cS) : RdS (fun k => k < wp.heap.size ∧ k ≠ g ∧ k ≠ gf) wp (some ⟨gT, 0, none⟩) 1 1 (intV [57]) :=
  ⟨rfl, fun _ => ⟨gT, 0, rfl, ⟨h.kT.lt, by have := h.le; omega, by have := h.le; omega⟩, fun j u hj => by rw [Nat.zero_add, h.kT.cell]; simpa [intV] using hj⟩⟩
/-- Globals. -/
theorem arm0 {g gL gT gf : Nat} {w wp wr : World} {AS A : Option Addr} {cS c n N : Nat} (h : Pre7 g gL gT gf w wp AS cS) (hN : N = 39 + n) (hr : Rowing wp.heap.size g 30 1 3 1 (fun v => #[.slice AS 60 cS, v, .slice none 0 0, .slice none 0 0]) w wp wr (.slice A N c) N (intV (up N))) :
    Fin7 g w wr (bdM 0 n) (bdF 0 n) AS A (some ⟨gL, 0, none⟩) (some ⟨gT, 0, none⟩) none cS c 1 1 0 gf := by
  subst hN
  have hb := h.bf.kept hr.kept ⟨h.bf.lt, by have := h.le; omega⟩
  refine ⟨⟨rfl, rfl⟩, ?_, hb, ?_, ?_, ?_, ?_, fun hp => by simp [bdF, Bd.len] at hp, hr.bel, h.le.1, hr.le.2.2.2.1⟩
  · have hx := hr.box
    rw [show (bdM 0 n).strs.length = 60 from by simp [bdM, sx_len], show (bdM 0 n).globs.length = 39 + n from by simp [bdM, up_len]]
    exact hx
  · rw [show (bdM 0 n).strs.length = 60 from by simp [bdM, sx_len]]
    exact h.rs.kept hr.kept' (fun k hk _ => hk.2.1) (by decide)
  · rw [show (bdM 0 n).globs.length = 39 + n from by simp [bdM, up_len]]
    exact RdS.ownS hr.own fun k hk _ => fun e => own_ne hr.own hr.box (by decide) (by rw [← e]; exact hk)
  · exact h.rL.kept hr.kept' (fun k hk _ => hk.2.1) (by decide)
  · exact h.rT.kept hr.kept' (fun k hk _ => hk.2.1) (by decide)
/-- Locals. -/
theorem arm1 {g gL gT gf : Nat} {w wp wr : World} {AS A : Option Addr} {cS c n N : Nat} (h : Pre7 g gL gT gf w wp AS cS) (hN : N = 39 + n) (hr : Rowing wp.heap.size gf 40 2 3 1 (fun v => #[.int .i64 59, .int .i64 0, v, .slice (some ⟨gT, 0, none⟩) 1 1, .slice none 0 0]) w wp wr (.slice A N c) N (intV (up N))) :
    Fin7 g w wr (bdM 1 n) (bdF 1 n) AS none A (some ⟨gT, 0, none⟩) none cS 0 c 1 0 gf := by
  subst hN
  have hb := h.bm.kept hr.kept ⟨h.bm.lt, by have := h.le; omega⟩
  refine ⟨⟨rfl, rfl⟩, ?_, ?_, ?_, RdS.none_ _ _ _, ?_, ?_, fun hp => by simp [bdF, Bd.len] at hp, hr.bel, h.le.1, hr.le.2.2.2.1⟩
  · rw [show (bdM 1 n).strs.length = 60 from by simp [bdM, sx_len]]
    exact hb
  · have hx := hr.box
    rw [show (bdF 1 n).locals.length = 39 + n from by simp [bdF, up_len]]
    exact hx
  · rw [show (bdM 1 n).strs.length = 60 from by simp [bdM, sx_len]]
    exact h.rs.kept hr.kept' (fun k hk _ => hk.2.1) (by decide)
  · rw [show (bdF 1 n).locals.length = 39 + n from by simp [bdF, up_len]]
    exact RdS.ownS hr.own fun k hk _ => fun e => own_ne hr.own hb (by decide) (by rw [← e]; exact hk)
  · exact h.rT.kept hr.kept' (fun k hk _ => hk.2.1) (by decide)
/-- Parameters. -/
theorem arm4 {g gL gT gf : Nat} {w wp wr : World} {AS A : Option Addr} {cS c n N : Nat} (h : Pre7 g gL gT gf w wp AS cS) (hN : N = 5 + n) (hr : Rowing wp.heap.size gf 40 2 3 1 (fun v => #[.int .i64 59, .int .i64 0, v, .slice (some ⟨gT, 0, none⟩) 1 1, .slice none 0 0]) w wp wr (.slice A N c) N (intV (up N))) :
    Fin7 g w (wr.setCell ⟨gf, 1, none⟩ (.int .i64 (N : Int))) (bdM 4 n) (bdF 4 n) AS none A (some ⟨gT, 0, none⟩) none cS 0 c 1 0 gf := by
  subst hN
  have hb := h.bm.kept hr.kept ⟨h.bm.lt, by have := h.le; omega⟩
  have hK : Kept (fun k => k ≠ gf) wr (wr.setCell ⟨gf, 1, none⟩ (.int .i64 ((5 + n : Nat) : Int))) := fun k hk _ => Below.heap_setCell _ _ _ _ hk
  have hO : (wr.setCell ⟨gf, 1, none⟩ (.int .i64 ((5 + n : Nat) : Int))).ownsRow wp.heap.size 3 1 (.slice A (5 + n) c) (5 + n) (intV (up (5 + n))) :=
    own_blocks hr.own fun k hk => Below.heap_setCell _ _ _ _ (fun e => own_ne hr.own hr.box (by decide) (by rw [← (show k = gf from e)]; exact hk))
  have hb' := hb.far (p := ⟨gf, 1, none⟩) (by have := h.le; show g ≠ gf; omega) (.int .i64 ((5 + n : Nat) : Int))
  refine ⟨⟨rfl, rfl⟩, ?_, ?_, ?_, RdS.none_ _ _ _, ?_, ?_, fun hp => by simp [bdF, Bd.len] at hp, ?_, h.le.1, by have := hr.le.2.2.2.1; simpa [World.setCell] using this⟩
  · rw [show (bdM 4 n).strs.length = 60 from by simp [bdM, sx_len]]
    exact hb'
  · have hx := hr.box.set_ 1 (.int .i64 ((5 + n : Nat) : Int))
    rw [show (bdF 4 n).locals.length = 5 + n from by simp [bdF, up_len]]
    exact hx
  · rw [show (bdM 4 n).strs.length = 60 from by simp [bdM, sx_len]]
    exact (h.rs.kept (S' := fun k => k ≠ gf ∧ k ≠ g) hr.kept' (fun k hk _ => ⟨hk.2.2, hk.2.1⟩) (by decide)).kept (fun k hk hl => hK k hk.1 hl) (fun k hk _ => hk.2) (by decide)
  · rw [show (bdF 4 n).locals.length = 5 + n from by simp [bdF, up_len]]
    exact RdS.ownS hO fun k hk _ => fun e => own_ne hO hb' (by decide) (by rw [← e]; exact hk)
  · exact (h.rT.kept (S' := fun k => k ≠ gf ∧ k ≠ g) hr.kept' (fun k hk _ => ⟨hk.2.2, hk.2.1⟩) (by decide)).kept (fun k hk hl => hK k hk.1 hl) (fun k hk _ => hk.2) (by decide)
  · exact hr.bel.setCell (p := ⟨gf, 1, none⟩) (by have := h.le; show _ ≤ gf; omega) _
/-- Sites. -/
theorem arm2 {g gL gT gf : Nat} {w wp wr : World} {AS A : Option Addr} {cS c n N : Nat} (h : Pre7 g gL gT gf w wp AS cS) (hN : N = 39 + n) (hr : Rowing wp.heap.size gf 40 3 3 1 (fun v => #[.int .i64 59, .int .i64 0, .slice (some ⟨gL, 0, none⟩) 1 1, v, .slice none 0 0]) w wp wr (.slice A N c) N (intV (up N))) :
    Fin7 g w wr (bdM 2 n) (bdF 2 n) AS none (some ⟨gL, 0, none⟩) A none cS 0 1 c 0 gf := by
  subst hN
  have hb := h.bm.kept hr.kept ⟨h.bm.lt, by have := h.le; omega⟩
  refine ⟨⟨rfl, rfl⟩, ?_, ?_, ?_, RdS.none_ _ _ _, ?_, ?_, fun hp => by simp [bdF, Bd.len] at hp, hr.bel, h.le.1, hr.le.2.2.2.1⟩
  · rw [show (bdM 2 n).strs.length = 60 from by simp [bdM, sx_len]]
    exact hb
  · have hx := hr.box
    rw [show (bdF 2 n).sites.length = 39 + n from by simp [bdF, up_len]]
    exact hx
  · rw [show (bdM 2 n).strs.length = 60 from by simp [bdM, sx_len]]
    exact h.rs.kept hr.kept' (fun k hk _ => hk.2.1) (by decide)
  · exact h.rL.kept hr.kept' (fun k hk _ => hk.2.1) (by decide)
  · rw [show (bdF 2 n).sites.length = 39 + n from by simp [bdF, up_len]]
    exact RdS.ownS hr.own fun k hk _ => fun e => own_ne hr.own hb (by decide) (by rw [← e]; exact hk)
/-- The cells of some statements that return. -/
def retV : Nat → List Value
  | 0 => []
  | n + 1 => [.int .u8 6, .int .u8 0, .int .i64 0, .int .u8 1, .int .i64 0, .slice none 0 0, .slice none 0 0] ++ retV n
theorem retV_snoc : ∀ n, retV n ++ [.int .u8 6, .int .u8 0, .int .i64 0, .int .u8 1, .int .i64 0, .slice none 0 0, .slice none 0 0] = retV (n + 1)
  | 0 => rfl
  | n + 1 => by
    show ([_, _, _, _, _, _, _] ++ retV n) ++ _ = _
    rw [List.append_assoc, retV_snoc n]; rfl
theorem retV_bd {S : Nat → Prop} {w : World} {b : Nat} (hS : S b) : ∀ (n o : Nat), (∀ j u, (retV n)[j]? = some u → w.cell? ⟨b, o + j, none⟩ = some u) → BdS S w b o (retB n)
  | 0, _, _ => trivial
  | n + 1, o, h => by
    refine ⟨hS, ⟨h 0 _ rfl, h 1 _ rfl, h 2 _ rfl, h 3 _ rfl, h 4 _ rfl⟩, ⟨_, h 5 _ rfl, ⟨none, 0, rfl, fun hp => by simp at hp⟩⟩, ⟨none, 0, h 6 _ rfl, fun hp => by simp [Bd.len] at hp⟩, ?_⟩
    refine retV_bd hS n (o + 7) fun j u hj => ?_
    rw [show o + 7 + j = o + (7 + j) from by omega]
    refine h (7 + j) u ?_
    show ([_, _, _, _, _, _, _] ++ retV n)[7 + j]? = _
    rw [List.getElem?_append_right (by simp)]
    simpa using hj
/-- Statements. -/
theorem arm3 {g gL gT gf : Nat} {w wp wr : World} {AS A : Option Addr} {cS c n N : Nat} (h : Pre7 g gL gT gf w wp AS cS) (hN : N = 399 + n) (hr : Rowing wp.heap.size gf 40 4 50 7 (fun v => #[.int .i64 59, .int .i64 0, .slice (some ⟨gL, 0, none⟩) 1 1, .slice (some ⟨gT, 0, none⟩) 1 1, v]) w wp wr (.slice A N c) N (retV N)) :
    Fin7 g w wr (bdM 3 n) (bdF 3 n) AS none (some ⟨gL, 0, none⟩) (some ⟨gT, 0, none⟩) A cS 0 1 1 c gf := by
  subst hN
  have hb := h.bm.kept hr.kept ⟨h.bm.lt, by have := h.le; omega⟩
  refine ⟨⟨rfl, rfl⟩, ?_, ?_, ?_, RdS.none_ _ _ _, ?_, ?_, ?_, hr.bel, h.le.1, hr.le.2.2.2.1⟩
  · rw [show (bdM 3 n).strs.length = 60 from by simp [bdM, sx_len]]
    exact hb
  · have hx := hr.box
    rw [show (bdF 3 n).body.len = 399 + n from by simp [bdF, (retB_size _).2]]
    exact hx
  · rw [show (bdM 3 n).strs.length = 60 from by simp [bdM, sx_len]]
    exact h.rs.kept hr.kept' (fun k hk _ => hk.2.1) (by decide)
  · exact h.rL.kept hr.kept' (fun k hk _ => hk.2.1) (by decide)
  · exact h.rT.kept hr.kept' (fun k hk _ => hk.2.1) (by decide)
  · intro _
    obtain ⟨b, o, hA, hS, hc⟩ := (RdS.ownS (S := fun k => k ≠ g) hr.own fun k hk _ => fun e => own_ne hr.own hb (by decide) (by rw [← e]; exact hk)).2 (by omega)
    exact ⟨b, o, hA, retV_bd (S := fun k => k ≠ g) hS _ _ hc⟩
/-- Blocks in one another, under way. -/
structure Nesting (B g gL gT gf : Nat) (w wp wr : World) (A : Option Addr) (i : Nat) : Prop where
  box : Blk wr gf 40 #[.int .i64 59, .int .i64 0, .slice (some ⟨gL, 0, none⟩) 1 1, .slice (some ⟨gT, 0, none⟩) 1 1, .slice A 1 1]
  body : BodyS (fun k => k ≠ g ∧ k ≠ gf) wr A (nest i)
  kept : Kept (fun k => k < B ∧ k ≠ gf) wp wr
  bel : Below w.heap.size w wr
  le : w.heap.size ≤ gf ∧ w.heap.size ≤ wr.heap.size ∧ wp.heap.size ≤ wr.heap.size ∧ B ≤ wr.heap.size ∧ g < gf
theorem Nesting.step {B g gL gT gf : Nat} {w wp wr : World} {A : Option Addr} {i : Nat} (h : Nesting B g gL gT gf w wp wr A i) (w5 : World)
    (hw5 : w5 = (wr.alloc (.cells #[.int .u8 7, .int .u8 0, .int .i64 0, .int .u8 0, .int .i64 0, .slice none 0 0, .slice A 1 1] 50)).setCell ⟨gf, 4, none⟩ (.slice (some ⟨wr.heap.size, 0, none⟩) 1 1)) :
    Nesting B g gL gT gf w wp w5 (some ⟨wr.heap.size, 0, none⟩) (i + 1) := by
  have hlt := h.box.lt
  have hK : Kept (fun k => k ≠ gf) wr w5 := fun k hk hkx => by
    rw [hw5, Below.heap_setCell _ _ _ _ hk, heap_alloc_old _ _ hkx]
  have hN : Blk w5 wr.heap.size 50 #[.int .u8 7, .int .u8 0, .int .i64 0, .int .u8 0, .int .i64 0, .slice none 0 0, .slice A 1 1] := by
    rw [hw5]; exact (Blk.new wr 50 _).far (by show _ ≠ gf; omega) _
  have hl := h.le
  have hs5 : wr.heap.size ≤ w5.heap.size := by rw [hw5]; simp [World.setCell]
  refine ⟨?_, ?_, ?_, ?_, hl.1, by omega, by omega, by omega, hl.2.2.2.2⟩
  · rw [hw5]; exact (h.box.alloc _).set_ 4 _
  · intro _
    refine ⟨wr.heap.size, 0, rfl, ⟨by omega, by omega⟩, ⟨hN.cell 0, hN.cell 1, hN.cell 2, hN.cell 3, hN.cell 4⟩, ⟨_, hN.cell 5, ⟨none, 0, rfl, fun hp => by simp at hp⟩⟩, ⟨A, 1, by rw [nest_len]; exact hN.cell 6, ?_⟩, trivial⟩
    exact h.body.kept (fun k hk hl => hK k hk.2 hl) (fun _ hk _ => hk)
  · exact fun k hk hkw => (hK k hk.2 (by omega)).trans (h.kept k hk hkw)
  · rw [hw5]; exact (h.bel.alloc hl.2.1 _).setCell (p := ⟨gf, 4, none⟩) hl.1 _
theorem arm5 {g gL gT gf : Nat} {w wp wr : World} {AS A : Option Addr} {cS n N : Nat} (h : Pre7 g gL gT gf w wp AS cS) (hN : N = 7 + n) (hr : Nesting wp.heap.size g gL gT gf w wp wr A N) :
    Fin7 g w wr (bdM 5 n) (bdF 5 n) AS none (some ⟨gL, 0, none⟩) (some ⟨gT, 0, none⟩) A cS 0 1 1 1 gf := by
  subst hN
  have hb := h.bm.kept hr.kept ⟨h.bm.lt, by have := h.le; omega⟩
  have hkept' : Kept (fun k => k < wp.heap.size ∧ k ≠ g ∧ k ≠ gf) wp wr := fun k hk hl => hr.kept k ⟨hk.1, hk.2.2⟩ hl
  refine ⟨⟨rfl, rfl⟩, ?_, ?_, ?_, RdS.none_ _ _ _, ?_, ?_, ?_, hr.bel, h.le.1, hr.le.2.1⟩
  · rw [show (bdM 5 n).strs.length = 60 from by simp [bdM, sx_len]]
    exact hb
  · have hx := hr.box
    rw [show (bdF 5 n).body.len = 1 from by simp [bdF, nest_len]]
    exact hx
  · rw [show (bdM 5 n).strs.length = 60 from by simp [bdM, sx_len]]
    exact h.rs.kept hkept' (fun k hk _ => hk.2.1) (by decide)
  · exact h.rL.kept hkept' (fun k hk _ => hk.2.1) (by decide)
  · exact h.rT.kept hkept' (fun k hk _ => hk.2.1) (by decide)
  · exact hr.body.kept (fun _ _ _ => rfl) (fun k hk _ => hk.1)
/-- A name, letter by letter. -/
structure Naming (g gL gT gf : Nat) (w wp wr : World) (AS : Option Addr) (cS i : Nat) : Prop where
  own : wr.ownsRow w.heap.size 9 1 (.slice AS 60 cS) 60 (strV ((sx 60).set 59 (List.replicate i 122)))
  kept : Kept (fun k => k = g ∨ k = gL ∨ k = gT ∨ k = gf) wp wr
  bel : Below w.heap.size w wr
  size : wr.heap.size = wp.heap.size
theorem Naming.step {g gL gT gf : Nat} {w wp wr : World} {AS : Option Addr} {cS i : Nat} (h : Pre7 g gL gT gf w wp AS cS) (hn : Naming g gL gT gf w wp wr AS cS i) :
    ∃ q, AS = some ⟨q, 0, none⟩ ∧ q < wr.heap.size ∧ 60 ≤ cS ∧ wr.cell? ⟨q, 59, none⟩ = some (.string (bs (List.replicate i 122))) ∧ wr.frozen? ⟨q, 59, none⟩ = false ∧ ∀ k, Naming g gL gT gf w wp (wr.setCell ⟨q, 59, none⟩ (.string (bs (List.replicate k 122)))) AS cS k := by
  obtain ⟨q, hq⟩ : ∃ q, AS = some ⟨q, 0, none⟩ := by
    rcases hn.own.2 with ⟨h1, _⟩ | ⟨q, cap, cur, hv, _⟩
    · injection h1 with _ h2; cases h2
    · injection hv with hv; exact ⟨q, hv⟩
  subst hq
  have ho := own_at hn.own (by decide)
  obtain ⟨h1, h2, h3, h4, h5⟩ := ho
  have hne : ∀ k t (cs : Array Value), t ≠ 9 → Blk wp k t cs → k ≠ q := fun k t cs ht hb e => own_ne h.os hb (fun x => ht x.symm) (by rw [e]; rfl)
  refine ⟨q, rfl, h3, h1, (h4 59 _ (by simp [strV, sx_len])).1, (h4 59 (.string (bs (List.replicate i 122))) (by simp [strV, sx_len])).2, fun k => ⟨?_, ?_, ?_, ?_⟩⟩
  · have := h5 59 (.string (bs (List.replicate k 122))) (by decide)
    rwa [show (strV ((sx 60).set 59 (List.replicate i 122))).set 59 (.string (bs (List.replicate k 122))) = strV ((sx 60).set 59 (List.replicate k 122)) from by simp [strV, List.map_set]] at this
  · intro j hj hjw
    refine (Below.heap_setCell _ _ _ _ ?_).trans (hn.kept j hj hjw)
    show j ≠ q
    rcases hj with rfl | rfl | rfl | rfl
    · exact hne _ _ _ (by decide) h.bm
    · exact hne _ _ _ (by decide) h.kL
    · exact hne _ _ _ (by decide) h.kT
    · exact hne _ _ _ (by decide) h.bf
  · exact hn.bel.setCell (p := ⟨q, 59, none⟩) h2 _
  · rw [← hn.size]; simp [World.setCell]
theorem arm6 {g gL gT gf : Nat} {w wp wr : World} {AS : Option Addr} {cS n N : Nat} (h : Pre7 g gL gT gf w wp AS cS) (hN : N = 39 + n) (hr : Naming g gL gT gf w wp wr AS cS N) :
    Fin7 g w wr (bdM 6 n) (bdF 6 n) AS none (some ⟨gL, 0, none⟩) (some ⟨gT, 0, none⟩) none cS 0 1 1 0 gf := by
  subst hN
  have hb := h.bm.kept hr.kept (.inl rfl)
  have hL := h.kL.kept hr.kept (.inr (.inl rfl))
  have hT := h.kT.kept hr.kept (.inr (.inr (.inl rfl)))
  have hF := h.bf.kept hr.kept (.inr (.inr (.inr rfl)))
  refine ⟨⟨rfl, rfl⟩, ?_, hF, ?_, RdS.none_ _ _ _, ?_, ?_, fun hp => by simp [bdF, Bd.len] at hp, hr.bel, h.le.1, ?_⟩
  · rw [show (bdM 6 n).strs.length = 60 from by simp [bdM, sx_len]]
    exact hb
  · rw [show (bdM 6 n).strs.length = 60 from by simp [bdM, sx_len]]
    exact RdS.ownS hr.own fun k hk _ => fun e => own_ne hr.own hb (by decide) (by rw [← e]; exact hk)
  · show RdS _ _ _ 1 1 (intV [58])
    exact ⟨rfl, fun _ => ⟨gL, 0, rfl, by have := h.le; omega, fun j u hj => by rw [Nat.zero_add, hL.cell]; simpa [intV] using hj⟩⟩
  · show RdS _ _ _ 1 1 (intV [57])
    exact ⟨rfl, fun _ => ⟨gT, 0, rfl, by have := h.le; omega, fun j u hj => by rw [Nat.zero_add, hT.cell]; simpa [intV] using hj⟩⟩
  · rw [hr.size]; exact h.bel.size
end Go.Proofs.Ytpdebnecfknohaa
