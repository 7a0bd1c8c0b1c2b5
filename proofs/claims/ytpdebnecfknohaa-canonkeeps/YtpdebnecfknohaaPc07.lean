/-
  Parts: Mh Ra Mz Qe Qr Ck.
-/
import Derived.Test.YtpdebnecfknohaaPc00
import Derived.Test.YtpdebnecfknohaaPc01
import Derived.Test.YtpdebnecfknohaaPc02
import Derived.Test.YtpdebnecfknohaaPc03
import Derived.Test.YtpdebnecfknohaaPc04
import Derived.Test.YtpdebnecfknohaaPc05
import Derived.Test.YtpdebnecfknohaaPc06
namespace Go.Proofs.Ytpdebnecfknohaa
open Go.RowKit
set_option linter.unusedVariables false
set_option maxRecDepth 20000
def ints (n : Nat) : List Int := (List.range n).map fun (j : Nat) => (j : Int)
theorem ints_succ (n : Nat) : ints (n + 1) = ints n ++ [(n : Int)] := by simp [ints, List.range_succ]
theorem ints_len (n : Nat) : (ints n).length = n := by simp [ints]
/-- The globals' names. -/
def gnames (st n : Nat) : List (List UInt8) := (List.range n).map fun j => nameF (j * st)
theorem gnames_succ (st n : Nat) : gnames st (n + 1) = gnames st n ++ [nameF (n * st)] := by simp [gnames, List.range_succ]
theorem gnames_len (st n : Nat) : (gnames st n).length = n := by simp [gnames]
def pF (F i : Nat) : Nat := (i + F / 4) % 4
def nlF (F i : Nat) : Nat := pF F i + 1 + i % 3
def nsF (i : Nat) : Nat := 1 + i % 2
def fnameF (i : Nat) : List UInt8 := [102, UInt8.ofNat (48 + i)]
def namesF (a n : Nat) : List (List UInt8) := (List.range n).map fun j => nameF (a + j)
def seqI (a n : Nat) : List Int := (List.range n).map fun (j : Nat) => ((a + j : Nat) : Int)
theorem namesF_succ (a n : Nat) : namesF a (n + 1) = namesF a n ++ [nameF (a + n)] := by simp [namesF, List.range_succ]
theorem seqI_succ (a n : Nat) : seqI a (n + 1) = seqI a n ++ [((a + n : Nat) : Int)] := by simp [seqI, List.range_succ]
theorem namesF_len (a n : Nat) : (namesF a n).length = n := by simp [namesF]
theorem seqI_len (a n : Nat) : (seqI a n).length = n := by simp [seqI]
/-- The strings ahead of Canon, behind i functions. -/
def mkS (g0 : List (List UInt8)) (F : Nat) : Nat → List (List UInt8)
  | 0 => g0
  | i + 1 => ((mkS g0 F i ++ [fnameF i]) ++ namesF 100 (nlF F i)) ++ namesF 200 (nsF i)
def mkL (g0 : List (List UInt8)) (F : Nat) : Nat → List Fn
  | 0 => []
  | i + 1 => mkL g0 F i ++ [⟨((mkS g0 F i).length : Int), (pF F i : Int), seqI ((mkS g0 F i).length + 1) (nlF F i), seqI ((mkS g0 F i).length + 1 + nlF F i) (nsF i), .nil⟩]
theorem mkS_len (g0 : List (List UInt8)) (F i : Nat) : (mkS g0 F i).length ≤ g0.length + 10 * i := by
  induction i with
  | zero => simp [mkS]
  | succ i ih =>
    simp only [mkS, List.length_append, namesF_len, List.length_singleton, nlF, nsF, pF]
    omega
/-- The entries. -/
def entsF (E : Nat) : Nat → List Int
  | 0 => []
  | i + 1 => if E / 2 ^ i % 2 = 1 then entsF E i ++ [(i : Int)] else entsF E i
theorem entsF_len (E i : Nat) : (entsF E i).length ≤ i := by
  induction i with
  | zero => simp [entsF]
  | succ i ih =>
    simp only [entsF]
    split
    · simp; omega
    · omega
/-- An act. -/
structure Ac where
  k : Nat
  a : Nat
  b : Nat
  c : Nat
/-- Where an act goes. -/
def actJ (n na i : Nat) : Nat := if na < 60 then i * n / na else i * n / 60
/-- The bodies behind so many acts. -/
def mkT (F ng n na : Nat) (acts : List Ac) : Nat → List (List St7)
  | 0 => List.replicate n []
  | i + 1 => (mkT F ng n na acts i).set (actJ n na i) ((mkT F ng n na acts i).getD (actJ n na i) [] ++ [stm (nlF F (actJ n na i)) ng n (nsF (actJ n na i)) (pF F) (acts.getD i ⟨0, 0, 0, 0⟩).k (acts.getD i ⟨0, 0, 0, 0⟩).a (acts.getD i ⟨0, 0, 0, 0⟩).b (acts.getD i ⟨0, 0, 0, 0⟩).c])
theorem mkT_len (F ng n na : Nat) (acts : List Ac) (k : Nat) : (mkT F ng n na acts k).length = n := by
  induction k with
  | zero => simp [mkT]
  | succ k ih => simp [mkT, ih]
theorem mkT_le (F ng n na : Nat) (acts : List Ac) (k : Nat) : ∀ T ∈ mkT F ng n na acts k, T.length ≤ k := by
  induction k with
  | zero => intro T hT; simp [mkT] at hT; simp [hT.2]
  | succ k ih =>
    intro T hT
    simp only [mkT] at hT
    rcases List.mem_or_eq_of_mem_set hT with h | rfl
    · have := ih T h; omega
    · simp only [List.length_append, List.length_singleton]
      by_cases hj : actJ n na k < (mkT F ng n na acts k).length
      · have := ih _ (List.getElem_mem hj)
        rw [List.getD_eq_getElem?_getD, List.getElem?_eq_getElem hj]
        simpa using this
      · rw [List.getD_eq_getElem?_getD, List.getElem?_eq_none (by omega)]
        simp
theorem mkL_len (g0 : List (List UInt8)) (F i : Nat) : (mkL g0 F i).length = i := by
  induction i with
  | zero => rfl
  | succ i ih => simp [mkL, ih]
theorem mkL_get (g0 : List (List UInt8)) (F n i : Nat) (h : i < n) : (mkL g0 F n)[i]? = some ⟨((mkS g0 F i).length : Int), (pF F i : Int), seqI ((mkS g0 F i).length + 1) (nlF F i), seqI ((mkS g0 F i).length + 1 + nlF F i) (nsF i), .nil⟩ := by
  induction n with
  | zero => omega
  | succ n ih =>
    simp only [mkL]
    by_cases hi : i < n
    · rw [List.getElem?_append_left (by rw [mkL_len]; exact hi)]
      exact ih hi
    · obtain rfl : i = n := by omega
      rw [List.getElem?_append_right (by rw [mkL_len]; exact Nat.le_refl _), mkL_len, Nat.sub_self]
      rfl
def AcsAt (w : World) (A : Option Addr) (l : List Ac) : Prop := 0 < l.length → ∃ b o, A = some ⟨b, o, none⟩ ∧ ∀ i (h : i < l.length), w.cell? ⟨b, o + i * 4, none⟩ = some (.int .u8 (l[i].k : Int)) ∧ w.cell? ⟨b, o + i * 4 + 1, none⟩ = some (.int .u8 (l[i].a : Int)) ∧ w.cell? ⟨b, o + i * 4 + 2, none⟩ = some (.int .u8 (l[i].b : Int)) ∧ w.cell? ⟨b, o + i * 4 + 3, none⟩ = some (.int .u8 (l[i].c : Int))
theorem own_lt {w : World} {base e size n : Nat} {v : Value} {xs : List Value} (h : w.ownsRow base e size v n xs) : ∀ k, some k = v.ownBlock → k < w.heap.size := fun k hk => by
  rcases h.2 with ⟨rfl, _⟩ | ⟨q, cap, cur, rfl, hq, hh, _⟩
  · simp [Value.ownBlock] at hk
  · have : k = q := by simpa [Value.ownBlock] using hk
    subst this
    exact heap_ltM hh
theorem own_ge {w : World} {base e size n : Nat} {v : Value} {xs : List Value} (h : w.ownsRow base e size v n xs) : ∀ k, some k = v.ownBlock → base ≤ k := fun k hk => by
  rcases h.2 with ⟨rfl, _⟩ | ⟨q, cap, cur, rfl, hq, hh, _⟩
  · simp [Value.ownBlock] at hk
  · have : k = q := by simpa [Value.ownBlock] using hk
    subst this
    exact hq
/-- Functions and their bodies. -/
def fillB (L : List Fn) (Ts : List (List St7)) : List Fn := List.zipWith (fun f T => ⟨f.name, f.params, f.locals, f.sites, bdOf T⟩) L Ts
theorem fillB_len (L : List Fn) (Ts : List (List St7)) (h : Ts.length = L.length) : (fillB L Ts).length = L.length := by simp [fillB, h]
theorem fillB_mem {L : List Fn} {Ts : List (List St7)} {f : Fn} (h : f ∈ fillB L Ts) : ∃ f0 ∈ L, f.name = f0.name ∧ f.locals = f0.locals ∧ f.sites = f0.sites := by
  obtain ⟨i, hi, rfl⟩ := List.mem_iff_getElem.1 h
  simp only [fillB, List.getElem_zipWith]
  exact ⟨_, List.getElem_mem _, rfl, rfl, rfl⟩
section
variable {w W1 wr : World} {g n : Nat} {Vs : List Value} {Ts : List (List St7)}
theorem MkA.done (h : MkA w W1 wr g n Vs Ts) {D Z : Array Value} {B3 : Nat} {S : List (List UInt8)} {gl : List Int} {L : List Fn} {En : List Int} {As Ag Ae : Option Addr} {ns cs ng cg cf ne ce : Nat} (hE : MkE w W1 D Z B3 S gl L En As ns cs Ag ng cg (some ⟨g, 0, none⟩) n cf Ae ne ce) :
    RdS (fun _ => True) wr As ns 1 (strV S) ∧ RdS (fun _ => True) wr Ag ng 1 (intV gl) ∧ wr.ownsRow B3 3 1 (.slice Ae ne ce) ne (intV En) ∧ FnsS (fun k => w.heap.size + 1 + 1 + 1 ≤ k) wr (some ⟨g, 0, none⟩) (fillB L Ts) := by
  obtain ⟨cur0, cur, b0, b1, hcs, hc⟩ := h.row
  have hkp : ∀ {base e m c : Nat} {A : Option Addr} {xs : List Value}, e ≠ 40 → W1.ownsRow base e 1 (.slice A m c) m xs → wr.ownsRow base e 1 (.slice A m c) m xs := fun he ho => own_blocks ho (fun k hk => h.keep k (own_lt ho k hk) (fun e2 => by subst e2; exact own_ne ho b0 he hk))
  have hb := hE.b3
  have hs := h.size
  refine ⟨(RdS.own (hkp (by decide) hE.os)).below (fun _ _ => trivial), (RdS.own (hkp (by decide) hE.og)).below (fun _ _ => trivial), hkp (by decide) hE.oe, fun hp => ⟨g, 0, rfl, (hE.fr.blk g rfl).1, fun i hi => ?_⟩⟩
  have hL := hE.lens.2.2.1
  have hiL : i < L.length := by rw [fillB_len _ _ (by rw [h.lens.2, hL])] at hi; exact hi
  have hiT : i < Ts.length := by rw [h.lens.2, ← hL]; exact hiL
  obtain ⟨Al, cl, At, ct, v, hv, ⟨f0, f1, f2, f3, f4⟩, r1, r2⟩ := h.fn hE.fr hL i hiL
  obtain ⟨Ab, cb, rfl⟩ := h.slice hv (List.getElem?_eq_getElem hiT)
  have hvb := h.blk hv
  obtain ⟨hB, hBl⟩ := (h.bodies i _ _ hv (List.getElem?_eq_getElem hiT)).body (S := fun k => w.heap.size + 1 + 1 + 1 ≤ k) (fun k hk _ => by have := hk.1; omega) (fun k hk => by have := hvb k hk; omega)
  have e : (fillB L Ts)[i] = ⟨L[i].name, L[i].params, L[i].locals, L[i].sites, bdOf Ts[i]⟩ := by simp [fillB]
  have kk : Kept (fun k => k ≠ g ∧ (some k ≠ (Value.slice As ns cs).ownBlock ∧ w.heap.size + 1 + 1 + 1 ≤ k ∧ k < B3)) W1 wr := fun k hk hl => h.keep k hl hk.1
  rw [hBl] at f4
  refine ⟨[.int .i64 L[i].name, .int .i64 L[i].params, .slice Al L[i].locals.length cl, .slice At L[i].sites.length ct, .slice Ab (bdOf Ts[i]).len cb], ?_, fun j u hj => ?_⟩
  · rw [e]
    exact ⟨Al, cl, At, ct, Ab, cb, rfl, r1.kept kk (fun k hk _ => hk.2.2.1) (by decide), r2.kept kk (fun k hk _ => hk.2.2.1) (by decide), hB⟩
  · rw [Nat.zero_add]
    match j, hj with
    | 0, hj => injection hj with hj; subst hj; exact f0
    | 1, hj => injection hj with hj; subst hj; exact f1
    | 2, hj => injection hj with hj; subst hj; exact f2
    | 3, hj => injection hj with hj; subst hj; exact f3
    | 4, hj => injection hj with hj; subst hj; exact f4
end
theorem mkS_mono (g0 : List (List UInt8)) (F i n : Nat) (h : i ≤ n) : (mkS g0 F i).length ≤ (mkS g0 F n).length := by
  induction n with
  | zero => obtain rfl : i = 0 := by omega
            exact Nat.le_refl _
  | succ n ih =>
    by_cases hi : i = n + 1
    · subst hi; exact Nat.le_refl _
    · refine Nat.le_trans (ih (by omega)) ?_
      simp only [mkS, List.length_append]
      omega
theorem mkL_ok (g0 : List (List UInt8)) (F n : Nat) (f : Fn) (h : f ∈ mkL g0 F n) : (0 ≤ f.name ∧ f.name < (mkS g0 F n).length) ∧ (f.locals.length ≤ 1000 ∧ ∀ i ∈ f.locals, 0 ≤ i ∧ i < (mkS g0 F n).length) ∧ (f.sites.length ≤ 1000 ∧ ∀ i ∈ f.sites, 0 ≤ i ∧ i < (mkS g0 F n).length) := by
  obtain ⟨i, hi, rfl⟩ := List.mem_iff_getElem.1 h
  have hin : i < n := by rw [mkL_len] at hi; exact hi
  have e := mkL_get g0 F n i hin
  rw [List.getElem?_eq_getElem hi, Option.some.injEq] at e
  rw [e]
  have h1 := mkS_mono g0 F (i + 1) n hin
  simp only [mkS, List.length_append, namesF_len, List.length_singleton] at h1
  have hb : nlF F i ≤ 10 ∧ nsF i ≤ 10 := by unfold nlF nsF pF; omega
  refine ⟨by dsimp only; omega, ⟨by rw [seqI_len]; omega, fun x hx => ?_⟩, ⟨by rw [seqI_len]; omega, fun x hx => ?_⟩⟩ <;>
  · simp only [seqI, List.mem_map, List.mem_range] at hx
    obtain ⟨t, ht, rfl⟩ := hx
    omega
/-- What Make makes ahead of Canon. -/
def mkM (gs : List (List UInt8)) (gl : List Int) (F E : Nat) (acts : List Ac) : Md :=
  ⟨mkS gs F (1 + F % 4), gl, fillB (mkL gs F (1 + F % 4)) (mkT F gl.length (1 + F % 4) acts.length acts (min acts.length 60)), entsF E (1 + F % 4)⟩
theorem mkM_ok (g0 : List (List UInt8)) (gl : List Int) (F n : Nat) (Ts : List (List St7)) (En : List Int) (hn : n ≤ 4) (hg : g0.length ≤ 4) (hgl : gl.length ≤ 4) (hb : ∀ x ∈ gl, 0 ≤ x ∧ x < (g0.length : Int)) (hT : Ts.length = n) : (Md.mk (mkS g0 F n) gl (fillB (mkL g0 F n) Ts) En).Ok := by
  have h0 := mkS_len g0 F n
  have h1 := mkS_mono g0 F 0 n (Nat.zero_le _)
  simp only [mkS] at h1
  refine ⟨by dsimp only; omega, ⟨by dsimp only; omega, fun x hx => ?_⟩, ?_, fun f hf => ?_⟩
  · have := hb x hx; dsimp only; omega
  · dsimp only; rw [fillB_len _ _ (by rw [hT, mkL_len]), mkL_len]; omega
  · obtain ⟨f0, hf0, e1, e2, e3⟩ := fillB_mem hf
    have := mkL_ok g0 F n f0 hf0
    rw [e1, e2, e3]
    exact this
/-- What a module leaves behind that was made: rows of its own. -/
def MkPost (w : World) (M : Md) (e : Ending) (w' : World) : Prop :=
  ∃ Al cl A2 c2 Ax cx Ae ce, e = .returned (.agg #[.slice Al M.strs.length cl, .slice A2 M.globs.length c2, .slice Ax M.funcs.length cx, .slice Ae M.ents.length ce]) ∧
    w'.ownsRow w.heap.size 9 1 (.slice Al M.strs.length cl) M.strs.length (strV M.strs) ∧
    w'.ownsRow w.heap.size 3 1 (.slice A2 M.globs.length c2) M.globs.length (intV M.globs) ∧
    FnRow w' w.heap.size (fun k => w.heap.size ≤ k) (.slice Ax M.funcs.length cx) M.funcs ∧
    w'.ownsRow w.heap.size 3 1 (.slice Ae M.ents.length ce) M.ents.length (intV M.ents) ∧ Below w.heap.size w w'
theorem own_base {w : World} {base base' e size n : Nat} {v : Value} {xs : List Value} (h : w.ownsRow base e size v n xs) (hb : base' ≤ base) : w.ownsRow base' e size v n xs := by
  refine ⟨h.1, ?_⟩
  rcases h.2 with h | ⟨k, cap, cur, hv, hq, rest⟩
  · exact .inl h
  · exact .inr ⟨k, cap, cur, hv, Nat.le_trans hb hq, rest⟩
/-- Behind Canon, and behind the result's box. -/
theorem make_end {w wr w3 : World} {M : Md} {Al A2 Ax Ae : Option Addr} {cl c2 cx ce B3 ne : Nat} (hb : Below w.heap.size w wr) (hs : w.heap.size + 1 + 1 + 1 ≤ wr.heap.size) (hB3 : w.heap.size + 1 + 1 + 1 ≤ B3) (hne : ne = M.ents.length) (hEn : wr.ownsRow B3 3 1 (.slice Ae ne ce) ne (intV M.ents))
    (h1 : w3.ownsRow wr.heap.size 9 1 (.slice Al (canM M).strs.length cl) (canM M).strs.length (strV (canM M).strs))
    (h2 : w3.ownsRow wr.heap.size 3 1 (.slice A2 (canM M).globs.length c2) (canM M).globs.length (intV (canM M).globs))
    (h3 : FnRow w3 wr.heap.size (fun k => some k ≠ (Value.slice Al (canM M).strs.length cl).ownBlock ∧ (w.heap.size + 1 + 1 + 1 ≤ k ∨ wr.heap.size ≤ k)) (.slice Ax (canM M).funcs.length cx) (canM M).funcs) (h4 : Below wr.heap.size wr w3)
    {v0 v1 v2 v3 : Value} {wf : World} (hwf : wf = (((w3.setCell ⟨w.heap.size + 1, 0, none⟩ v0).setCell ⟨w.heap.size + 1, 1, none⟩ v1).setCell ⟨w.heap.size + 1, 2, none⟩ v2).setCell ⟨w.heap.size + 1, 3, none⟩ v3) :
    MkPost w (canM M) (.returned (.agg #[.slice Al (canM M).strs.length cl, .slice A2 (canM M).globs.length c2, .slice Ax (canM M).funcs.length cx, .slice Ae ne ce])) wf := by
  have hk : ∀ k, k ≠ w.heap.size + 1 → wf.heap[k]? = w3.heap[k]? := fun k hk => by rw [hwf]; exact set4_far _ _ _ _ hk
  have ho : ∀ {base e m c : Nat} {A : Option Addr} {xs : List Value}, w.heap.size + 1 + 1 + 1 ≤ base → w3.ownsRow base e 1 (.slice A m c) m xs → wf.ownsRow w.heap.size e 1 (.slice A m c) m xs := fun hbs h => own_base (own_blocks h (fun k hk' => hk k (by have := own_ge h k hk'; omega))) (by omega)
  subst hne
  refine ⟨Al, cl, A2, c2, Ax, cx, Ae, ce, rfl, ho hs h1, ho hs h2, ?_, ho hB3 (own_old hEn h4), ?_⟩
  · exact FnRow.base (h3.kept (fun k hk' => hk k (by have := (h3.blk k hk').1; omega)) (fun k hx _ => hk k (by have := hx.2; omega)) (fun k hx _ => by have := hx.2; omega)) (by omega)
  · rw [hwf]
    exact set4 (hb.trans (h4.mono (by omega))) (by omega) _ _ _ _
end Go.Proofs.Ytpdebnecfknohaa
namespace Go.Proofs.Ytpdebnecfknohaa
open Go.RowKit
set_option linter.unusedVariables false
set_option maxRecDepth 20000
theorem Bd.same_lenne (t u : Bd) (h : t.len ≠ u.len) : t.same u = false := Bd.same_shal t u (Bd.shal_lenne t u h)
theorem Bd.sub_size (t : Bd) (i : Nat) {k a1 a2 b1 b2 : Int} {xs : List (Int × Int)} {s r : Bd} (h : t.drop i = .cons k a1 a2 b1 b2 xs s r) : s.size + 1 ≤ t.size ∧ s.wide + xs.length ≤ t.wide := by
  have h1 := Bd.wide_drop t i
  have h2 := Bd.size_drop t i
  rw [h] at h1 h2
  simp only [Bd.wide, Bd.size] at h1 h2
  omega
theorem quiet_in {P : Program} {f : FuncId} {args : Array Value} {w : World} {n : Nat} {v : Value}
    (h : Calls P f args (w.drewN n) fun e w' => e = .returned v ∧ ∃ k, w' = (w.drewN n).drewN k) : Calls P f args (w.drewN n) fun e w' => e = .returned v ∧ ∃ k, w' = w.drewN k :=
  h.mono fun e w' ⟨he, k, hw⟩ => ⟨he, n + k, by rw [hw, World.drewN_drewN]⟩
theorem below_dN (w : World) (n B : Nat) : Below B w (w.drewN n) := ⟨rfl, rfl, rfl, Nat.le_refl _, fun _ _ => rfl⟩
theorem quiet_w {w a : World} {m : Nat} (h : a = w.drewN m) (n : Nat) : a.drewN n = w.drewN (m + n) := by rw [h, World.drewN_drewN]
set_option maxRecDepth 20000 in
set_option maxHeartbeats 1500000 in
theorem rsame_any (N : Nat) : ∀ (t u : Bd) (A B : Option Addr) (c d : Nat) (v : Bool) (w : World), t.size ≤ N → t.size ≤ 1000000000 → u.size ≤ 1000000000 → t.wide ≤ 1000000000 → u.wide ≤ 1000000000 → BodyV w A t → BodyV w B u → t.same u = v →
    Calls Try.prog 54 #[.slice A t.len c, .slice B u.len d] w fun e w' => e = .returned (.bool v) ∧ ∃ k, w' = w.drewN k := by
  induction N with
  | zero =>
    intro t u A B c d v w hN hs1 hs2 hw1 hw2 h1 h2 hv
    have ht : t = .nil := by cases t <;> simp [Bd.size] at hN ⊢
    subst ht
    by_cases hl : u.len = 0
    · rw [hl]
      obtain rfl : v = true := by rw [← hv]; exact Bd.same_empty _ _ rfl hl
      exact (rsame_nil A B c d _).mono fun e w' ⟨he, hw⟩ => ⟨he, 0, hw.symm⟩
    · obtain rfl : v = false := by rw [← hv]; exact Bd.same_lenne _ _ (by simp only [Bd.len]; omega)
      exact (rsame_len A B 0 u.len c d _ (by omega) (by omega) (by have := Bd.len_le u; omega)).mono fun e w' ⟨he, hw⟩ => ⟨he, 0, hw.symm⟩
  | succ N ih =>
    intro t u A B c d v w hN hs1 hs2 hw1 hw2 h1 h2 hv
    have hl1 := Bd.len_le t
    have hl2 := Bd.len_le u
    by_cases hlen : t.len = u.len
    · have IH := Lib.hid ih
      have H1 := Lib.hid h1
      have H2 := Lib.hid h2
      have HV := Lib.hid hv
      obtain ⟨L, hL⟩ : ∃ L, L = t.len := ⟨_, rfl⟩
      have HL1 : Hid (t.len = L) := hL.symm
      have HL2 : Hid (u.len = L) := hlen.symm.trans hL.symm
      rw [← hlen, ← hL]
      rw [← hL] at hl1
      clear hL hlen hl2 h1 h2 hv ih
      go_enter Try.func54, Try.ntmps54
      go_wp2_with fail
      go_loopw [5] (fun s wr => ∃ (i m : Nat), i ≤ L ∧ s = .int .i64 (i : Int) ∧ Hid (wr = w.drewN m) ∧ Hid ((t.drop i).same (u.drop i) = v)) (fun s _ => L - (intOf s).toNat)
      case atStart => exact ⟨0, 0, Nat.zero_le _, rfl, rfl, HV⟩
      case round =>
        obtain ⟨i, m, hi, rfl, hW, hE⟩ := hrel
        by_cases hlt : i < L
        · obtain ⟨k1, a1, a2, b1, b2, xs, s1, r1, hd1⟩ := Bd.drop_cons t i (by have := HL1.out; omega)
          obtain ⟨k2, a1', a2', b1', b2', xs', s2, r2, hd2⟩ := Bd.drop_cons u i (by have := HL2.out; omega)
          obtain ⟨b, o, rfl, hat⟩ := H1.out (by have := HL1.out; omega)
          obtain ⟨b', o', rfl, hat'⟩ := H2.out (by have := HL2.out; omega)
          have hBW : Below w.heap.size w wr := by rw [hW.out]; exact below_dN w m _
          have q1 := (hat.old hBW).drop t b o i
          have q2 := (hat'.old hBW).drop u b' o' i
          have hE2 := hE.out
          have hz1 := Bd.sub_size t i hd1
          have hz2 := Bd.sub_size u i hd2
          rw [hd1] at q1 hE2
          rw [hd2] at q2 hE2
          obtain ⟨⟨d0, d1, d2, d3, d4⟩, ⟨va, d5, HA1⟩, ⟨As, cs, d6, hS1⟩, _⟩ := q1
          obtain ⟨⟨f0, f1, f2, f3, f4⟩, ⟨va', f5, HA2⟩, ⟨As', cs', f6, hS2⟩, _⟩ := q2
          obtain ⟨Aa, ca, rfl, ha1⟩ := HA1
          obtain ⟨Aa', ca', rfl, ha2⟩ := HA2
          have HA1 := Lib.hid ha1
          have HA2 := Lib.hid ha2
          have HS1 : Hid (BodyV wr As s1) := hS1
          have HS2 : Hid (BodyV wr As' s2) := hS2
          have Hn1 := Lib.hid (Bd.drop_succ t i hd1)
          have Hn2 := Lib.hid (Bd.drop_succ u i hd2)
          have HE2 := Lib.hid hE2
          clear hat hat' ha1 ha2 hS1 hS2 hE2 hE hd1 hd2 HV hBW
          have HX1 : Hid (xs.length ≤ 1000000000) := (by omega : xs.length ≤ 1000000000)
          have HX2 : Hid (xs'.length ≤ 1000000000) := (by omega : xs'.length ≤ 1000000000)
          have hli : (i : Int) < (L : Int) := by omega
          by_cases hk : k1 = k2
          · subst hk
            by_cases ha : a1 = a1' ∧ a2 = a2'
            · obtain ⟨rfl, rfl⟩ := ha
              by_cases hb : b1 = b1' ∧ b2 = b2'
              · obtain ⟨rfl, rfl⟩ := hb
                by_cases hxl : xs.length = xs'.length
                · cases hsub : s1.same s2
                  · obtain rfl : v = false := by rw [← HE2.out]; simp [Bd.same, hsub]
                    have HI := Lib.hid (fun w' hb' => IH.out s1 s2 As As' cs cs' false w' (by omega) (by omega) (by omega) (by omega) (by omega) (HS1.out.old hb') (HS2.out.old hb') hsub)
                    generalize xs'.length = lx' at *
                    generalize xs.length = lx at *
                    subst hxl
                    clear hsub
                    clear HA1 HA2 HS1 HS2 Hn1 Hn2 HE2 IH hz1 hz2
                    go_upto_region 6 with (fail)
                    simp only [List.append]
                    go_quiet ((go_at_call 54; exact quiet_in (HI.out _ (below_dN _ _ _))))
                    go_wp2
                    go_ret
                    exact ⟨rfl, _, quiet_w hW.out _⟩
                  · have HI := Lib.hid (fun w' hb' => IH.out s1 s2 As As' cs cs' true w' (by omega) (by omega) (by omega) (by omega) (by omega) (HS1.out.old hb') (HS2.out.old hb') hsub)
                    have HE3 : Hid ((decide (xs = xs') && r1.same r2) = v) := by
                      show _ = _
                      rw [← HE2.out]; simp [Bd.same, hsub]
                    have HXL := Lib.hid hxl
                    have HXX : Hid (∀ (lx : Nat), lx = xs.length → (∀ q, q < lx → xs.getD q (0, 0) = xs'.getD q (0, 0)) → xs = xs') := fun lx hlx h => list_ext_args hxl (fun q hq => h q (by omega))
                    obtain ⟨lx, hlx⟩ : ∃ lx, lx = xs.length := ⟨_, rfl⟩
                    have HLX := Lib.hid hlx
                    rw [← hxl, ← hlx] at f5
                    rw [← hlx] at d5
                    rw [← hlx] at hz1
                    clear hsub hxl hlx
                    clear HS1 HS2 HE2 IH
                    go_upto_region 6 with (fail)
                    simp only [List.append]
                    go_quiet ((go_at_call 54; exact quiet_in (HI.out _ (below_dN _ _ _))))
                    go_wp2_with fail
                    obtain ⟨w9, hw9⟩ : ∃ w9, w9 = wr := ⟨wr, rfl⟩
                    subst hw9
                    go_loopw [6] (fun s wi => ∃ (j m2 : Nat), j ≤ lx ∧ s = .int .i64 (j : Int) ∧ Hid (wi = w9.drewN m2) ∧ Hid (∀ q, q < j → xs.getD q (0, 0) = xs'.getD q (0, 0))) (fun s _ => lx - (intOf s).toNat)
                    case atStart => exact ⟨0, nq, Nat.zero_le _, rfl, rfl, fun q hq => absurd hq (by omega)⟩
                    case round =>
                      obtain ⟨j, m2, hj, rfl, hW2, hEq⟩ := hrel
                      have g5 : wr.cell? ⟨b, o + i * 7 + 5, none⟩ = some (.slice Aa lx ca) := by rw [hW2.out, World.cell?_drewN]; exact d5
                      have g5' : wr.cell? ⟨b', o' + i * 7 + 5, none⟩ = some (.slice Aa' lx ca') := by rw [hW2.out, World.cell?_drewN]; exact f5
                      by_cases hjl : j < lx
                      · obtain ⟨ba, oa, rfl, dd⟩ := HA1.out (by have := HLX.out; omega)
                        obtain ⟨ba', oa', rfl, dd'⟩ := HA2.out (by have := HLX.out; have := HXL.out; omega)
                        obtain ⟨x1, x2⟩ := dd j (by have := HLX.out; omega)
                        obtain ⟨y1, y2⟩ := dd' j (by have := HLX.out; have := HXL.out; omega)
                        rw [← World.cell?_drewN w9 m2, ← hW2.out] at x1 x2 y1 y2
                        have HNe : Hid (xs.getD j (0, 0) ≠ xs'.getD j (0, 0) → v = false) := fun e => by
                          rw [← HE3.out, decide_eq_false (fun e2 => e (by rw [e2]))]; rfl
                        generalize hp : xs.getD j (0, 0) = p at *
                        generalize hq : xs'.getD j (0, 0) = q at *
                        have HP := Lib.hid hp
                        have HQ := Lib.hid hq
                        clear hp hq dd dd'
                        obtain ⟨p1, p2⟩ := p
                        obtain ⟨q1, q2⟩ := q
                        simp only at x1 x2 y1 y2
                        by_cases e : p1 = q1 ∧ p2 = q2
                        · obtain ⟨rfl, rfl⟩ := e
                          clear d0 d1 d2 d3 d4 d5 d6 f0 f1 f2 f3 f4 f5 f6
                          go_upto_region 11 with (fail)
                          go_quiet (fail)
                          go_wp2
                          go_roundw
                          case rel =>
                            refine ⟨j + 1, _, by omega, by go_num, quiet_w hW2.out _, ?_⟩
                            intro z hz
                            by_cases hzj : z = j
                            · subst hzj; exact HP.out.trans HQ.out.symm
                            · exact hEq.out z (by omega)
                          case measure => simp [intOf]; omega
                        · obtain rfl : v = false := HNe.out (fun e2 => e (by injection e2 with e3 e4; exact ⟨e3, e4⟩))
                          clear HNe
                          by_cases hp1 : p1 = q1
                          · subst hp1
                            have hx : (p2 == q2) = false := by simp at e ⊢; exact e
                            have hx2 : (p2 != q2) = true := by simp at e ⊢; exact e
                            have hx3 : ¬ (p2 = q2) := by simpa using hx
                            clear e d0 d1 d2 d3 d4 d5 d6 f0 f1 f2 f3 f4 f5 f6
                            go_upto_region 11 with (fail)
                            go_quiet (fail)
                            go_wp2
                            go_ret
                            exact ⟨rfl, _, (quiet_w hW2.out _).trans (quiet_w hW.out _)⟩
                          · have hx : (p1 == q1) = false := by simpa using hp1
                            have hx2 : (p1 != q1) = true := by simpa using hp1
                            clear e d0 d1 d2 d3 d4 d5 d6 f0 f1 f2 f3 f4 f5 f6
                            go_upto_region 11 with (fail)
                            go_quiet (fail)
                            go_wp2
                            go_ret
                            exact ⟨rfl, _, (quiet_w hW2.out _).trans (quiet_w hW.out _)⟩
                      · obtain rfl : j = lx := by omega
                        have hxx := HXX.out j HLX.out hEq.out
                        have HE4 : Hid (r1.same r2 = v) := by
                          show _ = _
                          rw [← HE3.out, decide_eq_true hxx, Bool.true_and]
                        clear hxx d0 d1 d2 d3 d4 d5 d6 f0 f1 f2 f3 f4 f5 f6
                        go_wp2
                        go_roundw
                        case rel => exact ⟨i + 1, _, by omega, by go_num, hW2.out.trans (quiet_w hW.out _), by rw [Hn1.out, Hn2.out]; exact HE4⟩
                        case measure => simp [intOf]; omega
                · obtain rfl : v = false := by rw [← HE2.out]; simp only [Bd.same]; rw [decide_eq_false (fun e => hxl (congrArg List.length e))]; simp
                  have hx : ((xs.length : Int) == (xs'.length : Int)) = false := by simp; omega
                  have hx2 : ((xs.length : Int) != (xs'.length : Int)) = true := by simp; omega
                  clear HX1 HX2 HA1 HA2 HS1 HS2 Hn1 Hn2 HE2 IH hz1 hz2
                  go_upto_region 6 with (fail)
                  simp only [List.append]
                  go_quiet (fail)
                  go_wp2
                  go_ret
                  exact ⟨rfl, _, quiet_w hW.out _⟩
              · obtain rfl : v = false := by rw [← HE2.out]; simp [Bd.same, hb]
                by_cases hb1 : b1 = b1'
                · subst hb1
                  have hx : (b2 == b2') = false := by simp at hb ⊢; exact hb
                  have hx2 : (b2 != b2') = true := by simp at hb ⊢; exact hb
                  have hx3 : ¬ (b2 = b2') := by simpa using hx
                  clear hb
                  clear HX1 HX2 HA1 HA2 HS1 HS2 Hn1 Hn2 HE2 IH hz1 hz2
                  go_upto_region 6 with (fail)
                  simp only [List.append]
                  go_quiet (fail)
                  go_wp2
                  go_ret
                  exact ⟨rfl, _, quiet_w hW.out _⟩
                · have hx : (b1 == b1') = false := by simpa using hb1
                  have hx2 : (b1 != b1') = true := by simpa using hb1
                  clear hb
                  clear HX1 HX2 HA1 HA2 HS1 HS2 Hn1 Hn2 HE2 IH hz1 hz2
                  go_upto_region 6 with (fail)
                  simp only [List.append]
                  go_quiet (fail)
                  go_wp2
                  go_ret
                  exact ⟨rfl, _, quiet_w hW.out _⟩
            · obtain rfl : v = false := by rw [← HE2.out]; simp [Bd.same, ha]
              by_cases ha1 : a1 = a1'
              · subst ha1
                have hx : (a2 == a2') = false := by simp at ha ⊢; exact ha
                have hx2 : (a2 != a2') = true := by simp at ha ⊢; exact ha
                have hx3 : ¬ (a2 = a2') := by simpa using hx
                clear ha
                clear HX1 HX2 HA1 HA2 HS1 HS2 Hn1 Hn2 HE2 IH hz1 hz2
                go_upto_region 6 with (fail)
                simp only [List.append]
                go_quiet (fail)
                go_wp2
                go_ret
                exact ⟨rfl, _, quiet_w hW.out _⟩
              · have hx : (a1 == a1') = false := by simpa using ha1
                have hx2 : (a1 != a1') = true := by simpa using ha1
                clear ha
                clear HX1 HX2 HA1 HA2 HS1 HS2 Hn1 Hn2 HE2 IH hz1 hz2
                go_upto_region 6 with (fail)
                simp only [List.append]
                go_quiet (fail)
                go_wp2
                go_ret
                exact ⟨rfl, _, quiet_w hW.out _⟩
          · obtain rfl : v = false := by rw [← HE2.out]; simp [Bd.same, hk]
            have hx : (k1 == k2) = false := by simpa using hk
            have hx2 : (k1 != k2) = true := by simpa using hk
            clear HX1 HX2 HA1 HA2 HS1 HS2 Hn1 Hn2 HE2 IH hz1 hz2
            go_upto_region 6 with (fail)
            simp only [List.append]
            go_quiet (fail)
            go_wp2
            go_ret
            exact ⟨rfl, _, quiet_w hW.out _⟩
        · obtain rfl : i = L := by omega
          have hE2 := hE.out
          rw [Bd.drop_end t i (by have := HL1.out; omega), Bd.drop_end u i (by have := HL2.out; omega)] at hE2
          obtain rfl : v = true := by rw [← hE2]; rfl
          clear hE2
          go_wp2
          go_ret
          exact ⟨rfl, m, hW.out⟩
    · obtain rfl : v = false := by rw [← hv]; exact Bd.same_lenne _ _ hlen
      exact (rsame_len A B t.len u.len c d _ hlen (by omega) (by omega)).mono fun e w' ⟨he, hw⟩ => ⟨he, 0, hw.symm⟩
end Go.Proofs.Ytpdebnecfknohaa
namespace Go.Proofs.Ytpdebnecfknohaa
open Go.RowKit
set_option linter.unusedVariables false
set_option maxRecDepth 20000
def St7.small (s : St7) : Prop := s.xs.length ≤ 3 ∧ s.sub.size ≤ 2 ∧ s.sub.wide ≤ 3
theorem stm0_small (nl ng nf ns : Nat) (par : Nat → Nat) (K A B C : Nat) (hp : ∀ i, par i ≤ 3) : (stm0 nl ng nf ns par K A B C).xs.length ≤ 3 ∧ (stm0 nl ng nf ns par K A B C).sub = .nil := by
  have := hp (B % nf)
  have h4 : C / 4 % 4 ≤ 3 := by omega
  unfold stm0
  repeat' split
  all_goals simp
  all_goals omega
theorem stm_small (nl ng nf ns : Nat) (par : Nat → Nat) (K A B C : Nat) (hp : ∀ i, par i ≤ 3) : (stm nl ng nf ns par K A B C).small := by
  unfold stm
  split
  · split
    · exact ⟨by simp, by simp [Bd.size], by simp [Bd.wide]⟩
    · obtain ⟨h1, h2⟩ := stm0_small nl ng nf ns par (C % 8) A B C hp
      refine ⟨by simp, ?_, ?_⟩
      · simp [St7.ahead, Bd.size, h2]
      · simp [St7.ahead, Bd.wide, h2]; exact h1
  · obtain ⟨h1, h2⟩ := stm0_small nl ng nf ns par K A B C hp
    exact ⟨h1, by rw [h2]; simp [Bd.size], by rw [h2]; simp [Bd.wide]⟩
theorem bdOf_small : ∀ l : List St7, (∀ s ∈ l, s.small) → (bdOf l).size ≤ 3 * l.length ∧ (bdOf l).wide ≤ 6 * l.length
  | [], _ => by simp [bdOf, Bd.size, Bd.wide]
  | s :: l, h => by
    obtain ⟨h1, h2⟩ := bdOf_small l (fun x hx => h x (by simp [hx]))
    obtain ⟨g1, g2, g3⟩ := h s (by simp)
    simp only [bdOf, St7.ahead, Bd.size, Bd.wide, List.length_cons]
    omega
theorem pF_le (F i : Nat) : pF F i ≤ 3 := by unfold pF; omega
theorem mkT_small (F ng n na : Nat) (acts : List Ac) (k : Nat) : ∀ T ∈ mkT F ng n na acts k, ∀ s ∈ T, s.small := by
  induction k with
  | zero => intro T hT; simp [mkT] at hT; simp [hT.2]
  | succ k ih =>
    intro T hT
    simp only [mkT] at hT
    rcases List.mem_or_eq_of_mem_set hT with h | rfl
    · exact ih T h
    · intro s hs
      rcases List.mem_append.1 hs with h | h
      · rw [List.getD_eq_getElem?_getD] at h
        by_cases hj : actJ n na k < (mkT F ng n na acts k).length
        · rw [List.getElem?_eq_getElem hj] at h
          exact ih _ (List.getElem_mem hj) s h
        · rw [List.getElem?_eq_none (by omega)] at h
          simp at h
      · simp at h; subst h
        exact stm_small _ _ _ _ _ _ _ _ _ (pF_le F)
/-- A module that is no greater than these. -/
structure Md.Small (M : Md) : Prop where
  fns : 0 < M.funcs.length ∧ M.funcs.length ≤ 4
  body : ∀ f ∈ M.funcs, f.body.size ≤ 1000 ∧ f.body.wide ≤ 1000
theorem mk_small (gs : List (List UInt8)) (gl : List Int) (F E : Nat) (acts : List Ac) : (canM (mkM gs gl F E acts)).Small := by
  have hl : (mkM gs gl F E acts).funcs.length = 1 + F % 4 := by
    simp only [mkM]
    rw [fillB_len _ _ (by rw [mkT_len, mkL_len]), mkL_len]
  refine ⟨by simp only [canM, List.length_map, hl]; omega, fun f hf => ?_⟩
  simp only [canM, List.mem_map] at hf
  obtain ⟨f0, hf0, rfl⟩ := hf
  simp only [canFn]
  simp only [mkM, fillB] at hf0
  obtain ⟨i, hi, rfl⟩ := List.mem_iff_getElem.1 hf0
  simp only [List.getElem_zipWith]
  have hm := List.getElem_mem (l := mkT F gl.length (1 + F % 4) acts.length acts (min acts.length 60)) (n := i) (by simp at hi; omega)
  have h1 := mkT_small F gl.length (1 + F % 4) acts.length acts (min acts.length 60) _ hm
  have h2 := mkT_le F gl.length (1 + F % 4) acts.length acts (min acts.length 60) _ hm
  have h3 := bdOf_small _ h1
  omega
/-- What is read of one function. -/
theorem FnRow.at_ {w : World} {base : Nat} {X : Nat → Prop} {A : Option Addr} {n c : Nat} {L : List Fn} (h : FnRow w base X (.slice A n c) L) (i : Nat) (hi : i < L.length) : ∃ q, A = some ⟨q, 0, none⟩ ∧ q < w.heap.size ∧ base ≤ q ∧ n = L.length ∧ n ≤ c ∧ ∃ Al cl At ct Ab cb, RdS (fun k => some k ≠ some q ∧ X k) w Al L[i].locals.length 1 (intV L[i].locals) ∧ RdS (fun k => some k ≠ some q ∧ X k) w At L[i].sites.length 1 (intV L[i].sites) ∧ BodyS (fun k => some k ≠ some q ∧ X k) w Ab L[i].body ∧
    ∀ j u, ([.int .i64 L[i].name, .int .i64 L[i].params, .slice Al L[i].locals.length cl, .slice At L[i].sites.length ct, .slice Ab L[i].body.len cb] : List Value)[j]? = some u → w.cell? ⟨q, i * 5 + j, none⟩ = some u := by
  obtain ⟨css, h1, h2, h3⟩ := h.own
  have hn : n = L.length := by
    rcases h1.2 with ⟨hv, h0⟩ | ⟨k, cap', cur, hv, _⟩
    · injection hv with _ hv; omega
    · injection hv
  subst hn
  obtain ⟨q, cap, hv, hbq, hq⟩ := own_formM h1 (by omega)
  injection hv with hv1 _ hv3
  subst hv1 hv3
  obtain ⟨cs, hcs, Al, cl, At, ct, Ab, cb, rfl, r1, r2, hb⟩ := h3 i hi
  refine ⟨q, rfl, hq, hbq, rfl, ?_, Al, cl, At, ct, Ab, cb, r1, r2, hb, fun j u hj => ?_⟩
  · rcases h1.2 with ⟨hv, _⟩ | ⟨k, cap', cur, hv, _, _, h5, _⟩
    · cases hv
    · injection hv with _ _ hv; subst hv; exact h5
  · have hj5 : j < 5 := by
      rcases Nat.lt_or_ge j 5 with h | h
      · exact h
      · rw [List.getElem?_eq_none (by simpa using h)] at hj; cases hj
    have hall : ∀ c ∈ css, c.length = 5 := fun c hc => by
      obtain ⟨m, hm, rfl⟩ := List.mem_iff_getElem.1 hc
      obtain ⟨c2, hc2, _, _, _, _, _, _, e, _⟩ := h3 m (by omega)
      rw [List.getElem?_eq_getElem hm] at hc2
      injection hc2 with hc2
      rw [hc2, e]; rfl
    have flat_get : ∀ (l : List (List Value)) (i : Nat) (r : List Value), (∀ c ∈ l, c.length = 5) → l[i]? = some r → ∀ j, j < 5 → l.flatten[i * 5 + j]? = r[j]? := by
      intro l
      induction l with
      | nil => intro i r _ h; simp at h
      | cons x l ih =>
        intro i r hl hi j hj
        have hx : x.length = 5 := hl x (by simp)
        cases i with
        | zero =>
          simp at hi; subst hi
          rw [List.flatten_cons, List.getElem?_append_left (by omega)]; simp
        | succ i =>
          rw [List.flatten_cons, List.getElem?_append_right (by omega), hx, show (i + 1) * 5 + j - 5 = i * 5 + j from by omega]
          exact ih i r (fun c hc => hl c (by simp [hc])) (by simpa using hi) j hj
    have := own_cellsM h1 (i * 5 + j) u (by rw [flat_get css i _ hall hcs j hj5]; exact hj)
    rwa [Nat.zero_add] at this
end Go.Proofs.Ytpdebnecfknohaa
namespace Go.Proofs.Ytpdebnecfknohaa
open Go.RowKit
set_option linter.unusedVariables false
set_option maxRecDepth 20000
/-- A truth, and nothing but draws. -/
def QuB (w : World) (v : Bool) (e : Ending) (w' : World) : Prop := e = .returned (.bool v) ∧ ∃ k, w' = w.drewN k
theorem RdS.at_ {S : Nat → Prop} {w w' : World} {A : Option Addr} {n : Nat} {xs : List Value} (h : RdS S w A n 1 xs) (hb : Below w.heap.size w w') (i : Nat) (hi : i < n) {u : Value} (hu : xs[i]? = some u) : ∃ b o, A = some ⟨b, o, none⟩ ∧ b < w'.heap.size ∧ w'.cell? ⟨b, o + i, none⟩ = some u := by
  obtain ⟨b, o, hA, _, hc⟩ := h.2 (by omega)
  have := hc i u hu
  have hl := World.block_lt_of_cell? w ⟨b, o + i, none⟩ this
  exact ⟨b, o, hA, Nat.lt_of_lt_of_le hl hb.size, cell_old hb hl this⟩
theorem drop_eq_iff {α : Type} [DecidableEq α] {a b : List α} {i : Nat} (ha : i < a.length) (hb : i < b.length) : decide (a.drop i = b.drop i) = (decide (a[i] = b[i]) && decide (a.drop (i + 1) = b.drop (i + 1))) := by
  have e1 : a.drop i = a[i] :: a.drop (i + 1) := List.drop_eq_getElem_cons ha
  have e2 : b.drop i = b[i] :: b.drop (i + 1) := List.drop_eq_getElem_cons hb
  rw [e1, e2]
  generalize a.drop (i + 1) = ra
  generalize b.drop (i + 1) = rb
  by_cases h1 : a[i] = b[i] <;> by_cases h2 : ra = rb <;> simp [h1, h2]
set_option maxHeartbeats 1000000 in
theorem sameInts_any (a b : List Int) (A B : Option Addr) (ca cb : Nat) (w : World) (h1 : RdS (fun _ => True) w A a.length 1 (intV a)) (h2 : RdS (fun _ => True) w B b.length 1 (intV b)) (hl1 : a.length ≤ 1000000) (hl2 : b.length ≤ 1000000) :
    Calls Try.prog 53 #[.slice A a.length ca, .slice B b.length cb] w (QuB w (decide (a = b))) := by
  by_cases hlen : a.length = b.length
  · have H1 := Lib.hid h1
    have H2 := Lib.hid h2
    obtain ⟨v, hv⟩ : ∃ v, v = decide (a = b) := ⟨_, rfl⟩
    have HV : Hid (decide (a.drop 0 = b.drop 0) = v) := hv.symm
    rw [← hv]
    obtain ⟨L, hL⟩ : ∃ L, L = a.length := ⟨_, rfl⟩
    have HL1 : Hid (a.length = L) := hL.symm
    have HL2 : Hid (b.length = L) := hlen.symm.trans hL.symm
    rw [← hlen, ← hL]
    rw [← hL] at hl1
    clear hL hlen hl2 h1 h2 hv
    go_enter Try.func53, Try.ntmps53
    go_wp2_with fail
    go_loopw [5] (fun s wr => ∃ (i m : Nat), i ≤ L ∧ s = .int .i64 (i : Int) ∧ Hid (wr = w.drewN m) ∧ Hid (decide (a.drop i = b.drop i) = v)) (fun s _ => L - (intOf s).toNat)
    case atStart => exact ⟨0, 0, Nat.zero_le _, rfl, rfl, HV⟩
    case round =>
      obtain ⟨i, m, hi, rfl, hW, hE⟩ := hrel
      by_cases hlt : i < L
      · have hia : i < a.length := by have := HL1.out; omega
        have hib : i < b.length := by have := HL2.out; omega
        have hBW : Below w.heap.size w wr := by rw [hW.out]; exact below_dN w m _
        obtain ⟨q, o, rfl, hql, c1⟩ := H1.out.at_ hBW i hia (intV_get a i hia)
        obtain ⟨q', o', rfl, hql', c2⟩ := H2.out.at_ hBW i hib (intV_get b i hib)
        have hE2 := hE.out
        rw [drop_eq_iff hia hib] at hE2
        have HE2 := Lib.hid hE2
        have hq0 : (a[i] == b[i]) = decide (a[i] = b[i]) := rfl
        have hq1 : (a[i] != b[i]) = !decide (a[i] = b[i]) := rfl
        have hli : (i : Int) < (L : Int) := by omega
        clear hE hE2 hBW HV
        by_cases hx : a[i] = b[i]
        · have HE3 : Hid (decide (a.drop (i + 1) = b.drop (i + 1)) = v) := by show _ = _; have := HE2.out; simpa [hx] using this
          simp only [hx, decide_true, Bool.not_true] at hq0 hq1
          rw [hx] at c1
          clear HE2 hx
          generalize b[i] = xb at *
          go_upto_region 6 with (fail)
          go_quiet ((fail))
          go_wp2
          go_roundw
          case rel => exact ⟨i + 1, _, by omega, by go_num, quiet_w hW.out _, HE3⟩
          case measure => simp [intOf]; omega
        · obtain rfl : v = false := by rw [← HE2.out]; simp [hx]
          simp only [hx, decide_false, Bool.not_false] at hq0 hq1
          clear HE2 hx
          generalize a[i] = xa at *
          generalize b[i] = xb at *
          go_upto_region 6 with (fail)
          go_quiet ((fail))
          go_wp2
          go_ret
          exact ⟨rfl, _, quiet_w hW.out _⟩
      · obtain rfl : i = L := by omega
        obtain rfl : v = true := by rw [← hE.out, List.drop_of_length_le (by have := HL1.out; omega), List.drop_of_length_le (by have := HL2.out; omega)]; simp
        clear hE HV
        go_wp2
        go_ret
        exact ⟨rfl, _, hW.out⟩
  · have hv : decide (a = b) = false := by simp; intro h; rw [h] at hlen; exact hlen rfl
    rw [hv]
    have hli : ((a.length : Int) == (b.length : Int)) = false := by simp; omega
    have hlj : ((a.length : Int) != (b.length : Int)) = true := by simp; omega
    clear h1 h2 hv
    generalize a.length = la at *
    generalize b.length = lb at *
    go_enter Try.func53, Try.ntmps53
    go_wp2
    go_ret
    exact ⟨rfl, 0, rfl⟩
end Go.Proofs.Ytpdebnecfknohaa
namespace Go.Proofs.Ytpdebnecfknohaa
open Go.RowKit
set_option linter.unusedVariables false
set_option maxRecDepth 20000
set_option linter.unusedSimpArgs false
def fnSame (f g : Fn) : Bool := decide (f.name = g.name) && (decide (f.params = g.params) && (decide (f.locals = g.locals) && (decide (f.sites = g.sites) && f.body.same g.body)))
def fnsSame : List Fn → List Fn → Bool
  | [], [] => true
  | f :: l, g :: m => fnSame f g && fnsSame l m
  | _, _ => false
theorem fnsSame_len : ∀ l m : List Fn, l.length ≠ m.length → fnsSame l m = false
  | [], [], h => by simp at h
  | [], _ :: _, _ => rfl
  | _ :: _, [], _ => rfl
  | f :: l, g :: m, h => by simp only [fnsSame, fnsSame_len l m (by simpa using h), Bool.and_false]
theorem fnsSame_drop {l m : List Fn} {i : Nat} (h1 : i < l.length) (h2 : i < m.length) : fnsSame (l.drop i) (m.drop i) = (fnSame l[i] m[i] && fnsSame (l.drop (i + 1)) (m.drop (i + 1))) := by
  have e1 : l.drop i = l[i] :: l.drop (i + 1) := List.drop_eq_getElem_cons h1
  have e2 : m.drop i = m[i] :: m.drop (i + 1) := List.drop_eq_getElem_cons h2
  rw [e1, e2]
  rfl
theorem fnSame_refl (f : Fn) : fnSame f f = true := by simp [fnSame, Bd.same_refl]
theorem fnsSame_refl : ∀ l : List Fn, fnsSame l l = true
  | [] => rfl
  | f :: l => by simp [fnsSame, fnSame_refl, fnsSame_refl l]
/-- A truth, and what was there is as it was. -/
def BoB (w : World) (v : Bool) (e : Ending) (w' : World) : Prop := e = .returned (.bool v) ∧ Below w.heap.size w w'
theorem QuB.bo {w w' : World} {v : Bool} {e : Ending} (h : QuB w v e w') : BoB w v e w' := by
  obtain ⟨he, k, rfl⟩ := h
  exact ⟨he, below_dN _ _ _⟩
/-- No list is too long. -/
structure Fn.Fit (f : Fn) : Prop where
  locals : f.locals.length ≤ 1000000
  sites : f.sites.length ≤ 1000000
  size : f.body.size ≤ 10000000
  wide : f.body.wide ≤ 10000000
end Go.Proofs.Ytpdebnecfknohaa
namespace Go.Proofs.Ytpdebnecfknohaa
open Go.RowKit
set_option linter.unusedVariables false
set_option maxRecDepth 20000
set_option linter.unusedSimpArgs false
theorem FnsS.at_ {S : Nat → Prop} {w w' : World} {A : Option Addr} {L : List Fn} (h : FnsS S w A L) (hb : Below w.heap.size w w') (i : Nat) (hi : i < L.length) : ∃ b o A1 a1 A2 a2 A3 a3, A = some ⟨b, o, none⟩ ∧ b < w'.heap.size ∧ (w'.cell? ⟨b, o + i * 5, none⟩ = some (.int .i64 L[i].name) ∧ w'.cell? ⟨b, o + i * 5 + 1, none⟩ = some (.int .i64 L[i].params) ∧ w'.cell? ⟨b, o + i * 5 + 2, none⟩ = some (.slice A1 L[i].locals.length a1) ∧ w'.cell? ⟨b, o + i * 5 + 3, none⟩ = some (.slice A2 L[i].sites.length a2) ∧ w'.cell? ⟨b, o + i * 5 + 4, none⟩ = some (.slice A3 L[i].body.len a3)) ∧ RdS (fun _ => True) w' A1 L[i].locals.length 1 (intV L[i].locals) ∧ RdS (fun _ => True) w' A2 L[i].sites.length 1 (intV L[i].sites) ∧ BodyV w' A3 L[i].body := by
  obtain ⟨b, o, hA, _, hc⟩ := h (by omega)
  obtain ⟨cs, ⟨A1, a1, A2, a2, A3, a3, rfl, r1, r2, r3⟩, hat⟩ := hc i hi
  have hl : b < w.heap.size := World.block_lt_of_cell? w ⟨b, o + i * 5 + 0, none⟩ (hat 0 _ rfl)
  refine ⟨b, o, A1, a1, A2, a2, A3, a3, hA, Nat.lt_of_lt_of_le hl hb.size, ⟨cell_old hb hl (hat 0 _ rfl), cell_old hb hl (hat 1 _ rfl), cell_old hb hl (hat 2 _ rfl), cell_old hb hl (hat 3 _ rfl), cell_old hb hl (hat 4 _ rfl)⟩, (r1.old hb (by omega)).below (fun _ _ => trivial), (r2.old hb (by omega)).below (fun _ _ => trivial), r3.at_.old hb⟩
/-- A module that is read. -/
structure MdR (w : World) (As Ag Af Ae : Option Addr) (M : Md) : Prop where
  strs : RdS (fun _ => True) w As M.strs.length 1 (strV M.strs)
  globs : RdS (fun _ => True) w Ag M.globs.length 1 (intV M.globs)
  funcs : FnsS (fun _ => True) w Af M.funcs
  ents : RdS (fun _ => True) w Ae M.ents.length 1 (intV M.ents)
theorem MdR.old {w w' : World} {As Ag Af Ae : Option Addr} {M : Md} (h : MdR w As Ag Af Ae M) (hb : Below w.heap.size w w') : MdR w' As Ag Af Ae M :=
  ⟨h.strs.old hb (by omega), h.globs.old hb (by omega), h.funcs.old hb, h.ents.old hb (by omega)⟩
structure Md.Fit (M : Md) : Prop where
  strs : M.strs.length ≤ 1000000
  globs : M.globs.length ≤ 1000000
  funcs : M.funcs.length ≤ 1000000
  ents : M.ents.length ≤ 1000000
  fns : ∀ f ∈ M.funcs, f.Fit
def mdSame (M N : Md) : Bool := decide (M.strs = N.strs) && (decide (M.globs = N.globs) && (fnsSame M.funcs N.funcs && decide (M.ents = N.ents)))
theorem mdSame_refl (M : Md) : mdSame M M = true := by simp [mdSame, fnsSame_refl]
end Go.Proofs.Ytpdebnecfknohaa
namespace Go.Proofs.Ytpdebnecfknohaa
open Go.RowKit
set_option linter.unusedVariables false
set_option maxRecDepth 20000
set_option linter.unusedSimpArgs false
set_option maxRecDepth 20000 in
set_option maxHeartbeats 8000000 in
theorem same_any (M N : Md) (As Ag Af Ae Bs Bg Bf Be : Option Addr) (cs cg cf ce ds dg df de : Nat) (w : World) (hM : M.Fit) (hN : N.Fit) (h1 : MdR w As Ag Af Ae M) (h2 : MdR w Bs Bg Bf Be N) :
    Calls Try.prog 28 #[.agg #[.slice As M.strs.length cs, .slice Ag M.globs.length cg, .slice Af M.funcs.length cf, .slice Ae M.ents.length ce], .agg #[.slice Bs N.strs.length ds, .slice Bg N.globs.length dg, .slice Bf N.funcs.length df, .slice Be N.ents.length de]] w (BoB w (mdSame M N)) := by
  obtain ⟨m1, m2, m3, m4, m5⟩ := hM
  obtain ⟨n1, n2, n3, n4, n5⟩ := hN
  have H1 := Lib.hid h1
  have H2 := Lib.hid h2
  have M5 := Lib.hid m5
  have N5 := Lib.hid n5
  have hC2 := fun wx (hx : Below w.heap.size w wx) => (sameInts_any M.globs N.globs Ag Bg cg dg wx (h1.old hx).globs (h2.old hx).globs m2 n2).mono fun e w' h => h.bo
  have hC4 := fun wx (hx : Below w.heap.size w wx) => (sameInts_any M.ents N.ents Ae Be ce de wx (h1.old hx).ents (h2.old hx).ents m4 n4).mono fun e w' h => h.bo
  obtain ⟨v, hv⟩ : ∃ v, v = mdSame M N := ⟨_, rfl⟩
  have hE0 : (decide (M.strs = N.strs) && (decide (M.globs = N.globs) && (fnsSame M.funcs N.funcs && decide (M.ents = N.ents)))) = v := hv.symm
  rw [← hv]
  obtain ⟨v2, hv2⟩ : ∃ v, v = decide (M.globs = N.globs) := ⟨_, rfl⟩
  obtain ⟨v4, hv4⟩ : ∃ v, v = decide (M.ents = N.ents) := ⟨_, rfl⟩
  rw [← hv2] at hC2 hE0
  rw [← hv4] at hC4 hE0
  have HE0 := Lib.hid hE0
  have HC2 := Lib.hid hC2
  have HC4 := Lib.hid hC4
  clear h1 h2 hv hv2 hv4 hC2 hC4 hE0 m5 n5
  obtain ⟨ls, hls⟩ : ∃ ls, ls = M.strs.length := ⟨_, rfl⟩
  obtain ⟨lf, hlf⟩ : ∃ lf, lf = M.funcs.length := ⟨_, rfl⟩
  obtain ⟨ks, hks⟩ : ∃ ks, ks = N.strs.length := ⟨_, rfl⟩
  obtain ⟨kf, hkf⟩ : ∃ kf, kf = N.funcs.length := ⟨_, rfl⟩
  have HLS := Lib.hid hls
  have HLF := Lib.hid hlf
  have HKS := Lib.hid hks
  have HKF := Lib.hid hkf
  rw [← hls, ← hlf, ← hks, ← hkf]
  rw [← hls] at m1
  rw [← hlf] at m3
  rw [← hks] at n1
  rw [← hkf] at n3
  clear hls hlf hks hkf
  generalize M.globs.length = lg at *
  generalize M.ents.length = le at *
  generalize N.globs.length = kg at *
  generalize N.ents.length = ke at *
  have HB : Hid (Below w.heap.size w ((w.alloc (.cells #[.slice As ls cs, .slice Ag lg cg, .slice Af lf cf, .slice Ae le ce] 30)).alloc (.cells #[.slice Bs ks ds, .slice Bg kg dg, .slice Bf kf df, .slice Be ke de] 30))) := ((Below.refl _ _).alloc (Nat.le_refl _) _).alloc (by simp) _
  have K1 : Hid (Blk ((w.alloc (.cells #[.slice As ls cs, .slice Ag lg cg, .slice Af lf cf, .slice Ae le ce] 30)).alloc (.cells #[.slice Bs ks ds, .slice Bg kg dg, .slice Bf kf df, .slice Be ke de] 30)) w.heap.size 30 #[.slice As ls cs, .slice Ag lg cg, .slice Af lf cf, .slice Ae le ce]) := (Blk.new w 30 _).alloc _
  have K2 : Hid (Blk ((w.alloc (.cells #[.slice As ls cs, .slice Ag lg cg, .slice Af lf cf, .slice Ae le ce] 30)).alloc (.cells #[.slice Bs ks ds, .slice Bg kg dg, .slice Bf kf df, .slice Be ke de] 30)) (w.heap.size + 1) 30 #[.slice Bs ks ds, .slice Bg kg dg, .slice Bf kf df, .slice Be ke de]) := Blk.new' _ 30 _ _ (by simp)
  go_enter Try.func28, Try.ntmps28
  go_upto_region 1 with (fail)
  generalize (w.alloc (.cells #[.slice As ls cs, .slice Ag lg cg, .slice Af lf cf, .slice Ae le ce] 30)).alloc (.cells #[.slice Bs ks ds, .slice Bg kg dg, .slice Bf kf df, .slice Be ke de] 30) = w2 at *
  obtain ⟨c0, c1, c2, c3⟩ := K1.out.c4
  obtain ⟨d0, d1, d2, d3⟩ := K2.out.c4
  have z1 : w.heap.size < w2.heap.size := K1.out.lt
  have z2 : w.heap.size + 1 < w2.heap.size := K2.out.lt
  by_cases hsl : ls = ks
  · subst hsl
    go_wp2_with fail
    refine (HC2.out w2 HB.out).mono ?_
    rintro e w3 ⟨rfl, hb3⟩
    have HB3 := Lib.hid (HB.out.trans (hb3.mono HB.out.size))
    have K13 := Lib.hid (K1.out.old hb3)
    have K23 := Lib.hid (K2.out.old hb3)
    clear hb3 c0 c1 c2 c3 d0 d1 d2 d3 z1 z2 K1 K2
    obtain ⟨c0, c1, c2, c3⟩ := K13.out.c4
    obtain ⟨d0, d1, d2, d3⟩ := K23.out.c4
    have z1 : w.heap.size < w3.heap.size := K13.out.lt
    have z2 : w.heap.size + 1 < w3.heap.size := K23.out.lt
    cases v2 with
    | false =>
      obtain rfl : v = false := by rw [← HE0.out]; simp
      go_wp2
      go_ret
      exact ⟨by simp, HB3.out⟩
    | true =>
      go_wp2_with fail
      refine (HC4.out w3 HB3.out).mono ?_
      rintro e w4 ⟨rfl, hb4⟩
      have HB4 := Lib.hid (HB3.out.trans (hb4.mono HB3.out.size))
      have K14 := Lib.hid (K13.out.old hb4)
      have K24 := Lib.hid (K23.out.old hb4)
      clear hb4 c0 c1 c2 c3 d0 d1 d2 d3 z1 z2 K13 K23
      obtain ⟨c0, c1, c2, c3⟩ := K14.out.c4
      obtain ⟨d0, d1, d2, d3⟩ := K24.out.c4
      have z1 : w.heap.size < w4.heap.size := K14.out.lt
      have z2 : w.heap.size + 1 < w4.heap.size := K24.out.lt
      cases v4 with
      | false =>
        obtain rfl : v = false := by rw [← HE0.out]; simp
        go_wp2
        go_ret
        exact ⟨by simp, HB4.out⟩
      | true =>
        by_cases hfl : lf = kf
        · subst hfl
          have HE1 : Hid ((decide (M.strs.drop 0 = N.strs.drop 0) && fnsSame (M.funcs.drop 0) (N.funcs.drop 0)) = v) := by show _ = _; have := HE0.out; simpa using this
          clear HE0
          go_wp2_with fail
          clear c0 c1 c2 c3 d0 d1 d2 d3 z1 z2
          go_loopw [5] (fun s wr => ∃ (i : Nat), i ≤ ls ∧ s = .int .i64 (i : Int) ∧ Hid (Below w4.heap.size w4 wr) ∧ Hid ((decide (M.strs.drop i = N.strs.drop i) && fnsSame (M.funcs.drop 0) (N.funcs.drop 0)) = v)) (fun s _ => ls - (intOf s).toNat)
          case atStart => exact ⟨0, Nat.zero_le _, rfl, Below.refl _ _, HE1⟩
          case round =>
            clear HE1
            obtain ⟨i, hi, rfl, hB, hE⟩ := hrel
            have K15 := Lib.hid (K14.out.old hB.out)
            have K25 := Lib.hid (K24.out.old hB.out)
            obtain ⟨c0, c1, c2, c3⟩ := K15.out.c4
            obtain ⟨d0, d1, d2, d3⟩ := K25.out.c4
            have z1 : w.heap.size < wr.heap.size := K15.out.lt
            have z2 : w.heap.size + 1 < wr.heap.size := K25.out.lt
            by_cases hlt : i < ls
            · have hia : i < M.strs.length := by rw [← HLS.out]; exact hlt
              have hib : i < N.strs.length := by rw [← HKS.out]; exact hlt
              have hBx := HB4.out.trans (hB.out.mono HB4.out.size)
              obtain ⟨q, o, rfl, hql, e1⟩ := H1.out.strs.at_ hBx i hia (strV_get M.strs i hia)
              obtain ⟨q', o', rfl, hql', e2⟩ := H2.out.strs.at_ hBx i hib (strV_get N.strs i hib)
              have hE2 := hE.out
              rw [drop_eq_iff hia hib] at hE2
              have HE2 := Lib.hid hE2
              have hq0 : ((bs M.strs[i]).toList == (bs N.strs[i]).toList) = decide (M.strs[i] = N.strs[i]) := by rw [bs_toList, bs_toList]; by_cases h : M.strs[i] = N.strs[i] <;> simp [h]
              have hq1 : ((bs M.strs[i]).toList != (bs N.strs[i]).toList) = !decide (M.strs[i] = N.strs[i]) := by rw [bs_toList, bs_toList]; by_cases h : M.strs[i] = N.strs[i] <;> simp [h]
              have hli : (i : Int) < (ls : Int) := by omega
              clear hE hE2 hBx
              by_cases hx : M.strs[i] = N.strs[i]
              · have HE3 : Hid ((decide (M.strs.drop (i + 1) = N.strs.drop (i + 1)) && fnsSame (M.funcs.drop 0) (N.funcs.drop 0)) = v) := by show _ = _; have := HE2.out; simpa [hx] using this
                simp only [hx, decide_true, Bool.not_true] at hq0 hq1
                rw [hx] at e1
                clear HE2 hx
                generalize bs N.strs[i] = xb at *
                go_upto_region 6 with (fail)
                go_quiet ((fail))
                go_wp2
                go_roundw
                case rel => exact ⟨i + 1, by omega, by go_num, hB.out.trans ((below_dN _ _ _).mono hB.out.size), HE3⟩
                case measure => simp [intOf]; omega
              · obtain rfl : v = false := by rw [← HE2.out]; simp [hx]
                simp only [hx, decide_false, Bool.not_false] at hq0 hq1
                clear HE2 hx
                generalize bs M.strs[i] = xa at *
                generalize bs N.strs[i] = xb at *
                go_upto_region 6 with (fail)
                go_quiet ((fail))
                go_wp2
                go_ret
                exact ⟨rfl, HB4.out.trans ((hB.out.trans ((below_dN _ _ _).mono hB.out.size)).mono HB4.out.size)⟩
            · obtain rfl : i = ls := by omega
              have HE1 : Hid (fnsSame (M.funcs.drop 0) (N.funcs.drop 0) = v) := by
                show _ = _
                have := hE.out
                rw [List.drop_of_length_le (by have := HLS.out; omega), List.drop_of_length_le (by have := HKS.out; omega)] at this
                simpa using this
              have HB5 := Lib.hid (HB4.out.trans (hB.out.mono HB4.out.size))
              clear hE
              go_wp2_with fail
              clear c0 c1 c2 c3 d0 d1 d2 d3 z1 z2
              obtain ⟨w5, hw5⟩ : ∃ w5, w5 = wr := ⟨wr, rfl⟩
              subst hw5
              go_loopw [6] (fun s wr => ∃ (i : Nat), i ≤ lf ∧ s = .int .i64 (i : Int) ∧ Hid (Below w5.heap.size w5 wr) ∧ Hid (fnsSame (M.funcs.drop i) (N.funcs.drop i) = v)) (fun s _ => lf - (intOf s).toNat)
              case atStart => exact ⟨0, Nat.zero_le _, rfl, Below.refl _ _, HE1⟩
              case round =>
                clear HE1
                obtain ⟨j, hj, rfl, hBj, hE⟩ := hrel
                have K16 := Lib.hid (K15.out.old hBj.out)
                have K26 := Lib.hid (K25.out.old hBj.out)
                obtain ⟨c0, c1, c2, c3⟩ := K16.out.c4
                obtain ⟨d0, d1, d2, d3⟩ := K26.out.c4
                have z1 : w.heap.size < wr.heap.size := K16.out.lt
                have z2 : w.heap.size + 1 < wr.heap.size := K26.out.lt
                have HBx := Lib.hid (HB5.out.trans (hBj.out.mono HB5.out.size))
                by_cases hjlt : j < lf
                · have hia : j < M.funcs.length := by rw [← HLF.out]; exact hjlt
                  have hib : j < N.funcs.length := by rw [← HKF.out]; exact hjlt
                  obtain ⟨b, o, A1, a1, A2, a2, A3, a3, rfl, hbl, ⟨e0, e1, e2, e3, e4⟩, r1, r2, r3⟩ := H1.out.funcs.at_ HBx.out j hia
                  obtain ⟨b', o', B1, b1, B2, b2, B3, b3, rfl, hbl', ⟨f0, f1, f2, f3, f4⟩, s1, s2, s3⟩ := H2.out.funcs.at_ HBx.out j hib
                  have hE2 := hE.out
                  rw [fnsSame_drop hia hib] at hE2
                  obtain ⟨l1, l2, l3, l4⟩ := M5.out _ (List.getElem_mem hia)
                  obtain ⟨k1, k2, k3, k4⟩ := N5.out _ (List.getElem_mem hib)
                  generalize M.funcs[j] = f at *
                  generalize N.funcs[j] = g at *
                  obtain ⟨fn, fp, fl, fs, fb⟩ := f
                  obtain ⟨gn, gp, gl, gs, gb⟩ := g
                  dsimp only at *
                  have hD1 := fun wx (hx : Below wr.heap.size wr wx) => (sameInts_any fl gl A1 B1 a1 b1 wx (r1.old hx (by omega)) (s1.old hx (by omega)) l1 k1).mono fun e w' h => h.bo
                  have hD2 := fun wx (hx : Below wr.heap.size wr wx) => (sameInts_any fs gs A2 B2 a2 b2 wx (r2.old hx (by omega)) (s2.old hx (by omega)) l2 k2).mono fun e w' h => h.bo
                  have hD3 := fun wx (hx : Below wr.heap.size wr wx) => (rsame_any fb.size fb gb A3 B3 a3 b3 (fb.same gb) wx (Nat.le_refl _) (by omega) (by omega) (by omega) (by omega) (r3.old hx) (s3.old hx) rfl).mono fun e w' h => QuB.bo h
                  simp only [fnSame] at hE2
                  obtain ⟨vl, hvl⟩ : ∃ v, v = decide (fl = gl) := ⟨_, rfl⟩
                  obtain ⟨vs, hvs⟩ : ∃ v, v = decide (fs = gs) := ⟨_, rfl⟩
                  rw [← hvl] at hD1 hE2
                  rw [← hvs] at hD2 hE2
                  generalize fb.same gb = vb at *
                  have hlf : fb.len ≤ 10000000 := by have := Bd.len_le fb; omega
                  have hlg : gb.len ≤ 10000000 := by have := Bd.len_le gb; omega
                  generalize fl.length = lfl at *
                  generalize gl.length = lgl at *
                  generalize fs.length = lfs at *
                  generalize gs.length = lgs at *
                  generalize fb.len = lfb at *
                  generalize gb.len = lgb at *
                  have HE2 := Lib.hid hE2
                  have HD1 := Lib.hid hD1
                  have HD2 := Lib.hid hD2
                  have HD3 := Lib.hid hD3
                  have HBw : Hid (Below wr.heap.size wr ((wr.alloc (.cells #[.int .i64 fn, .int .i64 fp, .slice A1 lfl a1, .slice A2 lfs a2, .slice A3 lfb a3] 40)).alloc (.cells #[.int .i64 gn, .int .i64 gp, .slice B1 lgl b1, .slice B2 lgs b2, .slice B3 lgb b3] 40))) := ((Below.refl _ _).alloc (Nat.le_refl _) _).alloc (by simp) _
                  have Q1 : Hid (Blk ((wr.alloc (.cells #[.int .i64 fn, .int .i64 fp, .slice A1 lfl a1, .slice A2 lfs a2, .slice A3 lfb a3] 40)).alloc (.cells #[.int .i64 gn, .int .i64 gp, .slice B1 lgl b1, .slice B2 lgs b2, .slice B3 lgb b3] 40)) wr.heap.size 40 #[.int .i64 fn, .int .i64 fp, .slice A1 lfl a1, .slice A2 lfs a2, .slice A3 lfb a3]) := (Blk.new wr 40 _).alloc _
                  have Q2 : Hid (Blk ((wr.alloc (.cells #[.int .i64 fn, .int .i64 fp, .slice A1 lfl a1, .slice A2 lfs a2, .slice A3 lfb a3] 40)).alloc (.cells #[.int .i64 gn, .int .i64 gp, .slice B1 lgl b1, .slice B2 lgs b2, .slice B3 lgb b3] 40)) (wr.heap.size + 1) 40 #[.int .i64 gn, .int .i64 gp, .slice B1 lgl b1, .slice B2 lgs b2, .slice B3 lgb b3]) := Blk.new' _ 40 _ _ (by simp)
                  have HFin : Hid (∀ wx, Below wr.heap.size wr wx → Below w.heap.size w wx ∧ Below w5.heap.size w5 wx) := fun wx hx => ⟨HBx.out.trans (hx.mono HBx.out.size), hBj.out.trans (hx.mono hBj.out.size)⟩
                  clear hE hE2 hD1 hD2 hD3 r1 r2 r3 s1 s2 s3 hvl hvs
                  have hli : (j : Int) < (lf : Int) := by omega
                  go_upto_region 13 with (fail)
                  generalize (wr.alloc (.cells #[.int .i64 fn, .int .i64 fp, .slice A1 lfl a1, .slice A2 lfs a2, .slice A3 lfb a3] 40)).alloc (.cells #[.int .i64 gn, .int .i64 gp, .slice B1 lgl b1, .slice B2 lgs b2, .slice B3 lgb b3] 40) = w6 at *
                  clear c0 c1 c2 c3 d0 d1 d2 d3 e0 e1 e2 e3 e4 f0 f1 f2 f3 f4
                  obtain ⟨c0, c1, c2, c3, c4⟩ := Q1.out.c5
                  obtain ⟨d0, d1, d2, d3, d4⟩ := Q2.out.c5
                  have y1 : wr.heap.size < w6.heap.size := Q1.out.lt
                  have y2 : wr.heap.size + 1 < w6.heap.size := Q2.out.lt
                  by_cases hn : fn = gn
                  · subst hn
                    by_cases hp : fp = gp
                    · subst hp
                      go_wp2_with fail
                      refine (HD1.out w6 HBw.out).mono ?_
                      rintro e w7 ⟨rfl, hb7⟩
                      have HB7 := Lib.hid (HBw.out.trans (hb7.mono HBw.out.size))
                      have Q17 := Lib.hid (Q1.out.old hb7)
                      have Q27 := Lib.hid (Q2.out.old hb7)
                      clear hb7 c0 c1 c2 c3 c4 d0 d1 d2 d3 d4 y1 y2 Q1 Q2
                      obtain ⟨c0, c1, c2, c3, c4⟩ := Q17.out.c5
                      obtain ⟨d0, d1, d2, d3, d4⟩ := Q27.out.c5
                      have y1 : wr.heap.size < w7.heap.size := Q17.out.lt
                      have y2 : wr.heap.size + 1 < w7.heap.size := Q27.out.lt
                      cases vl with
                      | false =>
                        obtain rfl : v = false := by rw [← HE2.out]; simp
                        go_wp2
                        go_ret
                        exact ⟨rfl, (HFin.out _ HB7.out).1⟩
                      | true =>
                        go_wp2_with fail
                        refine (HD2.out w7 HB7.out).mono ?_
                        rintro e w8 ⟨rfl, hb8⟩
                        have HB8 := Lib.hid (HB7.out.trans (hb8.mono HB7.out.size))
                        have Q18 := Lib.hid (Q17.out.old hb8)
                        have Q28 := Lib.hid (Q27.out.old hb8)
                        clear hb8 c0 c1 c2 c3 c4 d0 d1 d2 d3 d4 y1 y2 Q17 Q27
                        obtain ⟨c0, c1, c2, c3, c4⟩ := Q18.out.c5
                        obtain ⟨d0, d1, d2, d3, d4⟩ := Q28.out.c5
                        have y1 : wr.heap.size < w8.heap.size := Q18.out.lt
                        have y2 : wr.heap.size + 1 < w8.heap.size := Q28.out.lt
                        cases vs with
                        | false =>
                          obtain rfl : v = false := by rw [← HE2.out]; simp
                          go_wp2
                          go_ret
                          exact ⟨rfl, (HFin.out _ HB8.out).1⟩
                        | true =>
                          go_wp2_with fail
                          refine (HD3.out w8 HB8.out).mono ?_
                          rintro e w9 ⟨rfl, hb9⟩
                          have HB9 := Lib.hid (HB8.out.trans (hb9.mono HB8.out.size))
                          clear hb9 c0 c1 c2 c3 c4 d0 d1 d2 d3 d4 y1 y2 Q18 Q28
                          cases vb with
                          | false =>
                            obtain rfl : v = false := by rw [← HE2.out]; simp
                            go_wp2
                            go_ret
                            exact ⟨rfl, (HFin.out _ HB9.out).1⟩
                          | true =>
                            have HE3 : Hid (fnsSame (M.funcs.drop (j + 1)) (N.funcs.drop (j + 1)) = v) := by show _ = _; have := HE2.out; simpa using this
                            go_wp2
                            go_roundw
                            case rel => exact ⟨j + 1, by omega, by go_num, (HFin.out _ HB9.out).2, HE3⟩
                            case measure => simp [intOf]; omega
                    · obtain rfl : v = false := by rw [← HE2.out]; simp [hp]
                      have hpi : (fp == gp) = false := by simpa using hp
                      have hpj : (fp != gp) = true := by simpa using hp
                      go_wp2
                      go_ret
                      exact ⟨rfl, (HFin.out _ HBw.out).1⟩
                  · obtain rfl : v = false := by rw [← HE2.out]; simp [hn]
                    have hni : (fn == gn) = false := by simpa using hn
                    have hnj : (fn != gn) = true := by simpa using hn
                    go_wp2
                    go_ret
                    exact ⟨rfl, (HFin.out _ HBw.out).1⟩
                · obtain rfl : j = lf := by omega
                  obtain rfl : v = true := by rw [← hE.out, List.drop_of_length_le (by have := HLF.out; omega), List.drop_of_length_le (by have := HKF.out; omega)]; rfl
                  clear hE
                  go_wp2
                  go_ret
                  exact ⟨rfl, HBx.out⟩
        · obtain rfl : v = false := by rw [← HE0.out, fnsSame_len _ _ (by rw [← HLF.out, ← HKF.out]; exact hfl)]; simp
          have hfi : ((lf : Int) == (kf : Int)) = false := by simp; omega
          have hfj : ((lf : Int) != (kf : Int)) = true := by simp; omega
          go_wp2
          go_ret
          exact ⟨rfl, HB4.out⟩
  · obtain rfl : v = false := by
      rw [← HE0.out]
      have : decide (M.strs = N.strs) = false := by simp; intro h; rw [HLS.out, HKS.out, h] at hsl; exact hsl rfl
      rw [this]; rfl
    have hsi : ((ls : Int) == (ks : Int)) = false := by simp; omega
    have hsj : ((ls : Int) != (ks : Int)) = true := by simp; omega
    go_wp2
    go_ret
    exact ⟨rfl, HB.out⟩
end Go.Proofs.Ytpdebnecfknohaa
namespace Go.Proofs.Ytpdebnecfknohaa
open Go.RowKit
set_option linter.unusedVariables false
set_option maxRecDepth 20000
set_option maxRecDepth 20000 in
set_option maxHeartbeats 1000000 in
theorem cloneStr_any (Aa : Option Addr) (ca : Nat) (l : List (List UInt8)) (w : World) (h : RdS (fun _ => True) w Aa l.length 1 (strV l)) (hl : l.length ≤ 1000000) :
    Calls Try.prog 57 #[.slice Aa l.length ca] w fun e w' => ∃ A c, e = .returned (.slice A l.length c) ∧ w'.ownsRow w.heap.size 9 1 (.slice A l.length c) l.length (strV l) ∧ Below w.heap.size w w' := by
  obtain ⟨i0, hi0, hz0, hz1, hz2⟩ := info_parts info9
  obtain ⟨n, hnl⟩ : ∃ n, n = l.length := ⟨_, rfl⟩
  have HNL := Lib.hid hnl
  have HFL : Hid ((strV l).length = n * 1) := by show _ = _; rw [hnl]; exact h.1
  cases Aa with
  | none =>
    have h0 : l = [] := by
      rcases Nat.eq_zero_or_pos l.length with h0 | h0
      · exact List.eq_nil_of_length_eq_zero h0
      · obtain ⟨b, o, hA, _⟩ := h.2 h0; cases hA
    subst h0
    clear h
    have hq := fun W => Lib.run_eql_slice_nil (P := Try.prog) W 26 9 none 0 ca 0 0 Try.underlying26
    simp only [List.length_nil]
    go_enter Try.func57, Try.ntmps57
    go_wp2
    go_ret
    exact ⟨none, 0, rfl, World.ownsRow_nil _ _ _ _, Below.refl _ _⟩
  | some a =>
    have hcc : ∀ j u, (strV l)[j]? = some u → w.cell? (a.add j) = some u := by
      intro j u hu
      have hp : 0 < l.length := by
        rcases Nat.eq_zero_or_pos l.length with h0 | h0
        · have : l = [] := List.eq_nil_of_length_eq_zero h0
          subst this; simp [strV] at hu
        · exact h0
      obtain ⟨b, o, hA, _, hc⟩ := h.2 hp
      injection hA with hA
      subst hA
      rw [Go.WideShapes.add_plain]
      exact hc j u hu
    have HF := Lib.hid hcc
    rw [← hnl] at hl ⊢
    clear hcc h hnl
    have hq := fun W => Lib.run_eql_slice_nil (P := Try.prog) W 26 9 (some a) n ca 0 0 Try.underlying26
    go_enter Try.func57, Try.ntmps57
    go_wp2_with (first | (at_builtin; refine wpList_append_own_at _ rfl (.tmp 5) (.tmp 6) 26 rfl w.heap.size 9 i0 (.string ⟨#[]⟩) 1 16 Try.underlying26 hi0 hz0 hz1 hz2 rfl (by decide) (.slice (some ⟨w.heap.size, 0, none⟩) 0 0) 0 [] rfl ?d1 a n ca (strV l) rfl ?c1 ?c2 ?c3 ?c4 ?c5 ?c6 ?_))
    case d1 => exact World.ownsRow_made w #[] 0 (Nat.le_refl _) (by unfold maxLen; omega) rfl
    case c1 => exact HFL.out
    case c2 =>
      intro j u hu
      have := HF.out j u hu
      rw [World.cell?_alloc_lt w _ _ (World.block_lt_of_cell? w _ this)]
      exact this
    case c3 => intro u hu; simp [strV] at hu; obtain ⟨x, _, rfl⟩ := hu; rfl
    case c4 => unfold maxLen; omega
    case c5 => omega
    case c6 => simp
    intro v' w1 hown hg _ hat
    have hown' : w1.ownsRow w.heap.size 9 1 v' n (strV l) := by simpa using hown
    obtain ⟨A, c, rfl⟩ := own_slice hown'
    have HO := Lib.hid hown'
    have HB := Lib.hid (((Below.refl w.heap.size w).alloc (Nat.le_refl _) (.cells #[] 9)).grown hg (by simp) (fun k hk => by simp [Value.ownBlock] at hk; omega))
    clear hown hown' hg hat
    go_wp2
    go_ret
    exact ⟨A, c, rfl, HO.out, HB.out⟩
set_option maxRecDepth 20000 in
set_option maxHeartbeats 1000000 in
theorem cloneInt_any (Aa : Option Addr) (ca : Nat) (l : List Int) (w : World) (h : RdS (fun _ => True) w Aa l.length 1 (intV l)) (hl : l.length ≤ 1000000) :
    Calls Try.prog 77 #[.slice Aa l.length ca] w fun e w' => ∃ A c, e = .returned (.slice A l.length c) ∧ w'.ownsRow w.heap.size 3 1 (.slice A l.length c) l.length (intV l) ∧ Below w.heap.size w w' := by
  obtain ⟨i0, hi0, hz0, hz1, hz2⟩ := info_parts info3
  obtain ⟨n, hnl⟩ : ∃ n, n = l.length := ⟨_, rfl⟩
  have HNL := Lib.hid hnl
  have HFL : Hid ((intV l).length = n * 1) := by show _ = _; rw [hnl]; exact h.1
  cases Aa with
  | none =>
    have h0 : l = [] := by
      rcases Nat.eq_zero_or_pos l.length with h0 | h0
      · exact List.eq_nil_of_length_eq_zero h0
      · obtain ⟨b, o, hA, _⟩ := h.2 h0; cases hA
    subst h0
    clear h
    have hq := fun W => Lib.run_eql_slice_nil (P := Try.prog) W 27 3 none 0 ca 0 0 Try.underlying27
    simp only [List.length_nil]
    go_enter Try.func77, Try.ntmps77
    go_wp2
    go_ret
    exact ⟨none, 0, rfl, World.ownsRow_nil _ _ _ _, Below.refl _ _⟩
  | some a =>
    have hcc : ∀ j u, (intV l)[j]? = some u → w.cell? (a.add j) = some u := by
      intro j u hu
      have hp : 0 < l.length := by
        rcases Nat.eq_zero_or_pos l.length with h0 | h0
        · have : l = [] := List.eq_nil_of_length_eq_zero h0
          subst this; simp [intV] at hu
        · exact h0
      obtain ⟨b, o, hA, _, hc⟩ := h.2 hp
      injection hA with hA
      subst hA
      rw [Go.WideShapes.add_plain]
      exact hc j u hu
    have HF := Lib.hid hcc
    rw [← hnl] at hl ⊢
    clear hcc h hnl
    have hq := fun W => Lib.run_eql_slice_nil (P := Try.prog) W 27 3 (some a) n ca 0 0 Try.underlying27
    go_enter Try.func77, Try.ntmps77
    go_wp2_with (first | (at_builtin; refine wpList_append_own_at _ rfl (.tmp 5) (.tmp 6) 27 rfl w.heap.size 3 i0 (.int .i64 0) 1 8 Try.underlying27 hi0 hz0 hz1 hz2 rfl (by decide) (.slice (some ⟨w.heap.size, 0, none⟩) 0 0) 0 [] rfl ?d1 a n ca (intV l) rfl ?c1 ?c2 ?c3 ?c4 ?c5 ?c6 ?_))
    case d1 => exact World.ownsRow_made w #[] 0 (Nat.le_refl _) (by unfold maxLen; omega) rfl
    case c1 => exact HFL.out
    case c2 =>
      intro j u hu
      have := HF.out j u hu
      rw [World.cell?_alloc_lt w _ _ (World.block_lt_of_cell? w _ this)]
      exact this
    case c3 => intro u hu; simp [intV] at hu; obtain ⟨x, _, rfl⟩ := hu; rfl
    case c4 => unfold maxLen; omega
    case c5 => omega
    case c6 => simp
    intro v' w1 hown hg _ hat
    have hown' : w1.ownsRow w.heap.size 3 1 v' n (intV l) := by simpa using hown
    obtain ⟨A, c, rfl⟩ := own_slice hown'
    have HO := Lib.hid hown'
    have HB := Lib.hid (((Below.refl w.heap.size w).alloc (Nat.le_refl _) (.cells #[] 3)).grown hg (by simp) (fun k hk => by simp [Value.ownBlock] at hk; omega))
    clear hown hown' hg hat
    go_wp2
    go_ret
    exact ⟨A, c, rfl, HO.out, HB.out⟩
end Go.Proofs.Ytpdebnecfknohaa
