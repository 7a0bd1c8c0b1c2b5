
/-
  What the reference's Make makes, plainly; what lies in memory ahead of Canon.
-/
import Derived.Test.YtpdebnecfknohaaMb
namespace Go.Proofs.Ytpdebnecfknohaa
open Go.RowKit
set_option linter.unusedVariables false
set_option maxRecDepth 20000

def ints (n : Nat) : List Int := (List.range n).map fun (j : Nat) => (j : Int)
theorem ints_succ (n : Nat) : ints (n + 1) = ints n ++ [(n : Int)] := by simp [ints, List.range_succ]
theorem ints_len (n : Nat) : (ints n).length = n := by simp [ints]
/-- The globals' names. -/
def gnames (st n : Nat) : List (List UInt8) := (List.range n).map fun j => nameF (j * st)
theorem gnames_succ (st n : Nat) : gnames st (n + 1) = gnames st n ++ [nameF (n * st)] := by simp [gnames, List.range_succ]
theorem gnames_len (st n : Nat) : (gnames st n).length = n := by simp [gnames]
def pF (F i : Nat) : Nat := (i + F / 4) % 4
def nlF (F i : Nat) : Nat := pF F i + 1 + i % 3
def nsF (i : Nat) : Nat := 1 + i % 2
def fnameF (i : Nat) : List UInt8 := [102, UInt8.ofNat (48 + i)]
def namesF (a n : Nat) : List (List UInt8) := (List.range n).map fun j => nameF (a + j)
def seqI (a n : Nat) : List Int := (List.range n).map fun (j : Nat) => ((a + j : Nat) : Int)
theorem namesF_succ (a n : Nat) : namesF a (n + 1) = namesF a n ++ [nameF (a + n)] := by simp [namesF, List.range_succ]
theorem seqI_succ (a n : Nat) : seqI a (n + 1) = seqI a n ++ [((a + n : Nat) : Int)] := by simp [seqI, List.range_succ]
theorem namesF_len (a n : Nat) : (namesF a n).length = n := by simp [namesF]
theorem seqI_len (a n : Nat) : (seqI a n).length = n := by simp [seqI]
/-- The strings ahead of Canon, behind i functions. -/
def mkS (g0 : List (List UInt8)) (F : Nat) : Nat → List (List UInt8)
  | 0 => g0
  | i + 1 => ((mkS g0 F i ++ [fnameF i]) ++ namesF 100 (nlF F i)) ++ namesF 200 (nsF i)
def mkL (g0 : List (List UInt8)) (F : Nat) : Nat → List Fn
  | 0 => []
  | i + 1 => mkL g0 F i ++ [⟨((mkS g0 F i).length : Int), (pF F i : Int), seqI ((mkS g0 F i).length + 1) (nlF F i), seqI ((mkS g0 F i).length + 1 + nlF F i) (nsF i), .nil⟩]
theorem mkS_len (g0 : List (List UInt8)) (F i : Nat) : (mkS g0 F i).length ≤ g0.length + 10 * i := by
  induction i with
  | zero => simp [mkS]
  | succ i ih =>
    simp only [mkS, List.length_append, namesF_len, List.length_singleton, nlF, nsF, pF]
    omega

/-- The entries. -/
def entsF (E : Nat) : Nat → List Int
  | 0 => []
  | i + 1 => if E / 2 ^ i % 2 = 1 then entsF E i ++ [(i : Int)] else entsF E i
theorem entsF_len (E i : Nat) : (entsF E i).length ≤ i := by
  induction i with
  | zero => simp [entsF]
  | succ i ih =>
    simp only [entsF]
    split
    · simp; omega
    · omega

/-- An act. -/
structure Ac where
  k : Nat
  a : Nat
  b : Nat
  c : Nat
/-- Where an act goes. -/
def actJ (n na i : Nat) : Nat := if na < 60 then i * n / na else i * n / 60
/-- The bodies behind so many acts. -/
def mkT (F ng n na : Nat) (acts : List Ac) : Nat → List (List St7)
  | 0 => List.replicate n []
  | i + 1 => (mkT F ng n na acts i).set (actJ n na i) ((mkT F ng n na acts i).getD (actJ n na i) [] ++ [stm (nlF F (actJ n na i)) ng n (nsF (actJ n na i)) (pF F) (acts.getD i ⟨0, 0, 0, 0⟩).k (acts.getD i ⟨0, 0, 0, 0⟩).a (acts.getD i ⟨0, 0, 0, 0⟩).b (acts.getD i ⟨0, 0, 0, 0⟩).c])
theorem mkT_len (F ng n na : Nat) (acts : List Ac) (k : Nat) : (mkT F ng n na acts k).length = n := by
  induction k with
  | zero => simp [mkT]
  | succ k ih => simp [mkT, ih]
theorem mkT_le (F ng n na : Nat) (acts : List Ac) (k : Nat) : ∀ T ∈ mkT F ng n na acts k, T.length ≤ k := by
  induction k with
  | zero => intro T hT; simp [mkT] at hT; simp [hT.2]
  | succ k ih =>
    intro T hT
    simp only [mkT] at hT
    rcases List.mem_or_eq_of_mem_set hT with h | rfl
    · have := ih T h; omega
    · simp only [List.length_append, List.length_singleton]
      by_cases hj : actJ n na k < (mkT F ng n na acts k).length
      · have := ih _ (List.getElem_mem hj)
        rw [List.getD_eq_getElem?_getD, List.getElem?_eq_getElem hj]
        simpa using this
      · rw [List.getD_eq_getElem?_getD, List.getElem?_eq_none (by omega)]
        simp
theorem mkL_len (g0 : List (List UInt8)) (F i : Nat) : (mkL g0 F i).length = i := by
  induction i with
  | zero => rfl
  | succ i ih => simp [mkL, ih]
theorem mkL_get (g0 : List (List UInt8)) (F n i : Nat) (h : i < n) : (mkL g0 F n)[i]? = some ⟨((mkS g0 F i).length : Int), (pF F i : Int), seqI ((mkS g0 F i).length + 1) (nlF F i), seqI ((mkS g0 F i).length + 1 + nlF F i) (nsF i), .nil⟩ := by
  induction n with
  | zero => omega
  | succ n ih =>
    simp only [mkL]
    by_cases hi : i < n
    · rw [List.getElem?_append_left (by rw [mkL_len]; exact hi)]
      exact ih hi
    · obtain rfl : i = n := by omega
      rw [List.getElem?_append_right (by rw [mkL_len]; exact Nat.le_refl _), mkL_len, Nat.sub_self]
      rfl
def AcsAt (w : World) (A : Option Addr) (l : List Ac) : Prop := 0 < l.length → ∃ b o, A = some ⟨b, o, none⟩ ∧ ∀ i (h : i < l.length), w.cell? ⟨b, o + i * 4, none⟩ = some (.int .u8 (l[i].k : Int)) ∧ w.cell? ⟨b, o + i * 4 + 1, none⟩ = some (.int .u8 (l[i].a : Int)) ∧ w.cell? ⟨b, o + i * 4 + 2, none⟩ = some (.int .u8 (l[i].b : Int)) ∧ w.cell? ⟨b, o + i * 4 + 3, none⟩ = some (.int .u8 (l[i].c : Int))


theorem own_lt {w : World} {base e size n : Nat} {v : Value} {xs : List Value} (h : w.ownsRow base e size v n xs) : ∀ k, some k = v.ownBlock → k < w.heap.size := fun k hk => by
  rcases h.2 with ⟨rfl, _⟩ | ⟨q, cap, cur, rfl, hq, hh, _⟩
  · simp [Value.ownBlock] at hk
  · have : k = q := by simpa [Value.ownBlock] using hk
    subst this
    exact heap_ltM hh
theorem own_ge {w : World} {base e size n : Nat} {v : Value} {xs : List Value} (h : w.ownsRow base e size v n xs) : ∀ k, some k = v.ownBlock → base ≤ k := fun k hk => by
  rcases h.2 with ⟨rfl, _⟩ | ⟨q, cap, cur, rfl, hq, hh, _⟩
  · simp [Value.ownBlock] at hk
  · have : k = q := by simpa [Value.ownBlock] using hk
    subst this
    exact hq
/-- Functions and their bodies. -/
def fillB (L : List Fn) (Ts : List (List St7)) : List Fn := List.zipWith (fun f T => ⟨f.name, f.params, f.locals, f.sites, bdOf T⟩) L Ts
theorem fillB_len (L : List Fn) (Ts : List (List St7)) (h : Ts.length = L.length) : (fillB L Ts).length = L.length := by simp [fillB, h]
theorem fillB_mem {L : List Fn} {Ts : List (List St7)} {f : Fn} (h : f ∈ fillB L Ts) : ∃ f0 ∈ L, f.name = f0.name ∧ f.locals = f0.locals ∧ f.sites = f0.sites := by
  obtain ⟨i, hi, rfl⟩ := List.mem_iff_getElem.1 h
  simp only [fillB, List.getElem_zipWith]
  exact ⟨_, List.getElem_mem _, rfl, rfl, rfl⟩
section
variable {w W1 wr : World} {g n : Nat} {Vs : List Value} {Ts : List (List St7)}
theorem MkA.done (h : MkA w W1 wr g n Vs Ts) {D Z : Array Value} {B3 : Nat} {S : List (List UInt8)} {gl : List Int} {L : List Fn} {En : List Int} {As Ag Ae : Option Addr} {ns cs ng cg cf ne ce : Nat} (hE : MkE w W1 D Z B3 S gl L En As ns cs Ag ng cg (some ⟨g, 0, none⟩) n cf Ae ne ce) :
    RdS (fun _ => True) wr As ns 1 (strV S) ∧ RdS (fun _ => True) wr Ag ng 1 (intV gl) ∧ wr.ownsRow B3 3 1 (.slice Ae ne ce) ne (intV En) ∧ FnsS (fun k => w.heap.size + 1 + 1 + 1 ≤ k) wr (some ⟨g, 0, none⟩) (fillB L Ts) := by
  obtain ⟨cur0, cur, b0, b1, hcs, hc⟩ := h.row
  have hkp : ∀ {base e m c : Nat} {A : Option Addr} {xs : List Value}, e ≠ 40 → W1.ownsRow base e 1 (.slice A m c) m xs → wr.ownsRow base e 1 (.slice A m c) m xs := fun he ho => own_blocks ho (fun k hk => h.keep k (own_lt ho k hk) (fun e2 => by subst e2; exact own_ne ho b0 he hk))
  have hb := hE.b3
  have hs := h.size
  refine ⟨(RdS.own (hkp (by decide) hE.os)).below (fun _ _ => trivial), (RdS.own (hkp (by decide) hE.og)).below (fun _ _ => trivial), hkp (by decide) hE.oe, fun hp => ⟨g, 0, rfl, (hE.fr.blk g rfl).1, fun i hi => ?_⟩⟩
  have hL := hE.lens.2.2.1
  have hiL : i < L.length := by rw [fillB_len _ _ (by rw [h.lens.2, hL])] at hi; exact hi
  have hiT : i < Ts.length := by rw [h.lens.2, ← hL]; exact hiL
  obtain ⟨Al, cl, At, ct, v, hv, ⟨f0, f1, f2, f3, f4⟩, r1, r2⟩ := h.fn hE.fr hL i hiL
  obtain ⟨Ab, cb, rfl⟩ := h.slice hv (List.getElem?_eq_getElem hiT)
  have hvb := h.blk hv
  obtain ⟨hB, hBl⟩ := (h.bodies i _ _ hv (List.getElem?_eq_getElem hiT)).body (S := fun k => w.heap.size + 1 + 1 + 1 ≤ k) (fun k hk _ => by have := hk.1; omega) (fun k hk => by have := hvb k hk; omega)
  have e : (fillB L Ts)[i] = ⟨L[i].name, L[i].params, L[i].locals, L[i].sites, bdOf Ts[i]⟩ := by simp [fillB]
  have kk : Kept (fun k => k ≠ g ∧ (some k ≠ (Value.slice As ns cs).ownBlock ∧ w.heap.size + 1 + 1 + 1 ≤ k ∧ k < B3)) W1 wr := fun k hk hl => h.keep k hl hk.1
  rw [hBl] at f4
  refine ⟨[.int .i64 L[i].name, .int .i64 L[i].params, .slice Al L[i].locals.length cl, .slice At L[i].sites.length ct, .slice Ab (bdOf Ts[i]).len cb], ?_, fun j u hj => ?_⟩
  · rw [e]
    exact ⟨Al, cl, At, ct, Ab, cb, rfl, r1.kept kk (fun k hk _ => hk.2.2.1) (by decide), r2.kept kk (fun k hk _ => hk.2.2.1) (by decide), hB⟩
  · rw [Nat.zero_add]
    match j, hj with
    | 0, hj => injection hj with hj; subst hj; exact f0
    | 1, hj => injection hj with hj; subst hj; exact f1
    | 2, hj => injection hj with hj; subst hj; exact f2
    | 3, hj => injection hj with hj; subst hj; exact f3
    | 4, hj => injection hj with hj; subst hj; exact f4
end
theorem mkS_mono (g0 : List (List UInt8)) (F i n : Nat) (h : i ≤ n) : (mkS g0 F i).length ≤ (mkS g0 F n).length := by
  induction n with
  | zero => obtain rfl : i = 0 := by omega
            exact Nat.le_refl _
  | succ n ih =>
    by_cases hi : i = n + 1
    · subst hi; exact Nat.le_refl _
    · refine Nat.le_trans (ih (by omega)) ?_
      simp only [mkS, List.length_append]
      omega
theorem mkL_ok (g0 : List (List UInt8)) (F n : Nat) (f : Fn) (h : f ∈ mkL g0 F n) : (0 ≤ f.name ∧ f.name < (mkS g0 F n).length) ∧ (f.locals.length ≤ 1000 ∧ ∀ i ∈ f.locals, 0 ≤ i ∧ i < (mkS g0 F n).length) ∧ (f.sites.length ≤ 1000 ∧ ∀ i ∈ f.sites, 0 ≤ i ∧ i < (mkS g0 F n).length) := by
  obtain ⟨i, hi, rfl⟩ := List.mem_iff_getElem.1 h
  have hin : i < n := by rw [mkL_len] at hi; exact hi
  have e := mkL_get g0 F n i hin
  rw [List.getElem?_eq_getElem hi, Option.some.injEq] at e
  rw [e]
  have h1 := mkS_mono g0 F (i + 1) n hin
  simp only [mkS, List.length_append, namesF_len, List.length_singleton] at h1
  have hb : nlF F i ≤ 10 ∧ nsF i ≤ 10 := by unfold nlF nsF pF; omega
  refine ⟨by dsimp only; omega, ⟨by rw [seqI_len]; omega, fun x hx => ?_⟩, ⟨by rw [seqI_len]; omega, fun x hx => ?_⟩⟩ <;>
  · simp only [seqI, List.mem_map, List.mem_range] at hx
    obtain ⟨t, ht, rfl⟩ := hx
    omega
/-- What Make makes ahead of Canon. -/
def mkM (gs : List (List UInt8)) (gl : List Int) (F E : Nat) (acts : List Ac) : Md :=
  ⟨mkS gs F (1 + F % 4), gl, fillB (mkL gs F (1 + F % 4)) (mkT F gl.length (1 + F % 4) acts.length acts (min acts.length 60)), entsF E (1 + F % 4)⟩
theorem mkM_ok (g0 : List (List UInt8)) (gl : List Int) (F n : Nat) (Ts : List (List St7)) (En : List Int) (hn : n ≤ 4) (hg : g0.length ≤ 4) (hgl : gl.length ≤ 4) (hb : ∀ x ∈ gl, 0 ≤ x ∧ x < (g0.length : Int)) (hT : Ts.length = n) : (Md.mk (mkS g0 F n) gl (fillB (mkL g0 F n) Ts) En).Ok := by
  have h0 := mkS_len g0 F n
  have h1 := mkS_mono g0 F 0 n (Nat.zero_le _)
  simp only [mkS] at h1
  refine ⟨by dsimp only; omega, ⟨by dsimp only; omega, fun x hx => ?_⟩, ?_, fun f hf => ?_⟩
  · have := hb x hx; dsimp only; omega
  · dsimp only; rw [fillB_len _ _ (by rw [hT, mkL_len]), mkL_len]; omega
  · obtain ⟨f0, hf0, e1, e2, e3⟩ := fillB_mem hf
    have := mkL_ok g0 F n f0 hf0
    rw [e1, e2, e3]
    exact this
/-- What a module leaves behind that was made: rows of its own. -/
def MkPost (w : World) (M : Md) (e : Ending) (w' : World) : Prop :=
  ∃ Al cl A2 c2 Ax cx Ae ce, e = .returned (.agg #[.slice Al M.strs.length cl, .slice A2 M.globs.length c2, .slice Ax M.funcs.length cx, .slice Ae M.ents.length ce]) ∧
    w'.ownsRow w.heap.size 9 1 (.slice Al M.strs.length cl) M.strs.length (strV M.strs) ∧
    w'.ownsRow w.heap.size 3 1 (.slice A2 M.globs.length c2) M.globs.length (intV M.globs) ∧
    FnRow w' w.heap.size (fun k => w.heap.size ≤ k) (.slice Ax M.funcs.length cx) M.funcs ∧
    w'.ownsRow w.heap.size 3 1 (.slice Ae M.ents.length ce) M.ents.length (intV M.ents) ∧ Below w.heap.size w w'
theorem own_base {w : World} {base base' e size n : Nat} {v : Value} {xs : List Value} (h : w.ownsRow base e size v n xs) (hb : base' ≤ base) : w.ownsRow base' e size v n xs := by
  refine ⟨h.1, ?_⟩
  rcases h.2 with h | ⟨k, cap, cur, hv, hq, rest⟩
  · exact .inl h
  · exact .inr ⟨k, cap, cur, hv, Nat.le_trans hb hq, rest⟩
/-- Behind Canon, and behind the result's box. -/
theorem make_end {w wr w3 : World} {M : Md} {Al A2 Ax Ae : Option Addr} {cl c2 cx ce B3 ne : Nat} (hb : Below w.heap.size w wr) (hs : w.heap.size + 1 + 1 + 1 ≤ wr.heap.size) (hB3 : w.heap.size + 1 + 1 + 1 ≤ B3) (hne : ne = M.ents.length) (hEn : wr.ownsRow B3 3 1 (.slice Ae ne ce) ne (intV M.ents))
    (h1 : w3.ownsRow wr.heap.size 9 1 (.slice Al (canM M).strs.length cl) (canM M).strs.length (strV (canM M).strs))
    (h2 : w3.ownsRow wr.heap.size 3 1 (.slice A2 (canM M).globs.length c2) (canM M).globs.length (intV (canM M).globs))
    (h3 : FnRow w3 wr.heap.size (fun k => some k ≠ (Value.slice Al (canM M).strs.length cl).ownBlock ∧ (w.heap.size + 1 + 1 + 1 ≤ k ∨ wr.heap.size ≤ k)) (.slice Ax (canM M).funcs.length cx) (canM M).funcs) (h4 : Below wr.heap.size wr w3)
    {v0 v1 v2 v3 : Value} {wf : World} (hwf : wf = (((w3.setCell ⟨w.heap.size + 1, 0, none⟩ v0).setCell ⟨w.heap.size + 1, 1, none⟩ v1).setCell ⟨w.heap.size + 1, 2, none⟩ v2).setCell ⟨w.heap.size + 1, 3, none⟩ v3) :
    MkPost w (canM M) (.returned (.agg #[.slice Al (canM M).strs.length cl, .slice A2 (canM M).globs.length c2, .slice Ax (canM M).funcs.length cx, .slice Ae ne ce])) wf := by
  have hk : ∀ k, k ≠ w.heap.size + 1 → wf.heap[k]? = w3.heap[k]? := fun k hk => by rw [hwf]; exact set4_far _ _ _ _ hk
  have ho : ∀ {base e m c : Nat} {A : Option Addr} {xs : List Value}, w.heap.size + 1 + 1 + 1 ≤ base → w3.ownsRow base e 1 (.slice A m c) m xs → wf.ownsRow w.heap.size e 1 (.slice A m c) m xs := fun hbs h => own_base (own_blocks h (fun k hk' => hk k (by have := own_ge h k hk'; omega))) (by omega)
  subst hne
  refine ⟨Al, cl, A2, c2, Ax, cx, Ae, ce, rfl, ho hs h1, ho hs h2, ?_, ho hB3 (own_old hEn h4), ?_⟩
  · exact FnRow.base (h3.kept (fun k hk' => hk k (by have := (h3.blk k hk').1; omega)) (fun k hx _ => hk k (by have := hx.2; omega)) (fun k hx _ => by have := hx.2; omega)) (by omega)
  · rw [hwf]
    exact set4 (hb.trans (h4.mono (by omega))) (by omega) _ _ _ _
end Go.Proofs.Ytpdebnecfknohaa
