/-
  RuleArity: the module that it makes; its walk.
-/
import Derived.Test.YtpdebnecfknohaaTad
import Derived.Test.YtpdebnecfknohaaSc
namespace Go.Proofs.Ytpdebnecfknohaa
open Go.RowKit
set_option linter.unusedVariables false
set_option linter.unusedSimpArgs false
set_option maxRecDepth 20000

theorem Blk.rd {w : World} {g t : Nat} {cs : Array Value} (h : Blk w g t cs) (n size : Nat) (xs : List Value) (hx : cs = xs.toArray) (hn : xs.length = n * size) : RdS (fun _ => True) w (some ⟨g, 0, none⟩) n size xs :=
  ⟨hn, fun _ => ⟨g, 0, rfl, trivial, fun j u hj => by rw [Nat.zero_add, h.cell, hx]; simpa using hj⟩⟩
/-- A body of one statement, in a block of its own. -/
theorem body_blk {w : World} {g : Nat} {k a1 a2 b1 b2 : Int} {va : Value} {A : Option Addr} {c : Nat} {args : List (Int × Int)} {sub : Bd} (h : Blk w g 50 #[.int .u8 k, .int .u8 a1, .int .i64 a2, .int .u8 b1, .int .i64 b2, va, .slice A sub.len c]) (ha : ArgsS (fun _ => True) w va args) (hs : BodyS (fun _ => True) w A sub) :
    BodyS (fun _ => True) w (some ⟨g, 0, none⟩) (.cons k a1 a2 b1 b2 args sub .nil) :=
  fun _ => ⟨g, 0, rfl, trivial, ⟨h.cell 0, h.cell 1, h.cell 2, h.cell 3, h.cell 4⟩, ⟨va, h.cell 5, ha⟩, ⟨A, c, h.cell 6, hs⟩, trivial⟩
/-- A row of one function, in a block of its own. -/
theorem fns_blk {w : World} {g : Nat} {f : Fn} {Al At Ab : Option Addr} {cl ct cb : Nat} (h : Blk w g 40 #[.int .i64 f.name, .int .i64 f.params, .slice Al f.locals.length cl, .slice At f.sites.length ct, .slice Ab f.body.len cb])
    (h1 : RdS (fun _ => True) w Al f.locals.length 1 (intV f.locals)) (h2 : RdS (fun _ => True) w At f.sites.length 1 (intV f.sites)) (h3 : BodyS (fun _ => True) w Ab f.body) : FnsS (fun _ => True) w (some ⟨g, 0, none⟩) [f] :=
  fun _ => ⟨g, 0, rfl, trivial, fun i hi => by
    have h0 : i = 0 := by simpa using hi
    subst h0
    exact ⟨_, ⟨Al, cl, At, ct, Ab, cb, rfl, h1, h2, h3⟩, fun j u hj => by simp only [Nat.zero_mul, Nat.zero_add]; rw [h.cell]; simpa using hj⟩⟩
theorem ArgsS.any {S : Nat → Prop} {w : World} {v : Value} {l : List (Int × Int)} (h : ArgsS S w v l) : ArgsS (fun _ => True) w v l := h.kept (fun _ _ _ => rfl) (fun _ _ _ => trivial)

def arA (n : Nat) : List (Int × Int) := (List.range n).map fun i => (1, ((i % 7 : Nat) : Int))
theorem arA_len (n : Nat) : (arA n).length = n := by simp [arA]
theorem arA_succ (n : Nat) : arA (n + 1) = arA n ++ [(1, ((n % 7 : Nat) : Int))] := by simp [arA, List.range_succ]
def arF (p n : Nat) (d : Bool) : Fn := ⟨0, (p : Int), [1, 2, 3, 4, 5, 6, 7], [], .cons 5 0 0 (if d then 3 else 1) 0 (arA n) .nil .nil⟩
def arM (p n : Nat) (d : Bool) : Md := ⟨[[102], [108, 48], [108, 49], [108, 50], [108, 51], [108, 52], [108, 53], [108, 54]], [], [arF p n d], []⟩
def arW (p n : Nat) (d : Bool) : Int := if 6 < n ∨ (d = true ∧ n ≠ p) then 9 else 0
theorem ar_all : ∀ p, p < 7 → ∀ n, n < 9 → ∀ d : Bool, toldF (checkF (arM p n d)) (arW p n d) 0 0 = true := by decide +kernel
theorem ar_wf (p n : Nat) (d : Bool) (hn : n < 9) : (arM p n d).Wf := by
  have hb : (arF p n d).body.size ≤ 1000000 ∧ (arF p n d).body.wide ≤ 1000000 := by
    simp [arF, Bd.size, Bd.wide, arA_len]
    try omega
  refine ⟨by simp [arM], ⟨by simp [arM], by intro x hx; simp [arM] at hx⟩, ⟨by simp [arM], by intro x hx; simp [arM] at hx⟩, by simp [arM], ?_, ?_⟩
  · intro f hf
    have : f = arF p n d := by simpa [arM] using hf
    subst this
    refine ⟨?_, ?_, ?_, ?_, hb.1, hb.2⟩
    · intro x hx; simp [arF] at hx; omega
    · intro x hx; simp [arF] at hx
    · simp [arF]
    · simp [arF]
  · intro x hx; simp [arM, arF, namesL] at hx; omega

abbrev arS : Array Value := #[.string ⟨#[102]⟩, .string ⟨#[108, 48]⟩, .string ⟨#[108, 49]⟩, .string ⟨#[108, 50]⟩, .string ⟨#[108, 51]⟩, .string ⟨#[108, 52]⟩, .string ⟨#[108, 53]⟩, .string ⟨#[108, 54]⟩]
/-- What the loop over the arguments keeps. -/
structure ArL (B g : Nat) (k : Int) (w : World) (va : Value) (l : List (Int × Int)) (wr : World) : Prop where
  own : wr.ownsRow B 46 2 va l.length (flatA l)
  bs : Blk wr (g + 1 + 1) 50 #[.int .u8 5, .int .u8 0, .int .i64 0, .int .u8 k, .int .i64 0, va, .slice none 0 0]
  bm : Blk wr (g + 1) 30 #[.slice (some ⟨g, 0, none⟩) 8 8, .slice none 0 0, .slice none 0 0, .slice none 0 0]
  bt : Blk wr g 9 arS
  bel : Below B w wr
  le : B ≤ g ∧ B ≤ w.heap.size
theorem ArL.step {B g : Nat} {k : Int} {w : World} {va : Value} {l : List (Int × Int)} {wr : World} (h : ArL B g k w va l wr) (hl : l.length ≤ 1000) (x1 x2 : Int) (n : Nat) (hn : l.length = n) :
    ∃ A5 c5 w5, (Builtin.append_ #[48, 48] 48 #[va, .slice (some ⟨wr.heap.size, 0, none⟩) 1 1]).run Try.prog (wr.alloc (.cells #[.int .u8 x1, .int .i64 x2] 46)) = .ok (.slice A5 (n + 1) c5) w5 ∧ w5.cell? ⟨g + 1 + 1, 5, none⟩ = some va ∧ w5.frozen? ⟨g + 1 + 1, 5, none⟩ = false ∧ g + 1 + 1 < w5.heap.size ∧ Hid (ArL B g k w (.slice A5 (n + 1) c5) (l ++ [(x1, x2)]) (w5.setCell ⟨g + 1 + 1, 5, none⟩ (.slice A5 (n + 1) c5))) := by
  subst hn
  have hsz := h.bel.size
  have hBr : B ≤ wr.heap.size := Nat.le_trans h.le.2 hsz
  obtain ⟨v5, w5, hr5, hO5, hg5⟩ := push2 B va l x1 x2 wr h.own hl hBr
  obtain ⟨q5, c5, rfl⟩ : ∃ q5 c5, v5 = .slice (some ⟨q5, 0, none⟩) (l.length + 1) c5 := by
    rcases hO5.2 with ⟨_, h1⟩ | ⟨k, cap, cur, hv, _⟩
    · omega
    · exact ⟨k, cap, hv⟩
  have key : ∀ (q t : Nat) (cs : Array Value), t ≠ 46 → Blk wr q t cs → Blk w5 q t cs := fun q t cs ht hB =>
    (hB.alloc _).grown hg5 (own_ne h.own hB (fun e => ht e.symm))
  have bs5 := key _ _ _ (by decide) h.bs
  have hb5 : Below B w w5 := (h.bel.alloc hBr _).grown hg5 (by simp; omega) (fun q hq => (h.own.lt q hq).1)
  refine ⟨_, _, w5, hr5, bs5.cell 5, bs5.frozen 5, bs5.lt, ?_, ?_, ?_, ?_, ?_, h.le⟩
  · rw [show (l ++ [(x1, x2)]).length = l.length + 1 from by simp]
    refine ⟨hO5.1, ?_⟩
    rcases hO5.2 with h1 | ⟨k, cap, cur, hv, h2, hk, rest⟩
    · exact .inl h1
    · have hne : k ≠ g + 1 + 1 := by
        rintro rfl
        have := bs5
        unfold Blk at this
        rw [hk] at this
        injection this with this
        injection this with _ ht
        exact absurd ht (by decide)
      exact .inr ⟨k, cap, cur, hv, h2, (Below.heap_setCell w5 ⟨g + 1 + 1, 5, none⟩ _ k hne).trans hk, rest⟩
  · exact bs5.set_ 5 _
  · exact (key _ _ _ (by decide) h.bm).far (by show _ ≠ g + 1 + 1; omega) _
  · exact (key _ _ _ (by decide) h.bt).far (by show _ ≠ g + 1 + 1; omega) _
  · exact hb5.setCell (p := ⟨g + 1 + 1, 5, none⟩) (by have := h.le.1; show _ ≤ g + 1 + 1; omega) _
theorem ar_end {B g : Nat} {k : Int} {w wr : World} {A : Option Addr} {c n : Nat} {l : List (Int × Int)} (h : ArL B g k w (.slice A n c) l wr) (p : Nat) (d : Bool) (i : Nat) (hn9 : i < 9) (hni : n = i) (w4 : World)
    (hw4 : w4 = (((wr.alloc (.cells #[.int .i64 1, .int .i64 2, .int .i64 3, .int .i64 4, .int .i64 5, .int .i64 6, .int .i64 7] 3)).alloc (.cells #[.int .u8 5, .int .u8 0, .int .i64 0, .int .u8 k, .int .i64 0, .slice A n c, .slice none 0 0] 50)).alloc (.cells #[.int .i64 0, .int .i64 (p : Int), .slice (some ⟨wr.heap.size, 0, none⟩) 7 7, .slice none 0 0, .slice (some ⟨wr.heap.size + 1, 0, none⟩) 1 1] 40)).setCell ⟨g + 1, 2, none⟩ (.slice (some ⟨wr.heap.size + 1 + 1, 0, none⟩) 1 1))
    (hl : l = arA i := by rfl) (hk : k = if d then 3 else 1 := by rfl) : Below B w w4 ∧ MdR w4 (some ⟨g, 0, none⟩) none (some ⟨wr.heap.size + 1 + 1, 0, none⟩) none (arM p i d) := by
  subst hni
  subst hl
  have hBr : B ≤ wr.heap.size := Nat.le_trans h.le.2 h.bel.size
  have zs := h.bs.lt
  have zm := h.bm.lt
  have h0 := ((h.bt.alloc (.cells #[.int .i64 1, .int .i64 2, .int .i64 3, .int .i64 4, .int .i64 5, .int .i64 6, .int .i64 7] 3)).alloc (.cells #[.int .u8 5, .int .u8 0, .int .i64 0, .int .u8 k, .int .i64 0, .slice A n c, .slice none 0 0] 50)).alloc (.cells #[.int .i64 0, .int .i64 (p : Int), .slice (some ⟨wr.heap.size, 0, none⟩) 7 7, .slice none 0 0, .slice (some ⟨wr.heap.size + 1, 0, none⟩) 1 1] 40)
  have h0' : Blk w4 g 9 arS := by rw [hw4]; exact h0.far (by show g ≠ g + 1; omega) _
  have hA : Blk w4 wr.heap.size 3 #[.int .i64 1, .int .i64 2, .int .i64 3, .int .i64 4, .int .i64 5, .int .i64 6, .int .i64 7] := by
    rw [hw4]; exact (((Blk.new wr 3 _).alloc _).alloc _).far (by show _ ≠ g + 1; omega) _
  have hB : Blk w4 (wr.heap.size + 1) 50 #[.int .u8 5, .int .u8 0, .int .i64 0, .int .u8 k, .int .i64 0, .slice A n c, .slice none 0 0] := by
    rw [hw4]; exact ((Blk.new' _ 50 _ _ (by simp)).alloc _).far (by show _ ≠ g + 1; omega) _
  have hC : Blk w4 (wr.heap.size + 1 + 1) 40 #[.int .i64 0, .int .i64 (p : Int), .slice (some ⟨wr.heap.size, 0, none⟩) 7 7, .slice none 0 0, .slice (some ⟨wr.heap.size + 1, 0, none⟩) 1 1] := by
    rw [hw4]; exact (Blk.new' _ 40 _ _ (by simp)).far (by show _ ≠ g + 1; omega) _
  have hO : w4.ownsRow B 46 2 (.slice A n c) n (flatA (arA n)) := by
    have ho := h.own
    rw [arA_len] at ho
    rw [hw4]
    refine own_blocks (((ho.alloc _).alloc _).alloc _) (fun q hq => Below.heap_setCell _ _ _ _ ?_)
    rintro rfl
    exact own_ne ho h.bm (by decide) hq
  refine ⟨?_, ?_, ?_, ?_, ?_⟩
  · rw [hw4]
    exact (((h.bel.alloc hBr _).alloc (by simp; omega) _).alloc (by simp; omega) _).setCell (p := ⟨g + 1, 2, none⟩) (by have := h.le.1; show _ ≤ g + 1; omega) _
  · exact h0'.rd 8 1 _ rfl rfl
  · exact RdS.none_ _ _ _
  · refine fns_blk (f := arF p n d) (by rw [show (arF p n d).body.len = 1 from rfl]; exact hC) (hA.rd 7 1 _ rfl rfl) (RdS.none_ _ _ _) ?_
    have ha := (own_args (arA_len n) hO).any
    rw [hk] at hB
    exact body_blk (c := 0) hB ha (fun h => by simp [Bd.len] at h)
  · exact RdS.none_ _ _ _
set_option maxHeartbeats 8000000 in
theorem arity_walk (a0 a1 : Int) (a2 : Bool) (h0 : 0 ≤ a0) (h1 : 0 ≤ a1) (w : World) :
    Calls Try.prog 9 #[.int .u8 a0, .int .u8 a1, .bool a2] w fun e w' => e = .returned (.bool true) ∧ Below w.heap.size w w' := by
  obtain ⟨p, hp, hp7⟩ : ∃ p : Nat, a0 % 7 = (p : Int) ∧ p < 7 := ⟨(a0 % 7).toNat, by omega, by omega⟩
  obtain ⟨n, hn, hn9⟩ : ∃ n : Nat, a1 % 9 = (n : Int) ∧ n < 9 := ⟨(a1 % 9).toNat, by omega, by omega⟩
  have HAll := Lib.hid (ar_all p hp7 n hn9 a2)
  have hCh := fun wx (Af : Option Addr) (g : Nat) (hx : MdR wx (some ⟨g, 0, none⟩) none Af none (arM p n a2)) => check_any (arM p n a2) (some ⟨g, 0, none⟩) none Af none 8 0 1 0 wx (ar_wf p n a2 hn9) hx
  have HCh : Hid (∀ wx (Af : Option Addr) (g : Nat), MdR wx (some ⟨g, 0, none⟩) none Af none (arM p n a2) → Calls Try.prog 18 #[.agg #[.slice (some ⟨g, 0, none⟩) 8 8, .slice none 0 0, .slice Af 1 1, .slice none 0 0]] wx (FaB wx (checkF (arM p n a2)))) := hCh
  clear hCh
  go_enter Try.func9, Try.ntmps9
  go_wp2_with fail
  refine (awake6_any _).mono ?_
  rintro e w1 ⟨rfl, hb1⟩
  have HB1 := Lib.hid hb1
  have z1 := hb1.size
  clear hb1
  obtain ⟨g, hg⟩ : ∃ g, g = w1.heap.size := ⟨_, rfl⟩
  cases a2
  · obtain ⟨w2, hw2⟩ : ∃ w2, w2 = ((w1.alloc (.cells arS 9)).alloc (.cells #[.slice (some ⟨w1.heap.size, 0, none⟩) 8 8, .slice none 0 0, .slice none 0 0, .slice none 0 0] 30)).alloc (.cells #[.int .u8 5, .int .u8 0, .int .i64 0, .int .u8 1, .int .i64 0, .slice none 0 0, .slice none 0 0] 50) := ⟨_, rfl⟩
    have HL : Hid (ArL w.heap.size w1.heap.size 1 w (.slice none 0 0) (arA 0) w2) := by
      rw [hw2]
      refine ⟨World.ownsRow_nil _ _ _ _, ?_, ?_, ?_, ?_, z1, Nat.le_refl _⟩
      · exact Blk.new' _ 50 _ _ (by simp)
      · exact (Blk.new' _ 30 _ _ (by simp)).alloc _
      · exact ((Blk.new' _ 9 _ _ (by simp)).alloc _).alloc _
      · exact ((HB1.out.alloc z1 _).alloc (by simp; omega) _).alloc (by simp; omega) _
    go_upto_region 9 with (fail)
    rw [← hw2]
    rw [← hg] at HL ⊢
    clear hw2 hg z1 HB1
    simp only [hp, hn]
    clear hp hn
    go_wp2_with fail
    go_loopw [11] (fun s11 wr => ∃ (i : Nat) (A : Option Addr) (c : Nat), i ≤ n ∧ s11 = .int .i64 (i : Int) ∧ Hid (ArL w.heap.size g 1 w (.slice A i c) (arA i) wr)) (fun s11 _ => n - (intOf s11).toNat)
    case atStart => exact ⟨0, none, 0, Nat.zero_le _, rfl, HL⟩
    case round =>
      obtain ⟨i, A, c, hi, rfl, hL⟩ := hrel
      by_cases hlt : i < n
      · have hli : (i : Int) < (n : Int) := by omega
        obtain ⟨A5, c5, w5, hr5, hc5, hf5, hz5, hL5⟩ := hL.out.step (by rw [arA_len]; omega) 1 ((i % 7 : Nat) : Int) i (arA_len i)
        have hc0 : wr.cell? ⟨g + 1 + 1, 5, none⟩ = some (.slice A i c) := hL.out.bs.cell 5
        have hz0 := hL.out.bs.lt
        have HL5 : Hid (ArL w.heap.size g 1 w (.slice A5 (i + 1) c5) (arA (i + 1)) (w5.setCell ⟨g + 1 + 1, 5, none⟩ (.slice A5 (i + 1) c5))) := by rw [arA_succ]; exact hL5
        obtain ⟨m, hm⟩ : ∃ m : Nat, m = i % 7 := ⟨_, rfl⟩
        rw [← hm] at hr5
        have hm7 : (i : Int) % 7 = (m : Int) := by omega
        clear hm hL5 hL HAll HCh HL
        go_wp2_with (at_builtin; refine Lib.wpList_append_run _ rfl _ _ 48 48 rfl _ _ rfl rfl _ _ hr5 ?_)
        go_roundw
        case rel => exact ⟨i + 1, A5, c5, by omega, by go_num, HL5⟩
        case measure => simp [intOf]; omega
      · obtain rfl : i = n := by omega
        clear hlt HL
        obtain ⟨m0, m1, m2, m3⟩ := hL.out.bm.c4
        obtain ⟨s0, s1, s2, s3, s4, s5, s6⟩ := hL.out.bs.c7
        have zs : g + 1 + 1 < wr.heap.size := hL.out.bs.lt
        have zm : g + 1 < wr.heap.size := hL.out.bm.lt
        have fm := fun o1 o2 o3 => (((hL.out.bm.alloc o1).alloc o2).alloc o3).frozen 2
        have cm : ∀ o1 o2 o3, (((wr.alloc o1).alloc o2).alloc o3).cell? ⟨g + 1, 2, none⟩ = some (.slice none 0 0) := fun o1 o2 o3 => (((hL.out.bm.alloc o1).alloc o2).alloc o3).cell 2
        obtain ⟨w4, hw4⟩ : ∃ w4, w4 = (((wr.alloc (.cells #[.int .i64 1, .int .i64 2, .int .i64 3, .int .i64 4, .int .i64 5, .int .i64 6, .int .i64 7] 3)).alloc (.cells #[.int .u8 5, .int .u8 0, .int .i64 0, .int .u8 1, .int .i64 0, .slice A i c, .slice none 0 0] 50)).alloc (.cells #[.int .i64 0, .int .i64 (p : Int), .slice (some ⟨wr.heap.size, 0, none⟩) 7 7, .slice none 0 0, .slice (some ⟨wr.heap.size + 1, 0, none⟩) 1 1] 40)).setCell ⟨g + 1, 2, none⟩ (.slice (some ⟨wr.heap.size + 1 + 1, 0, none⟩) 1 1) := ⟨_, rfl⟩
        obtain ⟨hB4, hM4⟩ := ar_end hL.out p false i hn9 rfl _ hw4
        have HB4 := Lib.hid hB4
        have HM4 := Lib.hid hM4
        obtain ⟨K4, hK4⟩ : ∃ K, K = wr.heap.size + 1 + 1 := ⟨_, rfl⟩
        have C4 : Hid (Blk w4 (g + 1) 30 #[.slice (some ⟨g, 0, none⟩) 8 8, .slice none 0 0, .slice (some ⟨K4, 0, none⟩) 1 1, .slice none 0 0]) := by
          show Blk _ _ _ _
          rw [hw4, hK4]; exact ((((hL.out.bm.alloc _).alloc _).alloc _).set_ 2 _)
        go_upto_region 14 with (fail)
        rw [← hw4]
        rw [← hK4] at HM4
        clear hw4 hB4 hM4 fm cm m0 m1 m2 m3 s0 s1 s2 s3 s4 s5 s6 zs zm hL hK4
        have HC := Lib.hid (HCh.out w4 _ g HM4.out)
        generalize checkF (arM p i false) = v at HAll HC
        clear HCh HM4
        obtain ⟨m0, m1, m2, m3⟩ := C4.out.c4
        have zm : g + 1 < w4.heap.size := C4.out.lt
        have hall : ∀ k : Int, arW p i false = k → ∀ wx, Calls Try.prog 17 #[faultV v.1 v.2.1 v.2.2, .int .i64 k, .int .i64 0, .int .i64 0] wx (BlB wx true) := fun k hk wx => by
          have := told_any v.1 v.2.1 v.2.2 k 0 0 wx
          rw [show toldF (v.1, v.2.1, v.2.2) k 0 0 = true from by rw [← hk]; exact HAll.out] at this
          exact this
        by_cases h6 : 6 < i
        · have h6i : (6 : Int) < (i : Int) := by omega
          have HT := Lib.hid (hall 9 (by simp [arW, h6]))
          clear hall HAll
          go_wp2_with fail
          refine HC.out.mono ?_
          rintro e w5 ⟨rfl, hb5⟩
          have HB5 := Lib.hid (HB4.out.trans (hb5.mono HB4.out.size))
          clear hb5 m0 m1 m2 m3 zm HC C4
          dsimp only
          go_wp2_with fail
          refine (HT.out _).mono ?_
          rintro e w6 ⟨rfl, hb6⟩
          go_wp2
          go_ret
          exact ⟨rfl, HB5.out.trans (hb6.mono HB5.out.size)⟩
        · have h6i : ¬ (6 : Int) < (i : Int) := by omega
          have HT := Lib.hid (hall 0 (by simp [arW, h6]))
          clear hall HAll
          go_wp2_with fail
          refine HC.out.mono ?_
          rintro e w5 ⟨rfl, hb5⟩
          have HB5 := Lib.hid (HB4.out.trans (hb5.mono HB4.out.size))
          clear hb5 m0 m1 m2 m3 zm HC C4
          dsimp only
          go_wp2_with fail
          refine (HT.out _).mono ?_
          rintro e w6 ⟨rfl, hb6⟩
          go_wp2
          go_ret
          exact ⟨rfl, HB5.out.trans (hb6.mono HB5.out.size)⟩
  · obtain ⟨w2, hw2⟩ : ∃ w2, w2 = ((w1.alloc (.cells arS 9)).alloc (.cells #[.slice (some ⟨w1.heap.size, 0, none⟩) 8 8, .slice none 0 0, .slice none 0 0, .slice none 0 0] 30)).alloc (.cells #[.int .u8 5, .int .u8 0, .int .i64 0, .int .u8 3, .int .i64 0, .slice none 0 0, .slice none 0 0] 50) := ⟨_, rfl⟩
    have HL : Hid (ArL w.heap.size w1.heap.size 3 w (.slice none 0 0) (arA 0) w2) := by
      rw [hw2]
      refine ⟨World.ownsRow_nil _ _ _ _, ?_, ?_, ?_, ?_, z1, Nat.le_refl _⟩
      · exact Blk.new' _ 50 _ _ (by simp)
      · exact (Blk.new' _ 30 _ _ (by simp)).alloc _
      · exact ((Blk.new' _ 9 _ _ (by simp)).alloc _).alloc _
      · exact ((HB1.out.alloc z1 _).alloc (by simp; omega) _).alloc (by simp; omega) _
    go_upto_region 9 with (fail)
    rw [← hw2]
    rw [← hg] at HL ⊢
    clear hw2 hg z1 HB1
    simp only [hp, hn]
    clear hp hn
    go_wp2_with fail
    go_loopw [11] (fun s11 wr => ∃ (i : Nat) (A : Option Addr) (c : Nat), i ≤ n ∧ s11 = .int .i64 (i : Int) ∧ Hid (ArL w.heap.size g 3 w (.slice A i c) (arA i) wr)) (fun s11 _ => n - (intOf s11).toNat)
    case atStart => exact ⟨0, none, 0, Nat.zero_le _, rfl, HL⟩
    case round =>
      obtain ⟨i, A, c, hi, rfl, hL⟩ := hrel
      by_cases hlt : i < n
      · have hli : (i : Int) < (n : Int) := by omega
        obtain ⟨A5, c5, w5, hr5, hc5, hf5, hz5, hL5⟩ := hL.out.step (by rw [arA_len]; omega) 1 ((i % 7 : Nat) : Int) i (arA_len i)
        have hc0 : wr.cell? ⟨g + 1 + 1, 5, none⟩ = some (.slice A i c) := hL.out.bs.cell 5
        have hz0 := hL.out.bs.lt
        have HL5 : Hid (ArL w.heap.size g 3 w (.slice A5 (i + 1) c5) (arA (i + 1)) (w5.setCell ⟨g + 1 + 1, 5, none⟩ (.slice A5 (i + 1) c5))) := by rw [arA_succ]; exact hL5
        obtain ⟨m, hm⟩ : ∃ m : Nat, m = i % 7 := ⟨_, rfl⟩
        rw [← hm] at hr5
        have hm7 : (i : Int) % 7 = (m : Int) := by omega
        clear hm hL5 hL HAll HCh HL
        go_wp2_with (at_builtin; refine Lib.wpList_append_run _ rfl _ _ 48 48 rfl _ _ rfl rfl _ _ hr5 ?_)
        go_roundw
        case rel => exact ⟨i + 1, A5, c5, by omega, by go_num, HL5⟩
        case measure => simp [intOf]; omega
      · obtain rfl : i = n := by omega
        clear hlt HL
        obtain ⟨m0, m1, m2, m3⟩ := hL.out.bm.c4
        obtain ⟨s0, s1, s2, s3, s4, s5, s6⟩ := hL.out.bs.c7
        have zs : g + 1 + 1 < wr.heap.size := hL.out.bs.lt
        have zm : g + 1 < wr.heap.size := hL.out.bm.lt
        have fm := fun o1 o2 o3 => (((hL.out.bm.alloc o1).alloc o2).alloc o3).frozen 2
        have cm : ∀ o1 o2 o3, (((wr.alloc o1).alloc o2).alloc o3).cell? ⟨g + 1, 2, none⟩ = some (.slice none 0 0) := fun o1 o2 o3 => (((hL.out.bm.alloc o1).alloc o2).alloc o3).cell 2
        obtain ⟨w4, hw4⟩ : ∃ w4, w4 = (((wr.alloc (.cells #[.int .i64 1, .int .i64 2, .int .i64 3, .int .i64 4, .int .i64 5, .int .i64 6, .int .i64 7] 3)).alloc (.cells #[.int .u8 5, .int .u8 0, .int .i64 0, .int .u8 3, .int .i64 0, .slice A i c, .slice none 0 0] 50)).alloc (.cells #[.int .i64 0, .int .i64 (p : Int), .slice (some ⟨wr.heap.size, 0, none⟩) 7 7, .slice none 0 0, .slice (some ⟨wr.heap.size + 1, 0, none⟩) 1 1] 40)).setCell ⟨g + 1, 2, none⟩ (.slice (some ⟨wr.heap.size + 1 + 1, 0, none⟩) 1 1) := ⟨_, rfl⟩
        obtain ⟨hB4, hM4⟩ := ar_end hL.out p true i hn9 rfl _ hw4
        have HB4 := Lib.hid hB4
        have HM4 := Lib.hid hM4
        obtain ⟨K4, hK4⟩ : ∃ K, K = wr.heap.size + 1 + 1 := ⟨_, rfl⟩
        have C4 : Hid (Blk w4 (g + 1) 30 #[.slice (some ⟨g, 0, none⟩) 8 8, .slice none 0 0, .slice (some ⟨K4, 0, none⟩) 1 1, .slice none 0 0]) := by
          show Blk _ _ _ _
          rw [hw4, hK4]; exact ((((hL.out.bm.alloc _).alloc _).alloc _).set_ 2 _)
        go_upto_region 14 with (fail)
        rw [← hw4]
        rw [← hK4] at HM4
        clear hw4 hB4 hM4 fm cm m0 m1 m2 m3 s0 s1 s2 s3 s4 s5 s6 zs zm hL hK4
        have HC := Lib.hid (HCh.out w4 _ g HM4.out)
        generalize checkF (arM p i true) = v at HAll HC
        clear HCh HM4
        obtain ⟨m0, m1, m2, m3⟩ := C4.out.c4
        have zm : g + 1 < w4.heap.size := C4.out.lt
        have hall : ∀ k : Int, arW p i true = k → ∀ wx, Calls Try.prog 17 #[faultV v.1 v.2.1 v.2.2, .int .i64 k, .int .i64 0, .int .i64 0] wx (BlB wx true) := fun k hk wx => by
          have := told_any v.1 v.2.1 v.2.2 k 0 0 wx
          rw [show toldF (v.1, v.2.1, v.2.2) k 0 0 = true from by rw [← hk]; exact HAll.out] at this
          exact this
        by_cases h6 : 6 < i
        · have h6i : (6 : Int) < (i : Int) := by omega
          have HT := Lib.hid (hall 9 (by simp [arW, h6]))
          clear hall HAll
          go_wp2_with fail
          refine HC.out.mono ?_
          rintro e w5 ⟨rfl, hb5⟩
          have HB5 := Lib.hid (HB4.out.trans (hb5.mono HB4.out.size))
          clear hb5 m0 m1 m2 m3 zm HC C4
          dsimp only
          go_wp2_with fail
          refine (HT.out _).mono ?_
          rintro e w6 ⟨rfl, hb6⟩
          go_wp2
          go_ret
          exact ⟨rfl, HB5.out.trans (hb6.mono HB5.out.size)⟩
        · have h6i : ¬ (6 : Int) < (i : Int) := by omega
          by_cases hip : i = p
          · have hipi : (i : Int) = (p : Int) := by omega
            subst hip
            have HT := Lib.hid (hall 0 (by simp [arW, h6]))
            clear hall HAll
            go_wp2_with fail
            refine HC.out.mono ?_
            rintro e w5 ⟨rfl, hb5⟩
            have HB5 := Lib.hid (HB4.out.trans (hb5.mono HB4.out.size))
            clear hb5 m0 m1 m2 m3 zm HC C4
            dsimp only
            go_wp2_with fail
            refine (HT.out _).mono ?_
            rintro e w6 ⟨rfl, hb6⟩
            go_wp2
            go_ret
            exact ⟨rfl, HB5.out.trans (hb6.mono HB5.out.size)⟩
          · have hipi : ¬ (i : Int) = (p : Int) := by omega
            have HT := Lib.hid (hall 9 (by simp [arW, h6, hip]))
            clear hall HAll
            go_wp2_with fail
            refine HC.out.mono ?_
            rintro e w5 ⟨rfl, hb5⟩
            have HB5 := Lib.hid (HB4.out.trans (hb5.mono HB4.out.size))
            clear hb5 m0 m1 m2 m3 zm HC C4
            dsimp only
            go_wp2_with fail
            refine (HT.out _).mono ?_
            rintro e w6 ⟨rfl, hb6⟩
            go_wp2
            go_ret
            exact ⟨rfl, HB5.out.trans (hb6.mono HB5.out.size)⟩
end Go.Proofs.Ytpdebnecfknohaa
