/-
  Parts: Xw Ya Ob Yb Yc.
-/
import Derived.Test.YtpdebnecfknohaaPc00
import Derived.Test.YtpdebnecfknohaaPc01
import Derived.Test.YtpdebnecfknohaaPc02
import Derived.Test.YtpdebnecfknohaaPc03
import Derived.Test.YtpdebnecfknohaaPc04
import Derived.Test.YtpdebnecfknohaaPc05
import Derived.Test.YtpdebnecfknohaaPc06
import Derived.Test.YtpdebnecfknohaaPc07
import Derived.Test.YtpdebnecfknohaaPc08
import Derived.Test.YtpdebnecfknohaaPc09
import Derived.Test.YtpdebnecfknohaaPc10
import Derived.Test.YtpdebnecfknohaaPc11
import Derived.Test.YtpdebnecfknohaaPc12
import Derived.Test.YtpdebnecfknohaaPc13
import Derived.Test.YtpdebnecfknohaaPc14
import Derived.Test.YtpdebnecfknohaaPc15
import Derived.Test.YtpdebnecfknohaaRows
import Derived.Deep.RegionLaw
namespace Go.Proofs.Ytpdebnecfknohaa
open Go.RowKit
set_option linter.unusedVariables false
set_option linter.unusedSimpArgs false
set_option maxRecDepth 20000
theorem numsF_wf2 (l fr : List (List UInt8)) (x : List Int) (hl : l.length ≤ 1000000) : WfI (numsF l fr x) := fun n hn => by
  simp only [numsF, List.mem_map] at hn
  obtain ⟨a, _, rfl⟩ := hn
  have := numF_bound l (fr.getD a.toNat []) 0
  omega
theorem entsF_wf2 (E : Nat) : ∀ n, n ≤ 4 → WfI (entsF E n) := by
  intro n hn
  induction n with
  | zero => intro x hx; simp [entsF] at hx
  | succ n ih =>
    intro x hx
    rw [entsF] at hx
    split at hx
    · rcases List.mem_append.1 hx with h | h
      · exact ih (by omega) x h
      · simp at h; omega
    · exact ih (by omega) x hx
theorem made_wf2 (G F E : Nat) (acts : List Ac) : (canM (mkM (gnames (1 + G / 4 % 3) (G % 4)) (ints (G % 4)) F E acts)).Wf := by
  have h := mk_made (gnames (1 + G / 4 % 3) (G % 4)) F E G acts (gnames_len _ _)
  have hs : (canl (mkM (gnames (1 + G / 4 % 3) (G % 4)) (ints (G % 4)) F E acts)).length ≤ 1000000 := h.fit.strs
  refine ⟨h.fit.strs, ⟨h.fit.globs, numsF_wf2 _ _ _ hs⟩, ⟨h.fit.ents, entsF_wf2 E _ (by omega)⟩, h.fit.funcs, fun f hf => ?_, fun n hn => ?_⟩
  · have h1 := h.fit.fns f hf
    have h2 := h.small.body f hf
    obtain ⟨f0, _, rfl⟩ := List.mem_map.1 hf
    exact ⟨numsF_wf2 _ _ _ hs, numsF_wf2 _ _ _ hs, h1.locals, h1.sites, by omega, by omega⟩
  · obtain ⟨f, hf, rfl⟩ := List.mem_map.1 hn
    have := h.nums f hf
    omega
/-- Of, of a module that breaks no rule of trees. -/
theorem of_ok (M : Md) (As Ag Af Ae : Option Addr) (cs cg cf ce : Nat) (w : World) (hW : M.Wf) (hFit : M.Fit) (hsz : ∀ f ∈ M.funcs, f.body.size ≤ 1000 ∧ f.body.wide ≤ 1000) (hT : treeF M = (0, -1, -1)) (h : MdR w As Ag Af Ae M) :
    Calls Try.prog 26 #[.agg #[.slice As M.strs.length cs, .slice Ag M.globs.length cg, .slice Af M.funcs.length cf, .slice Ae M.ents.length ce]] w (OfC w M) := by
  obtain ⟨h1, h2, _⟩ := tree_ok M hT
  exact of_can M As Ag Af Ae cs cg cf ce w hW hFit hsz hT h (by omega) (fun n hn => (h1 n hn).1) (fun n hn => by have := (h1 n hn).2; omega)
/-- Names that are others keep a module a module. -/
theorem ren_wf (F : Int → Int) (S' : List (List UInt8)) (M : Md) (hW : M.Wf) (hFit : M.Fit) (hS : S'.length ≤ 1000000) (hF : ∀ n ∈ usedI M.globs M.funcs M.funcs.length, -9223372036854775808 ≤ F n ∧ F n ≤ 9223372036854775807) : (renM F S' M).Wf ∧ (renM F S' M).Fit := by
  have hl : ∀ l : List Int, (∀ n ∈ l, n ∈ usedI M.globs M.funcs M.funcs.length) → WfI (l.map F) := fun l hl n hn => by
    obtain ⟨m, hm, rfl⟩ := List.mem_map.1 hn
    exact hF m (hl m hm)
  refine ⟨⟨hS, ⟨by simpa [renM] using hW.globs.1, hl _ (fun n h => used_glob h)⟩, hW.ents, by simpa [renM] using hW.funcs, fun f hf => ?_, fun n hn => ?_⟩, ⟨hS, by simpa [renM] using hFit.globs, by simpa [renM] using hFit.funcs, hFit.ents, fun f hf => ?_⟩⟩
  · obtain ⟨g, hg, rfl⟩ := List.mem_map.1 hf
    obtain ⟨_, _, w3, w4, w5, w6⟩ := hW.fns g hg
    exact ⟨hl _ (fun n h => used_fn hg (by simp [h])), hl _ (fun n h => used_fn hg (by simp [h])), by simpa [fnG] using w3, by simpa [fnG] using w4, w5, w6⟩
  · obtain ⟨f, hf, rfl⟩ := List.mem_map.1 hn
    obtain ⟨g, hg, rfl⟩ := List.mem_map.1 hf
    exact hF _ (used_fn hg (by simp))
  · obtain ⟨g, hg, rfl⟩ := List.mem_map.1 hf
    obtain ⟨f1, f2, f3, f4⟩ := hFit.fns g hg
    exact ⟨by simpa [fnG] using f1, by simpa [fnG] using f2, f3, f4⟩
theorem ren_size (F : Int → Int) (S' : List (List UInt8)) (M : Md) (h : ∀ f ∈ M.funcs, f.body.size ≤ 1000 ∧ f.body.wide ≤ 1000) : ∀ f ∈ (renM F S' M).funcs, f.body.size ≤ 1000 ∧ f.body.wide ≤ 1000 := fun f hf => by
  obtain ⟨g, hg, rfl⟩ := List.mem_map.1 hf
  exact h g hg
/-- All that is asked of a module that goes through Of. -/
structure Good (M : Md) : Prop where
  wf : M.Wf
  fit : M.Fit
  size : ∀ f ∈ M.funcs, f.body.size ≤ 1000 ∧ f.body.wide ≤ 1000
  tree : treeF M = (0, -1, -1)
theorem Good.names {M : Md} (h : Good M) : ∀ n ∈ usedI M.globs M.funcs M.funcs.length, 0 ≤ n ∧ n < (M.strs.length : Int) := fun n hn => ((tree_ok M h.tree).1 n hn).1
theorem Good.ren {M : Md} (h : Good M) (F : Int → Int) (S' : List (List UInt8)) (hS : S'.length ≤ 1000000) (hF : ∀ n ∈ usedI M.globs M.funcs M.funcs.length, 0 ≤ F n ∧ F n < (S'.length : Int)) (hs : SameN F S' M) : Good (renM F S' M) := by
  obtain ⟨h1, h2⟩ := ren_wf F S' M h.wf h.fit hS (fun n hn => by have := hF n hn; omega)
  exact ⟨h1, h2, ren_size F S' M h.size, by rw [tree_ren F S' M hs]; exact h.tree⟩
theorem Good.shuf {M : Md} (h : Good M) (tu : Nat) (more : List (List UInt8)) (hp : 0 < M.strs.length) (hl : M.strs.length ≤ 10000) (hm : more.length ≤ 1000) : Good (shufM M tu more) :=
  h.ren _ _ (by rw [List.length_append, rot_len]; omega) (fun n hn => by
    have := turn_range M.strs.length (tu % M.strs.length) more.length n (Nat.mod_lt _ hp)
    rw [List.length_append, rot_len]
    omega) (shuf_same M tu more hp h.names)
theorem Good.canl_le {M : Md} (h : Good M) : (canl M).length ≤ 3280 := by
  have h1 := us_len M.strs (usedI M.globs M.funcs M.funcs.length)
  rw [us_canl M h.names] at h1
  have := (tree_ok M h.tree).2.1
  omega
/-- Of, of such a module. -/
theorem Good.of {M : Md} (g : Good M) (As Ag Af Ae : Option Addr) (cs cg cf ce : Nat) (w : World) (h : MdR w As Ag Af Ae M) :
    Calls Try.prog 26 #[.agg #[.slice As M.strs.length cs, .slice Ag M.globs.length cg, .slice Af M.funcs.length cf, .slice Ae M.ents.length ce]] w (OfC w M) := of_ok M As Ag Af Ae cs cg cf ce w g.wf g.fit g.size g.tree h
theorem made_good (G F E : Nat) (acts : List Ac) : Good (canM (mkM (gnames (1 + G / 4 % 3) (G % 4)) (ints (G % 4)) F E acts)) :=
  ⟨made_wf2 G F E acts, (mk_made (gnames (1 + G / 4 % 3) (G % 4)) F E G acts (gnames_len _ _)).fit, (mk_made (gnames (1 + G / 4 % 3) (G % 4)) F E G acts (gnames_len _ _)).small.body, (made_ok G F E acts).1⟩
theorem made_self (G F E : Nat) (acts : List Ac) : canM (canM (mkM (gnames (1 + G / 4 % 3) (G % 4)) (ints (G % 4)) F E acts)) = canM (mkM (gnames (1 + G / 4 % 3) (G % 4)) (ints (G % 4)) F E acts) := can_self _ (made_ok G F E acts).2
def MdA2 : Md := ⟨[[98], [99], [97]], [2, 0], [], []⟩
theorem mdA_tree2 : treeF MdA2 = (0, -1, -1) := by decide
theorem risA2 : Rising [[97], [98]] := by unfold Rising; decide
theorem mdA_us2 : usS MdA2.strs (usedI MdA2.globs MdA2.funcs MdA2.funcs.length) = [[97], [98]] := by
  unfold usS
  have e : addsF [] ((usedI MdA2.globs MdA2.funcs MdA2.funcs.length).map (strF MdA2.strs)) = [[97], [98]] := by decide
  rw [e]
  exact rising_eq (srt_rising _ (by decide)) risA2 (fun x => srt_mem _ x)
theorem mdA_wf2 : MdA2.Wf := ⟨by decide, ⟨by decide, by intro n hn; simp [MdA2] at hn; omega⟩, ⟨by decide, by intro n hn; simp [MdA2] at hn⟩, by decide, by intro f hf; simp [MdA2] at hf, by intro n hn; simp [MdA2, namesL] at hn⟩
theorem ofA_any2 (g1 g2 : Nat) (w : World) (c0 : w.cell? ⟨g1, 0, none⟩ = some (.string { data := #[98] })) (c1 : w.cell? ⟨g1, 1, none⟩ = some (.string { data := #[99] })) (c2 : w.cell? ⟨g1, 2, none⟩ = some (.string { data := #[97] })) (d0 : w.cell? ⟨g2, 0, none⟩ = some (.int .i64 2)) (d1 : w.cell? ⟨g2, 1, none⟩ = some (.int .i64 0)) :
    Calls Try.prog 26 #[.agg #[.slice (some ⟨g1, 0, none⟩) 3 3, .slice (some ⟨g2, 0, none⟩) 2 2, .slice none 0 0, .slice none 0 0]] w fun e w' => ∃ b1 o1 k1 b2 o2 k2 A3 k3 A4 k4, e = .returned (.tuple #[.agg #[.slice (some ⟨b1, o1, none⟩) 2 k1, .slice (some ⟨b2, o2, none⟩) 2 k2, .slice A3 0 k3, .slice A4 0 k4], .agg #[.int .i64 0, .int .i64 0, .int .i64 0, .int .i64 0, .int .i64 0, .int .i64 (-1), .int .i64 (-1)]]) ∧ w'.cell? ⟨b1, o1, none⟩ = some (.string { data := #[97] }) ∧ w'.cell? ⟨b2, o2 + 1, none⟩ = some (.int .i64 1) ∧ Below w.heap.size w w' := by
  have hr0 : RdS (fun _ => True) w none 0 1 [] := ⟨rfl, fun h => absurd h (by omega)⟩
  have hf0 : FnsS (fun _ => True) w none [] := fun h => absurd h (by simp)
  have hR : MdR w (some ⟨g1, 0, none⟩) (some ⟨g2, 0, none⟩) none none MdA2 :=
    ⟨⟨rfl, fun _ => ⟨g1, 0, rfl, trivial, fun j u hj => by
      match j with
      | 0 => simp [MdA2, strV, bs] at hj; subst hj; exact c0
      | 1 => simp [MdA2, strV, bs] at hj; subst hj; exact c1
      | 2 => simp [MdA2, strV, bs] at hj; subst hj; exact c2
      | j + 3 => simp [MdA2, strV] at hj⟩⟩, ⟨rfl, fun _ => ⟨g2, 0, rfl, trivial, fun j u hj => by
      match j with
      | 0 => simp [MdA2, intV] at hj; subst hj; exact d0
      | 1 => simp [MdA2, intV] at hj; subst hj; exact d1
      | j + 2 => simp [MdA2, intV] at hj⟩⟩, hf0, hr0⟩
  have h := of_ok MdA2 (some ⟨g1, 0, none⟩) (some ⟨g2, 0, none⟩) none none 3 2 0 0 w mdA_wf2 ⟨by decide, by decide, by decide, by decide, by intro f hf; simp [MdA2] at hf⟩ (by intro f hf; simp [MdA2] at hf) mdA_tree2 hR
  refine h.mono ?_
  rintro e w' ⟨A1, c1, A2, c2, A3, c3, A4, c4, rfl, hR, _, hb⟩
  have e0 : canl MdA2 = [[97], [98]] := by rw [← us_canl MdA2 (by decide), mdA_us2]
  have e1 : (canM MdA2).strs = [[97], [98]] := e0
  have e2 : (canM MdA2).globs = [0, 1] := by
    rw [← ofM_can MdA2 (by decide), e0]
    decide
  have hs := hR.strs
  have hg := hR.globs
  rw [e1] at hs
  rw [e2] at hg
  obtain ⟨b1, o1, rfl, -, h1⟩ := hs.2 (by decide)
  obtain ⟨b2, o2, rfl, -, h2⟩ := hg.2 (by decide)
  refine ⟨b1, o1, c1, b2, o2, c2, A3, c3, A4, c4, ?_, h1 0 _ rfl, h2 1 _ rfl, hb⟩
  rw [e1, e2]
  simp [faultV, MdA2, canM]
set_option maxHeartbeats 4000000 in
theorem awk_any (w : World) : Calls Try.prog 25 #[] w (BlB w true) := by
  go_enter Try.func25, Try.ntmps25
  go_wp2_with fail
  refine (ofA_any2 w.heap.size (w.heap.size + 1) _ (by go_simp) (by go_simp) (by go_simp) (by go_simp) (by go_simp)).mono ?_
  rintro e w1 ⟨b1, o1, k1, b2, o2, k2, A3, k3, A4, k4, rfl, hs, hg, hb⟩
  have HB1 : Hid (Below w.heap.size w w1) := (((Below.refl _ _).alloc (Nat.le_refl _) _).alloc (by simp) _).trans (hb.mono (by simp; omega))
  clear hb
  dsimp only
  obtain ⟨w2, hw2⟩ : ∃ w2, w2 = (w1.alloc (.cells #[.slice (some ⟨b1, o1, none⟩) 2 k1, .slice (some ⟨b2, o2, none⟩) 2 k2, .slice A3 0 k3, .slice A4 0 k4] 30)).alloc (.cells #[.int .i64 0, .int .i64 0, .int .i64 0, .int .i64 0, .int .i64 0, .int .i64 (-1), .int .i64 (-1)] 35) := ⟨_, rfl⟩
  have hb2 : Below w1.heap.size w1 w2 := by rw [hw2]; exact ((Below.refl _ _).alloc (Nat.le_refl _) _).alloc (by simp) _
  have HB2 := Lib.hid (HB1.out.trans (hb2.mono HB1.out.size))
  have K1 : Hid (Blk w2 w1.heap.size 30 #[.slice (some ⟨b1, o1, none⟩) 2 k1, .slice (some ⟨b2, o2, none⟩) 2 k2, .slice A3 0 k3, .slice A4 0 k4]) := by rw [hw2]; exact (Blk.new w1 30 _).alloc _
  have K2 : Hid (Blk w2 (w1.heap.size + 1) 35 #[.int .i64 0, .int .i64 0, .int .i64 0, .int .i64 0, .int .i64 0, .int .i64 (-1), .int .i64 (-1)]) := by rw [hw2]; exact Blk.new' _ 35 _ _ (by simp)
  have hs2 := cell_old hb2 (World.block_lt_of_cell? w1 _ hs) hs
  have hg2 := cell_old hb2 (World.block_lt_of_cell? w1 _ hg) hg
  go_upto_region 2 with (fail)
  rw [← hw2]
  clear hw2 hb2 hs hg
  obtain ⟨q1, hq1⟩ : ∃ g, g = w1.heap.size := ⟨_, rfl⟩
  rw [← hq1] at K1 K2
  try simp only [← hq1]
  clear hq1
  obtain ⟨k0, k1, k2, k3⟩ := K1.out.c4
  obtain ⟨m0, m1, m2, m3, m4, m5, m6⟩ := K2.out.c7
  have z1 : q1 < w2.heap.size := K1.out.lt
  have z2 : q1 + 1 < w2.heap.size := K2.out.lt
  go_wp2
  go_ret
  exact ⟨rfl, HB2.out⟩
end Go.Proofs.Ytpdebnecfknohaa
namespace Go.Proofs.Ytpdebnecfknohaa
open Go.RowKit
set_option linter.unusedVariables false
set_option linter.unusedSimpArgs false
set_option maxRecDepth 20000
/-- Drafts stay. -/
theorem acs_old {w wx : World} {A : Option Addr} {l : List Ac} (hx : Below w.heap.size w wx) (h : AcsAt w A l) : AcsAt wx A l := fun hp => by
  obtain ⟨b, o, hA, hc⟩ := h hp
  refine ⟨b, o, hA, fun i hi => ?_⟩
  obtain ⟨x0, x1, x2, x3⟩ := hc i hi
  have hl := World.block_lt_of_cell? w ⟨b, o + i * 4, none⟩ x0
  exact ⟨cell_old hx hl x0, cell_old hx hl x1, cell_old hx hl x2, cell_old hx hl x3⟩
/-- What Of leaves, in letters. -/
theorem OfC.letters {w : World} {M N : Md} {e : Ending} {w' : World} (h : OfC w M e w') (hN : canM M = N) : ∃ A1 c1 A2 c2 A3 c3 A4 c4, e = .returned (.tuple #[.agg #[.slice A1 N.strs.length c1, .slice A2 N.globs.length c2, .slice A3 N.funcs.length c3, .slice A4 N.ents.length c4], .agg #[.int .i64 0, .int .i64 0, .int .i64 0, .int .i64 0, .int .i64 0, .int .i64 (-1), .int .i64 (-1)]]) ∧ MdR w' A1 A2 A3 A4 N ∧ (0 < N.funcs.length → ∃ lo q T, A3 = some ⟨q, 0, none⟩ ∧ CpT w.heap.size lo T w' q N.funcs) ∧ Below w.heap.size w w' := by
  subst hN
  obtain ⟨A1, c1, A2, c2, A3, c3, A4, c4, rfl, h1, h2, h3⟩ := h
  exact ⟨A1, c1, A2, c2, A3, c3, A4, c4, by simp [faultV], h1, h2, h3⟩
set_option maxHeartbeats 4000000 in
theorem canonOf_walk (G F E : Nat) (Aa Am : Option Addr) (na ca tu nm cm : Nat) (acts : List Ac) (more : List (List UInt8)) (w : World) (hG : G < 256) (hF : F < 256) (hE : E < 256) (htu : tu < 256) (hna : acts.length = na) (hnl : na ≤ 9223372036854775807) (hacts : AcsAt w Aa acts) (hac : ∀ x ∈ acts, x.k < 256 ∧ x.a < 256 ∧ x.b < 256 ∧ x.c < 256) (hnm : more.length = nm) (hml : nm ≤ 9223372036854775807) (hmo : RdS (fun _ => True) w Am nm 1 (strV more)) :
    Calls Try.prog 10 #[.agg #[.int .u8 (G : Int), .int .u8 (F : Int), .int .u8 (E : Int), .slice Aa na ca], .int .u8 (tu : Int), .slice Am nm cm] w fun e w' => e = .returned (.bool true) ∧ Below w.heap.size w w' := by
  have hMa := fun wx (hx : Below w.heap.size w wx) => make_any G F E Aa na ca acts wx hG hF hE hna (acs_old hx hacts) hac
  have hgood := made_good G F E acts
  have hself := made_self G F E acts
  have hpos := (mk_made (gnames (1 + G / 4 % 3) (G % 4)) F E G acts (gnames_len _ _)).strs
  generalize canM (mkM (gnames (1 + G / 4 % 3) (G % 4)) (ints (G % 4)) F E acts) = M at hMa hgood hself hpos
  have HMa := Lib.hid hMa
  have HGo := Lib.hid hgood
  have HSe := Lib.hid hself
  have HMo := Lib.hid hmo
  have HNM := Lib.hid hnm
  have HPo := Lib.hid hpos
  obtain ⟨w1, hw1⟩ : ∃ w1, w1 = w.alloc (.cells #[.int .u8 (G : Int), .int .u8 (F : Int), .int .u8 (E : Int), .slice Aa na ca] 24) := ⟨_, rfl⟩
  have HB : Hid (Below w.heap.size w w1) := by rw [hw1]; exact (Below.refl _ _).alloc (Nat.le_refl _) _
  have K1 : Hid (Blk w1 w.heap.size 24 #[.int .u8 (G : Int), .int .u8 (F : Int), .int .u8 (E : Int), .slice Aa na ca]) := by rw [hw1]; exact Blk.new w 24 _
  clear hMa hgood hself hmo hnm hpos hna hacts hac
  go_enter Try.func10, Try.ntmps10
  go_upto_region 1 with (fail)
  rw [← hw1]
  clear hw1
  go_wp2_with fail
  refine (awk_any _).mono ?_
  rintro e w2 ⟨rfl, hb2⟩
  have HB2 := Lib.hid (HB.out.trans (hb2.mono HB.out.size))
  have K12 := Lib.hid (K1.out.old hb2)
  clear hb2 K1 HB
  obtain ⟨c0, c1, c2, c3⟩ := K12.out.c4
  have z1 : w.heap.size < w2.heap.size := K12.out.lt
  by_cases h60 : 60 < na
  · have h60i : (60 : Int) < (na : Int) := by omega
    go_wp2_with fail
    refine (awk_any _).mono ?_
    rintro e w3 ⟨rfl, hb3⟩
    have HB3 := Lib.hid (HB2.out.trans (hb3.mono HB2.out.size))
    clear hb3
    go_wp2
    go_ret
    exact ⟨rfl, HB3.out⟩
  · have h60i : ¬ (60 : Int) < (na : Int) := by omega
    by_cases h10 : 10 < nm
    · have h10i : (10 : Int) < (nm : Int) := by omega
      go_wp2_with fail
      refine (awk_any _).mono ?_
      rintro e w3 ⟨rfl, hb3⟩
      have HB3 := Lib.hid (HB2.out.trans (hb3.mono HB2.out.size))
      clear hb3
      go_wp2
      go_ret
      exact ⟨rfl, HB3.out⟩
    · have h10i : ¬ (10 : Int) < (nm : Int) := by omega
      go_wp2_with fail
      refine (HMa.out w2 HB2.out).mono ?_
      intro e w3 hP
      obtain ⟨As, cs, Ag, cg, Af, cf, Ae, ce, rfl, hRx, hb3⟩ := hP.read
      have HB3 := Lib.hid (HB2.out.trans (hb3.mono HB2.out.size))
      have hcl : M.strs.length ≤ 3280 := by have h8 := HGo.out.canl_le; rw [← HSe.out]; exact h8
      have hOf := fun wx (hx : Below w3.heap.size w3 wx) => (HGo.out.of As Ag Af Ae cs cg cf ce wx (hRx.old hx)).mono fun e w' h => h.letters HSe.out
      have hSh := fun wx (hx : Below w3.heap.size w3 wx) => shuf_any M As Ag Af Ae Am cs cg cf ce cm tu more wx htu HPo.out (by omega) (by have := (tree_ok M HGo.out.tree).2.2.1; omega) (by have := (tree_ok M HGo.out.tree).2.2.2.1; omega) (fun f hf => by have := (tree_ok M HGo.out.tree).2.2.2.2.2 f hf; omega) HGo.out.names (by have := HNM.out; omega) (hRx.old hx) (by rw [HNM.out]; exact HMo.out.old (HB3.out.trans (hx.mono HB3.out.size)) (by omega))
      have hSm := fun wx (hx : Below w3.heap.size w3 wx) Bs Bg Bf Be ds dg df de (h : MdR wx Bs Bg Bf Be M) => same_any M M Bs Bg Bf Be As Ag Af Ae ds dg df de cs cg cf ce wx HGo.out.fit HGo.out.fit h (hRx.old hx)
      have hgs : Good (shufM M tu more) := HGo.out.shuf tu more HPo.out (by omega) (by have := HNM.out; omega)
      have hcs : canM (shufM M tu more) = M := by rw [shuf_can M tu more HPo.out HGo.out.names]; exact HSe.out
      have hOs := fun wx Bs Bg Bf Be ds dg df de (h : MdR wx Bs Bg Bf Be (shufM M tu more)) => (hgs.of Bs Bg Bf Be ds dg df de wx h).mono fun e w' h => h.letters hcs
      rw [mdSame_refl] at hSm
      rw [HNM.out] at hSh
      generalize shufM M tu more = N at *
      obtain ⟨ls, hls⟩ : ∃ n, n = M.strs.length := ⟨_, rfl⟩
      obtain ⟨ne, hne⟩ : ∃ n, n = M.ents.length := ⟨_, rfl⟩
      obtain ⟨nf, hnf⟩ : ∃ n, n = M.funcs.length := ⟨_, rfl⟩
      obtain ⟨ng, hng⟩ : ∃ n, n = M.globs.length := ⟨_, rfl⟩
      rw [← hls, ← hng, ← hnf, ← hne] at hOf hSh hSm hOs ⊢
      have HOf := Lib.hid hOf
      have HSh := Lib.hid hSh
      have HSm := Lib.hid hSm
      have HOs := Lib.hid hOs
      clear hls hne hnf hng hOf hSh hSm hOs hP hRx hb3 c0 c1 c2 c3 z1 K12 HMa HSe HGo HPo HB2 hcl hgs hcs
      obtain ⟨w4, hw4⟩ : ∃ w4, w4 = w3.alloc (.cells #[.slice As ls cs, .slice Ag ng cg, .slice Af nf cf, .slice Ae ne ce] 30) := ⟨_, rfl⟩
      have HB4 : Hid (Below w3.heap.size w3 w4) := by rw [hw4]; exact (Below.refl _ _).alloc (Nat.le_refl _) _
      have K4 : Hid (Blk w4 w3.heap.size 30 #[.slice As ls cs, .slice Ag ng cg, .slice Af nf cf, .slice Ae ne ce]) := by rw [hw4]; exact Blk.new w3 30 _
      go_upto_region 4 with (fail)
      rw [← hw4]
      clear hw4
      obtain ⟨g, hg⟩ : ∃ g, g = w3.heap.size := ⟨_, rfl⟩
      rw [← hg] at K4
      try simp only [← hg]
      clear hg
      obtain ⟨m0, m1, m2, m3⟩ := K4.out.c4
      have z1 : g < w4.heap.size := K4.out.lt
      go_wp2_with fail
      refine (HOf.out w4 HB4.out).mono ?_
      rintro e w5 ⟨A1, a1, A2, a2, A3, a3, A4, a4, rfl, hR5, _, hb5⟩
      have HB5 := Lib.hid (HB4.out.trans (hb5.mono HB4.out.size))
      have K5 := Lib.hid (K4.out.old hb5)
      dsimp only
      obtain ⟨w6, hw6⟩ : ∃ w6, w6 = (w5.alloc (.cells #[.slice A1 ls a1, .slice A2 ng a2, .slice A3 nf a3, .slice A4 ne a4] 30)).alloc (.cells #[.int .i64 0, .int .i64 0, .int .i64 0, .int .i64 0, .int .i64 0, .int .i64 (-1), .int .i64 (-1)] 35) := ⟨_, rfl⟩
      have hb6 : Below w5.heap.size w5 w6 := by rw [hw6]; exact ((Below.refl _ _).alloc (Nat.le_refl _) _).alloc (by simp) _
      have HB6 := Lib.hid (HB5.out.trans (hb6.mono HB5.out.size))
      have K6 := Lib.hid (K5.out.old hb6)
      have HR6 := Lib.hid (hR5.old hb6)
      have KX : Hid (Blk w6 w5.heap.size 30 #[.slice A1 ls a1, .slice A2 ng a2, .slice A3 nf a3, .slice A4 ne a4]) := by rw [hw6]; exact (Blk.new w5 30 _).alloc _
      have KE : Hid (Blk w6 (w5.heap.size + 1) 35 #[.int .i64 0, .int .i64 0, .int .i64 0, .int .i64 0, .int .i64 0, .int .i64 (-1), .int .i64 (-1)]) := by rw [hw6]; exact Blk.new' _ 35 _ _ (by simp)
      go_upto_region 5 with (fail)
      rw [← hw6]
      obtain ⟨gx, hgx⟩ : ∃ g, g = w5.heap.size := ⟨_, rfl⟩
      rw [← hgx] at KX KE
      try simp only [← hgx]
      clear hw6 hgx hb6 hR5 hb5 K5 HB5 K4 HB4 m0 m1 m2 m3 z1 HOf
      obtain ⟨m0, m1, m2, m3⟩ := K6.out.c4
      have z1 : g < w6.heap.size := K6.out.lt
      go_wp2_with fail
      refine (HSh.out w6 HB6.out).mono ?_
      rintro e w7 ⟨B1, b1, B2, b2, B3, b3, rfl, hR7, hb7⟩
      have HB7 := Lib.hid (HB6.out.trans (hb7.mono HB6.out.size))
      have K7 := Lib.hid (K6.out.old hb7)
      have KX7 := Lib.hid (KX.out.old hb7)
      have KE7 := Lib.hid (KE.out.old hb7)
      have HR7 := Lib.hid (HR6.out.old hb7)
      have hO7 := HOs.out w7 B1 B2 B3 Ae b1 b2 b3 ce hR7
      have HO7 := Lib.hid hO7
      clear hO7 hb7 hR7 HOs HSh K6 KX KE HR6 HB6 m0 m1 m2 m3 z1
      go_wp2_with fail
      refine (HO7.out).mono ?_
      rintro e w8 ⟨C1, d1, C2, d2, C3, d3, C4, d4, rfl, hR8, _, hb8⟩
      have HB8 := Lib.hid (HB7.out.trans (hb8.mono HB7.out.size))
      have K8 := K7.out.old hb8
      have KX8 := KX7.out.old hb8
      have KE8 := KE7.out.old hb8
      have hr8 := HR7.out.old hb8
      dsimp only
      obtain ⟨w9, hw9⟩ : ∃ w9, w9 = (w8.alloc (.cells #[.slice C1 ls d1, .slice C2 ng d2, .slice C3 nf d3, .slice C4 ne d4] 30)).alloc (.cells #[.int .i64 0, .int .i64 0, .int .i64 0, .int .i64 0, .int .i64 0, .int .i64 (-1), .int .i64 (-1)] 35) := ⟨_, rfl⟩
      have hb9 : Below w8.heap.size w8 w9 := by rw [hw9]; exact ((Below.refl _ _).alloc (Nat.le_refl _) _).alloc (by simp) _
      have HB9 := Lib.hid (HB8.out.trans (hb9.mono HB8.out.size))
      have K9 := Lib.hid (K8.old hb9)
      have KX9 := Lib.hid (KX8.old hb9)
      have KE9 := Lib.hid (KE8.old hb9)
      have HR9 := Lib.hid (hr8.old hb9)
      have HRy := Lib.hid (hR8.old hb9)
      have KY : Hid (Blk w9 w8.heap.size 30 #[.slice C1 ls d1, .slice C2 ng d2, .slice C3 nf d3, .slice C4 ne d4]) := by rw [hw9]; exact (Blk.new w8 30 _).alloc _
      have KF : Hid (Blk w9 (w8.heap.size + 1) 35 #[.int .i64 0, .int .i64 0, .int .i64 0, .int .i64 0, .int .i64 0, .int .i64 (-1), .int .i64 (-1)]) := by rw [hw9]; exact Blk.new' _ 35 _ _ (by simp)
      go_upto_region 6 with (fail)
      rw [← hw9]
      obtain ⟨gy, hgy⟩ : ∃ g, g = w8.heap.size := ⟨_, rfl⟩
      rw [← hgy] at KY KF
      try simp only [← hgy]
      clear hw9 hgy hb9 hb8 hR8 hr8 K8 KX8 KE8 K7 KX7 KE7 HR7 HO7 HB7 HB8
      have hs1 := HSm.out w9 HB9.out A1 A2 A3 A4 a1 a2 a3 a4 HR9.out
      have HS1 := Lib.hid hs1
      clear hs1
      obtain ⟨m0, m1, m2, m3⟩ := K9.out.c4
      have z1 : g < w9.heap.size := K9.out.lt
      obtain ⟨x0, x1, x2, x3⟩ := KX9.out.c4
      have z2 : gx < w9.heap.size := KX9.out.lt
      obtain ⟨e0, e1, e2, e3, e4, e5, e6⟩ := KE9.out.c7
      have z3 : gx + 1 < w9.heap.size := KE9.out.lt
      obtain ⟨f0, f1, f2, f3, f4, f5, f6⟩ := KF.out.c7
      have z4 : gy + 1 < w9.heap.size := KF.out.lt
      go_wp2_with fail
      refine (HS1.out).mono ?_
      rintro e w10 ⟨rfl, hb10⟩
      have HB10 := Lib.hid (HB9.out.trans (hb10.mono HB9.out.size))
      have K10 := Lib.hid (K9.out.old hb10)
      have KY10 := Lib.hid (KY.out.old hb10)
      have KE10 := Lib.hid (KE9.out.old hb10)
      have KF10 := Lib.hid (KF.out.old hb10)
      have hs2 := HSm.out w10 HB10.out C1 C2 C3 C4 d1 d2 d3 d4 (HRy.out.old hb10)
      have HS2 := Lib.hid hs2
      clear hs2 hb10 m0 m1 m2 m3 z1 x0 x1 x2 x3 z2 e0 e1 e2 e3 e4 e5 e6 z3 f0 f1 f2 f3 f4 f5 f6 z4 HS1 HSm HRy KY KE9 KF K9 KX9 HR9 HB9
      obtain ⟨m0, m1, m2, m3⟩ := K10.out.c4
      have z1 : g < w10.heap.size := K10.out.lt
      obtain ⟨x0, x1, x2, x3⟩ := KY10.out.c4
      have z2 : gy < w10.heap.size := KY10.out.lt
      go_wp2_with fail
      refine (HS2.out).mono ?_
      rintro e w11 ⟨rfl, hb11⟩
      have HB11 := Lib.hid (HB10.out.trans (hb11.mono HB10.out.size))
      have KE11 := Lib.hid (KE10.out.old hb11)
      have KF11 := Lib.hid (KF10.out.old hb11)
      clear m0 m1 m2 m3 z1 x0 x1 x2 x3 z2 HS2 KY10 KE10 KF10 K10 HB10 hb11
      obtain ⟨e0, e1, e2, e3, e4, e5, e6⟩ := KE11.out.c7
      have z3 : gx + 1 < w11.heap.size := KE11.out.lt
      obtain ⟨f0, f1, f2, f3, f4, f5, f6⟩ := KF11.out.c7
      have z4 : gy + 1 < w11.heap.size := KF11.out.lt
      go_wp2_with fail
      go_ret
      exact ⟨rfl, HB3.out.trans (HB11.out.mono HB3.out.size)⟩
end Go.Proofs.Ytpdebnecfknohaa
namespace Go.Proofs.Ytpdebnecfknohaa
open Go.RowKit
set_option linter.unusedVariables false
set_option maxRecDepth 20000
section
variable {H : Type} {enc : TypeId × Value → H} {w : World} {base : Nat} {spare : Nat → Bool} {held : Bool}
theorem cells77 : Try.prog.cellsOf 77 = 4 := by kernel_rfl
theorem cells22 : Try.prog.cellsOf 22 = 1 := by kernel_rfl
theorem cells24 : Try.prog.cellsOf 24 = 4 := by kernel_rfl
theorem u8_nat {x : Int} (h : (Lit.int .u8 x).wf = true) : ∃ n : Nat, x = n ∧ n < 256 := by
  obtain ⟨h1, h2⟩ := okU8_of_wf h
  exact ⟨x.toNat, by omega, by omega⟩
theorem open_act {fuel : Nat} {cs : List Value} {x : DataW H × List MemPlace} (h : DataW.trod enc Try.prog w base spare held fuel 77 cs = some x) :
    ∃ a : Ac, cs = [.int .u8 (a.k : Int), .int .u8 (a.a : Int), .int .u8 (a.b : Int), .int .u8 (a.c : Int)] ∧ a.k < 256 ∧ a.a < 256 ∧ a.b < 256 ∧ a.c < 256 := by
  obtain ⟨xs, n, _, hx, hl, hxl, hg⟩ := DataW.trod_struct Try.underlying77 h
  rw [cells77] at hl
  match xs, hxl, cs, hl with
  | [y0, y1, y2, y3], _, [c0, c1, c2, c3], _ =>
    have g0 : DataW.trod enc Try.prog w base spare held n 5 ((List.drop 0 [c0, c1, c2, c3]).take (Try.prog.cellsOf 5)) = some y0 := hg 0 _ rfl
    have g1 : DataW.trod enc Try.prog w base spare held n 5 ((List.drop 1 [c0, c1, c2, c3]).take (Try.prog.cellsOf 5)) = some y1 := hg 1 _ rfl
    have g2 : DataW.trod enc Try.prog w base spare held n 5 ((List.drop 2 [c0, c1, c2, c3]).take (Try.prog.cellsOf 5)) = some y2 := hg 2 _ rfl
    have g3 : DataW.trod enc Try.prog w base spare held n 5 ((List.drop 3 [c0, c1, c2, c3]).take (Try.prog.cellsOf 5)) = some y3 := hg 3 _ rfl
    rw [cells5] at g0 g1 g2 g3
    obtain ⟨z0, h0, _, w0⟩ := DataW.trod_int Try.underlying5 (g0)
    obtain ⟨z1, h1, _, w1⟩ := DataW.trod_int Try.underlying5 (g1)
    obtain ⟨z2, h2, _, w2⟩ := DataW.trod_int Try.underlying5 (g2)
    obtain ⟨z3, h3, _, w3⟩ := DataW.trod_int Try.underlying5 (g3)
    simp at h0 h1 h2 h3
    subst h0; subst h1; subst h2; subst h3
    obtain ⟨n0, rfl, l0⟩ := u8_nat w0
    obtain ⟨n1, rfl, l1⟩ := u8_nat w1
    obtain ⟨n2, rfl, l2⟩ := u8_nat w2
    obtain ⟨n3, rfl, l3⟩ := u8_nat w3
    exact ⟨⟨n0, n1, n2, n3⟩, rfl, l0, l1, l2, l3⟩
instance : Inhabited Ac := ⟨⟨0, 0, 0, 0⟩⟩
theorem open_acts {fuel : Nat} {cs : List Value} {x : DataW H × List MemPlace} (h : DataW.trod enc Try.prog w base spare held fuel 22 cs = some x) :
    ∃ (A : Option Addr) (c : Nat) (l : List Ac), cs = [.slice A l.length c] ∧ AcsAt w A l ∧ (∀ x ∈ l, x.k < 256 ∧ x.a < 256 ∧ x.b < 256 ∧ x.c < 256) ∧ l.length ≤ 9223372036854775807 := by
  rcases DataW.trod_slice Try.underlying22 h with ⟨h0, _⟩ | ⟨a, len, cap, elems, rest, n, hn, hcs, hx, hb, hl, hm, hlen, hel, _, _⟩
  · exact ⟨none, 0, [], h0, fun h => by simp at h, by simp, by simp⟩
  · have each : ∀ i, i < len → ∃ q : Ac, (∀ j, j < 4 → w.cell? ((a.add (i * 4)).add j) = ([.int .u8 (q.k : Int), .int .u8 (q.a : Int), .int .u8 (q.b : Int), .int .u8 (q.c : Int)] : List Value)[j]?) ∧ q.k < 256 ∧ q.a < 256 ∧ q.b < 256 ∧ q.c < 256 := fun i hi => by
      have h1 := hel i hi
      rw [List.getElem?_eq_getElem (by omega), cells77, Option.bind_eq_some_iff] at h1
      obtain ⟨cs', h2, h3⟩ := h1
      obtain ⟨_, _, hat⟩ := World.cells?_some h2
      obtain ⟨q, rfl, hq⟩ := open_act h3
      exact ⟨q, hat, hq⟩
    obtain ⟨q, hq⟩ := Go.Deep.choose_lt each
    have hln : ((List.range len).map q).length = len := by simp
    refine ⟨some a, cap, (List.range len).map q, by rw [hln]; exact hcs, fun hp => ?_, fun z hz => ?_, by rw [hln]; unfold maxLen at hm; omega⟩
    · have hp' : 0 < len := by simpa using hp
      obtain ⟨b, off, spot⟩ := a
      have hspot : spot = none := by
        have := World.cell?_spot (v := .int .u8 ((q 0).k : Int)) ((hq 0 hp').1 0 (by omega))
        simpa [Addr.add] using this
      subst hspot
      refine ⟨b, off, rfl, fun i hi => ?_⟩
      have hi' : i < len := by simpa using hi
      have hc := (hq i hi').1
      have e := fun j hj => (Go.WideShapes.add_plain _ _ _ ▸ Go.WideShapes.add_plain _ _ _ ▸ hc j hj : w.cell? ⟨b, off + i * 4 + j, none⟩ = _)
      simp only [List.getElem_map, List.getElem_range]
      exact ⟨e 0 (by omega), e 1 (by omega), e 2 (by omega), e 3 (by omega)⟩
    · obtain ⟨i, hi, rfl⟩ := List.mem_map.1 hz
      exact (hq i (List.mem_range.1 hi)).2
/-- What a draft's cells are. -/
theorem open_draft {fuel : Nat} {cs : List Value} {x : DataW H × List MemPlace} (h : DataW.trod enc Try.prog w base spare held fuel 24 cs = some x) :
    ∃ (G F E : Nat) (A : Option Addr) (c : Nat) (l : List Ac), cs = [.int .u8 (G : Int), .int .u8 (F : Int), .int .u8 (E : Int), .slice A l.length c] ∧ G < 256 ∧ F < 256 ∧ E < 256 ∧ AcsAt w A l ∧ (∀ x ∈ l, x.k < 256 ∧ x.a < 256 ∧ x.b < 256 ∧ x.c < 256) ∧ l.length ≤ 9223372036854775807 := by
  obtain ⟨xs, n, _, hx, hl, hxl, hg⟩ := DataW.trod_struct Try.underlying24 h
  rw [cells24] at hl
  match xs, hxl, cs, hl with
  | [y0, y1, y2, y3], _, [c0, c1, c2, c3], _ =>
    have g0 : DataW.trod enc Try.prog w base spare held n 5 ((List.drop 0 [c0, c1, c2, c3]).take (Try.prog.cellsOf 5)) = some y0 := hg 0 _ rfl
    have g1 : DataW.trod enc Try.prog w base spare held n 5 ((List.drop 1 [c0, c1, c2, c3]).take (Try.prog.cellsOf 5)) = some y1 := hg 1 _ rfl
    have g2 : DataW.trod enc Try.prog w base spare held n 5 ((List.drop 2 [c0, c1, c2, c3]).take (Try.prog.cellsOf 5)) = some y2 := hg 2 _ rfl
    have g3 : DataW.trod enc Try.prog w base spare held n 22 ((List.drop 3 [c0, c1, c2, c3]).take (Try.prog.cellsOf 22)) = some y3 := hg 3 _ rfl
    rw [cells5] at g0 g1 g2
    rw [cells22] at g3
    obtain ⟨z0, h0, _, w0⟩ := DataW.trod_int Try.underlying5 (g0)
    obtain ⟨z1, h1, _, w1⟩ := DataW.trod_int Try.underlying5 (g1)
    obtain ⟨z2, h2, _, w2⟩ := DataW.trod_int Try.underlying5 (g2)
    obtain ⟨A, c, l, h3, w3⟩ := open_acts (g3)
    simp at h0 h1 h2 h3
    subst h0; subst h1; subst h2; subst h3
    obtain ⟨n0, rfl, l0⟩ := u8_nat w0
    obtain ⟨n1, rfl, l1⟩ := u8_nat w1
    obtain ⟨n2, rfl, l2⟩ := u8_nat w2
    exact ⟨n0, n1, n2, A, c, l, rfl, l0, l1, l2, w3⟩
end
end Go.Proofs.Ytpdebnecfknohaa
namespace Go.Proofs.Ytpdebnecfknohaa
open Go.RowKit
set_option linter.unusedVariables false
set_option linter.unusedSimpArgs false
set_option maxRecDepth 20000
/-- A row of the call's own that holds something stands at its block's head. -/
theorem own_head {w : World} {base e n c : Nat} {A : Option Addr} {xs : List Value} (h : w.ownsRow base e 1 (.slice A n c) n xs) (hn : 0 < n) : ∃ r, A = some ⟨r, 0, none⟩ ∧ base ≤ r ∧ r < w.heap.size ∧ n ≤ c ∧ ∀ j u, xs[j]? = some u → w.cell? ⟨r, j, none⟩ = some u ∧ w.frozen? ⟨r, j, none⟩ = false := by
  rcases h.2 with ⟨_, h0⟩ | ⟨k, cap, cur, hv, _⟩
  · omega
  · injection hv with hv1 _ hv3
    subst hv1
    obtain ⟨h1, h2, h3, h4, _⟩ := own_at h hn
    exact ⟨k, rfl, h2, h3, h1, h4⟩
/-- What shuffled leaves, in letters. -/
theorem ShB.letters {w : World} {N : Md} {Ae : Option Addr} {ce : Nat} {e : Ending} {w' : World} {l1 l2 l3 l4 : Nat} (h : ShB w N Ae ce e w') (h1 : l1 = N.strs.length) (h2 : l2 = N.globs.length) (h3 : l3 = N.funcs.length) (h4 : l4 = N.ents.length) : ∃ A1 c1 A2 c2 A3 c3, e = .returned (.agg #[.slice A1 l1 c1, .slice A2 l2 c2, .slice A3 l3 c3, .slice Ae l4 ce]) ∧ MdR w' A1 A2 A3 Ae N ∧ Below w.heap.size w w' := by
  subst h1 h2 h3 h4
  exact h
set_option maxHeartbeats 4000000 in
theorem canonKeeps_walk (G F E : Nat) (Aa Am : Option Addr) (na ca tu nm cm : Nat) (acts : List Ac) (more : List (List UInt8)) (w : World) (hG : G < 256) (hF : F < 256) (hE : E < 256) (htu : tu < 256) (hna : acts.length = na) (hnl : na ≤ 9223372036854775807) (hacts : AcsAt w Aa acts) (hac : ∀ x ∈ acts, x.k < 256 ∧ x.a < 256 ∧ x.b < 256 ∧ x.c < 256) (hnm : more.length = nm) (hml : nm ≤ 9223372036854775807) (hmo : RdS (fun _ => True) w Am nm 1 (strV more)) :
    Calls Try.prog 12 #[.agg #[.int .u8 (G : Int), .int .u8 (F : Int), .int .u8 (E : Int), .slice Aa na ca], .int .u8 (tu : Int), .slice Am nm cm] w fun e w' => e = .returned (.bool true) ∧ Below w.heap.size w w' := by
  have hMa := fun wx (hx : Below w.heap.size w wx) => (make_any G F E Aa na ca acts wx hG hF hE hna (acs_old hx hacts) hac).mono fun e w' h => h.read
  have hgood := made_good G F E acts
  have hself := made_self G F E acts
  have hpos := (mk_made (gnames (1 + G / 4 % 3) (G % 4)) F E G acts (gnames_len _ _)).strs
  have hloc := (mk_made (gnames (1 + G / 4 % 3) (G % 4)) F E G acts (gnames_len _ _)).locs
  have hfn := (mk_made (gnames (1 + G / 4 % 3) (G % 4)) F E G acts (gnames_len _ _)).small.fns.1
  generalize canM (mkM (gnames (1 + G / 4 % 3) (G % 4)) (ints (G % 4)) F E acts) = M at hMa hgood hself hpos hloc hfn
  have hcl : M.strs.length ≤ 3280 := by have h8 := hgood.canl_le; rw [← hself]; exact h8
  have hSh := fun (h10 : ¬ 10 < nm) wx (hx : Below w.heap.size w wx) As Ag Af Ae cs cg cf ce (hR : MdR wx As Ag Af Ae M) => shuf_any M As Ag Af Ae Am cs cg cf ce cm tu more wx htu hpos (by omega) (by have := (tree_ok M hgood.tree).2.2.1; omega) (by have := (tree_ok M hgood.tree).2.2.2.1; omega) (fun f hf => by have := (tree_ok M hgood.tree).2.2.2.2.2 f hf; omega) hgood.names (by omega) hR (by rw [hnm]; exact hmo.old hx (by omega))
  have hgs : ¬ 10 < nm → Good (shufM M tu more) := fun h10 => hgood.shuf tu more hpos (by omega) (by omega)
  have hcs : canM (shufM M tu more) = M := by rw [shuf_can M tu more hpos hgood.names]; exact hself
  have hOs := fun (h10 : ¬ 10 < nm) wx Bs Bg Bf Be ds dg df de (h : MdR wx Bs Bg Bf Be (shufM M tu more)) => ((hgs h10).of Bs Bg Bf Be ds dg df de wx h).mono fun e w' h => h.letters hcs
  have hSm := fun (h10 : ¬ 10 < nm) wx As Ag Af Ae cs cg cf ce Bs Bg Bf Be ds dg df de (h1 : MdR wx As Ag Af Ae (shufM M tu more)) (h2 : MdR wx Bs Bg Bf Be (shufM M tu more)) => same_any (shufM M tu more) (shufM M tu more) As Ag Af Ae Bs Bg Bf Be cs cg cf ce ds dg df de wx (hgs h10).fit (hgs h10).fit h1 h2
  simp only [mdSame_refl] at hSm
  rw [hnm] at hSh
  clear hgs hcs hcl
  generalize shufM M tu more = N at *
  obtain ⟨ls, hls⟩ : ∃ n, n = M.strs.length := ⟨_, rfl⟩
  obtain ⟨ne, hne⟩ : ∃ n, n = M.ents.length := ⟨_, rfl⟩
  obtain ⟨nf, hnf⟩ : ∃ n, n = M.funcs.length := ⟨_, rfl⟩
  obtain ⟨ng, hng⟩ : ∃ n, n = M.globs.length := ⟨_, rfl⟩
  simp only [← hls, ← hng, ← hnf, ← hne] at hMa hSh hOs hfn
  have HNF := Lib.hid hnf
  clear hls hne hnf hng
  obtain ⟨l1, hl1⟩ : ∃ n, n = N.strs.length := ⟨_, rfl⟩
  obtain ⟨l4, hl4⟩ : ∃ n, n = N.ents.length := ⟨_, rfl⟩
  obtain ⟨l3, hl3⟩ : ∃ n, n = N.funcs.length := ⟨_, rfl⟩
  obtain ⟨l2, hl2⟩ : ∃ n, n = N.globs.length := ⟨_, rfl⟩
  have hSh2 := fun h10 wx hx As Ag Af Ae cs cg cf ce hR => (hSh h10 wx hx As Ag Af Ae cs cg cf ce hR).mono fun e w' (h : ShB wx N Ae ce e w') => h.letters hl1 hl2 hl3 hl4
  simp only [← hl1, ← hl2, ← hl3, ← hl4] at hOs hSm
  clear hl1 hl2 hl3 hl4 hSh
  have HMa := Lib.hid hMa
  have HSh := Lib.hid hSh2
  have HOs := Lib.hid hOs
  have HSm := Lib.hid hSm
  have HLo := Lib.hid hloc
  obtain ⟨w1, hw1⟩ : ∃ w1, w1 = w.alloc (.cells #[.int .u8 (G : Int), .int .u8 (F : Int), .int .u8 (E : Int), .slice Aa na ca] 24) := ⟨_, rfl⟩
  have HB : Hid (Below w.heap.size w w1) := by rw [hw1]; exact (Below.refl _ _).alloc (Nat.le_refl _) _
  have K1 : Hid (Blk w1 w.heap.size 24 #[.int .u8 (G : Int), .int .u8 (F : Int), .int .u8 (E : Int), .slice Aa na ca]) := by rw [hw1]; exact Blk.new w 24 _
  clear hMa hgood hself hmo hnm hpos hna hacts hac hloc hSh2 hOs hSm
  go_enter Try.func12, Try.ntmps12
  go_upto_region 1 with (fail)
  rw [← hw1]
  clear hw1
  go_wp2_with fail
  refine (awk_any _).mono ?_
  rintro e w2 ⟨rfl, hb2⟩
  have HB2 := Lib.hid (HB.out.trans (hb2.mono HB.out.size))
  have K12 := Lib.hid (K1.out.old hb2)
  clear hb2 K1 HB
  obtain ⟨c0, c1, c2, c3⟩ := K12.out.c4
  have z1 : w.heap.size < w2.heap.size := K12.out.lt
  by_cases h60 : 60 < na
  · have h60i : (60 : Int) < (na : Int) := by omega
    go_wp2_with fail
    refine (awk_any _).mono ?_
    rintro e w3 ⟨rfl, hb3⟩
    have HB3 := Lib.hid (HB2.out.trans (hb3.mono HB2.out.size))
    clear hb3
    go_wp2
    go_ret
    exact ⟨rfl, HB3.out⟩
  · have h60i : ¬ (60 : Int) < (na : Int) := by omega
    by_cases h10 : 10 < nm
    · have h10i : (10 : Int) < (nm : Int) := by omega
      go_wp2_with fail
      refine (awk_any _).mono ?_
      rintro e w3 ⟨rfl, hb3⟩
      have HB3 := Lib.hid (HB2.out.trans (hb3.mono HB2.out.size))
      clear hb3
      go_wp2
      go_ret
      exact ⟨rfl, HB3.out⟩
    · have h10i : ¬ (10 : Int) < (nm : Int) := by omega
      go_wp2_with fail
      refine (HMa.out w2 HB2.out).mono ?_
      rintro e w3 ⟨As, cs, Ag, cg, Af, cf, Ae, ce, rfl, hRx, hb3⟩
      have HB3 := Lib.hid (HB2.out.trans (hb3.mono HB2.out.size))
      have K3 := Lib.hid (K12.out.old hb3)
      have hs3 := HSh.out h10 w3 HB3.out As Ag Af Ae cs cg cf ce hRx
      have HS3 := Lib.hid hs3
      clear hs3 hRx hb3 c0 c1 c2 c3 z1 K12
      go_wp2_with fail
      refine (HS3.out).mono ?_
      rintro e w4 ⟨B1, b1, B2, b2, B3, b3, rfl, hR4, hb4⟩
      have HB4 := Lib.hid (HB3.out.trans (hb4.mono HB3.out.size))
      have K4 := K3.out.old hb4
      obtain ⟨w5, hw5⟩ : ∃ w5, w5 = w4.alloc (.cells #[.slice B1 l1 b1, .slice B2 l2 b2, .slice B3 l3 b3, .slice Ae l4 ce] 30) := ⟨_, rfl⟩
      have hb5 : Below w4.heap.size w4 w5 := by rw [hw5]; exact (Below.refl _ _).alloc (Nat.le_refl _) _
      have HB5 := Lib.hid (HB4.out.trans (hb5.mono HB4.out.size))
      have K5 := Lib.hid (K4.old hb5)
      have HR5 := Lib.hid (hR4.old hb5)
      have KM : Hid (Blk w5 w4.heap.size 30 #[.slice B1 l1 b1, .slice B2 l2 b2, .slice B3 l3 b3, .slice Ae l4 ce]) := by rw [hw5]; exact Blk.new w4 30 _
      go_upto_region 4 with (fail)
      rw [← hw5]
      obtain ⟨g, hg⟩ : ∃ g, g = w4.heap.size := ⟨_, rfl⟩
      rw [← hg] at KM
      try simp only [← hg]
      clear hg hw5 hb5 hb4 hR4 K4 HB4 K3 HS3 HB3 HB2
      obtain ⟨m0, m1, m2, m3⟩ := KM.out.c4
      have z1 : g < w5.heap.size := KM.out.lt
      have ho5 := HOs.out h10 w5 B1 B2 B3 Ae b1 b2 b3 ce HR5.out
      have HO5 := Lib.hid ho5
      clear ho5
      go_wp2_with fail
      refine (HO5.out).mono ?_
      rintro e w6 ⟨C1, d1, C2, d2, C3, d3, C4, d4, rfl, _, hT6, hb6⟩
      obtain ⟨lo, q, T, rfl, hT⟩ := hT6 (by have := HNF.out; omega)
      have hM0 : 0 < M.funcs.length := by have := HNF.out; omega
      obtain ⟨Al, cl, As', cs', Ab', cb', b, c, g1, g2, g3, g4, g5, g6, g7, g8, g9⟩ := hT.fns 0 hM0
      have hlp := HLo.out _ (List.getElem_mem hM0)
      generalize M.funcs[0] = f0 at *
      obtain ⟨nl, hnl⟩ : ∃ n, n = f0.locals.length := ⟨_, rfl⟩
      rw [← hnl] at g4 g5 hlp
      obtain ⟨r, rfl, hr1, hr2, _, hrc⟩ := own_head g5 hlp
      obtain ⟨cq, hq1, hq2⟩ := hT.row
      have hqb := hT.qb
      have ht0 := hT.t0
      have q0 := g4 0 _ rfl
      have q2 := g4 2 _ rfl
      simp only [Nat.zero_mul, Nat.zero_add] at q0 q2
      obtain ⟨x0, hx0⟩ : ∃ x, (intV f0.locals)[0]? = some x := ⟨_, List.getElem?_eq_getElem (by rw [intV_len]; omega)⟩
      obtain ⟨r0, rf⟩ := hrc 0 _ hx0
      have hqr : q < r := by omega
      have hq5 : w5.heap.size ≤ q := hqb.1
      clear g1 g2 g3 g4 g5 g6 g7 g8 g9 hrc hx0 hT HLo hM0
      have hrx : r < w6.heap.size := hr2
      have hqx : q < w6.heap.size := by omega
      dsimp only
      obtain ⟨w7, hw7⟩ : ∃ w7, w7 = (w6.alloc (.cells #[.slice C1 ls d1, .slice C2 ng d2, .slice (some ⟨q, 0, none⟩) nf d3, .slice C4 ne d4] 30)).alloc (.cells #[.int .i64 0, .int .i64 0, .int .i64 0, .int .i64 0, .int .i64 0, .int .i64 (-1), .int .i64 (-1)] 35) := ⟨_, rfl⟩
      have hb7 : Below w6.heap.size w6 w7 := by rw [hw7]; exact ((Below.refl _ _).alloc (Nat.le_refl _) _).alloc (by simp) _
      have HB7 : Hid (Below w5.heap.size w5 w7) := hb6.trans (hb7.mono hb6.size)
      have KX : Hid (Blk w7 w6.heap.size 30 #[.slice C1 ls d1, .slice C2 ng d2, .slice (some ⟨q, 0, none⟩) nf d3, .slice C4 ne d4]) := by rw [hw7]; exact (Blk.new w6 30 _).alloc _
      have KE : Hid (Blk w7 (w6.heap.size + 1) 35 #[.int .i64 0, .int .i64 0, .int .i64 0, .int .i64 0, .int .i64 0, .int .i64 (-1), .int .i64 (-1)]) := by rw [hw7]; exact Blk.new' _ 35 _ _ (by simp)
      have KQ := hq1.old hb7
      have q0' := cell_old hb7 hqx q0
      have q2' := cell_old hb7 hqx q2
      have r0' := cell_old hb7 hrx r0
      have hbr := hb7.block r hrx
      have rf' : w7.frozen? ⟨r, 0, none⟩ = false := by rw [← rf]; unfold World.frozen?; rw [hbr]
      have hr7 : r < w7.heap.size := Nat.lt_of_lt_of_le hrx hb7.size
      have hq7 : q < w7.heap.size := Nat.lt_of_lt_of_le hqx hb7.size
      go_upto_region 5 with (fail)
      rw [← hw7]
      obtain ⟨gx, hgx⟩ : ∃ g, g = w6.heap.size := ⟨_, rfl⟩
      rw [← hgx] at KX KE hrx
      try simp only [← hgx]
      clear hw7 hgx hb7 hb6 hq1 q0 q2 r0 rf hr2 hqx HO5 m0 m1 m2 m3 z1 hbr
      obtain ⟨m0, m1, m2, m3⟩ := KX.out.c4
      have z1 : gx < w7.heap.size := KX.out.lt
      obtain ⟨e0, e1, e2, e3, e4, e5, e6⟩ := KE.out.c7
      have z3 : gx + 1 < w7.heap.size := KE.out.lt
      have hnf0 : ¬ nf = 0 := by omega
      have hnfi : ¬ (nf : Int) = 0 := by omega
      have KQ8 : Hid (Blk w7 q 40 cq) := KQ
      have qf' := KQ.frozen 0
      go_upto_region 7 with (fail)
      have hnl0 : (0 : Int) < (nl : Int) := by omega
      have hnf1 : (0 : Int) < (nf : Int) := by omega
      obtain ⟨w8, hw8⟩ : ∃ w8, w8 = w7.setCell ⟨r, 0, none⟩ (.int .i64 99) := ⟨_, rfl⟩
      have HB8 : Hid (Below w5.heap.size w5 w8) := by rw [hw8]; exact HB7.out.setCell (p := ⟨r, 0, none⟩) (by show _ ≤ r; omega) _
      have KX8 : Hid (Blk w8 gx 30 #[.slice C1 ls d1, .slice C2 ng d2, .slice (some ⟨q, 0, none⟩) nf d3, .slice C4 ne d4]) := by rw [hw8]; exact KX.out.far (by show gx ≠ r; omega) _
      have KQ9 : Hid (Blk w8 q 40 cq) := by rw [hw8]; exact KQ8.out.far (by show q ≠ r; omega) _
      have q0n : w8.cell? ⟨q, 0, none⟩ = some (.int .i64 f0.name) := by rw [hw8, ← q0']; exact World.cell?_of_block (Below.heap_setCell _ _ _ _ (by show q ≠ r; omega))
      go_upto_region 8 with (fail)
      rw [← hw8]
      have hsz8 : w8.heap.size = w7.heap.size := by rw [hw8]; simp [World.setCell]
      clear hw8 m0 m1 m2 m3 z1 e0 e1 e2 e3 e4 e5 e6 z3 KX KE KQ8 KQ qf' rf' r0' q0' q2' HB7
      obtain ⟨m0, m1, m2, m3⟩ := KX8.out.c4
      have z1 : gx < w8.heap.size := KX8.out.lt
      have qf' := KQ9.out.frozen 0
      have hq8 : q < w8.heap.size := by omega
      clear hsz8
      obtain ⟨w9, hw9⟩ : ∃ w9, w9 = w8.setCell ⟨q, 0, none⟩ (.int .i64 98) := ⟨_, rfl⟩
      have HB9 : Hid (Below w5.heap.size w5 w9) := by rw [hw9]; exact HB8.out.setCell (p := ⟨q, 0, none⟩) hq5 _
      go_upto_region 9 with (fail)
      rw [← hw9]
      clear hw9 m0 m1 m2 m3 z1 KX8 KQ9 qf' hq8 q0n HB8 hq7 hr7 hq5 hrx hqr hr1 hqb ht0 hq2 hnl0 hnf1 hnf0 hnfi
      have KM9 := Lib.hid (KM.out.old HB9.out)
      have K9 := Lib.hid (K5.out.old HB9.out)
      have HR9 := Lib.hid (HR5.out.old HB9.out)
      have HBx := Lib.hid (HB5.out.trans (HB9.out.mono HB5.out.size))
      clear KM K5 HR5 HB5 HB9
      obtain ⟨m0, m1, m2, m3⟩ := KM9.out.c4
      have z1 : g < w9.heap.size := KM9.out.lt
      obtain ⟨c0, c1, c2, c3⟩ := K9.out.c4
      have z2 : w.heap.size < w9.heap.size := K9.out.lt
      have hMa9 := HMa.out w9.drew (HBx.out.trans (Below.refl _ _).drew)
      have HMa9 := Lib.hid hMa9
      have HR9d := Lib.hid (HR9.out.old (w' := w9.drew) (Below.refl _ _).drew)
      clear hMa9
      go_region_law (first
        | (go_simp
           go_at_call 16
           refine (HMa9.out).mono ?_
           rintro e wa ⟨As', cs', Ag', cg', Af', cf', Ae', ce', rfl, hRa, hba⟩
           have HBa := Lib.hid (HBx.out.trans (Below.trans ((Below.refl _ _).drew) (hba.mono HBx.out.size)))
           have KMa := Lib.hid (Blk.old (w := w9.drew) KM9.out hba)
           have hRz := Lib.hid (HR9d.out.old hba)
           have hsa := HSh.out h10 wa HBa.out As' Ag' Af' Ae' cs' cg' cf' ce' hRa
           have HSa := Lib.hid hsa
           clear hsa hRa hba
           obtain ⟨n0, n1, n2, n3⟩ := KMa.out.c4
           have z4 : g < wa.heap.size := KMa.out.lt)
        | (go_simp
           go_at_call 27
           refine (HSa.out).mono ?_
           rintro e wb ⟨D1, y1, D2, y2, D3, y3, rfl, hRb, hbb⟩
           have HBb := Lib.hid (HBa.out.trans (hbb.mono HBa.out.size))
           have KMb := Lib.hid (KMa.out.old hbb)
           have hsb := HSm.out h10 wb B1 B2 B3 Ae b1 b2 b3 ce D1 D2 D3 Ae' y1 y2 y3 ce' (hRz.out.old hbb) hRb
           have HSb := Lib.hid hsb
           clear hsb hRb hbb
           obtain ⟨k0, k1, k2, k3⟩ := KMb.out.c4
           have z5 : g < wb.heap.size := KMb.out.lt)
        | (go_simp
           go_at_call 28
           refine (HSb.out).mono ?_
           rintro e wc ⟨rfl, hbc⟩))
      all_goals
        try simp only [List.getElem_toArray, List.getElem_cons_succ, List.getElem_cons_zero, Act.put, List.setIfInBounds_toArray, List.set_cons_zero, List.set_cons_succ]
        go_wp2_with fail
        go_ret
        exact ⟨rfl, HBb.out.trans (hbc.mono HBb.out.size)⟩
end Go.Proofs.Ytpdebnecfknohaa
namespace Go.Proofs.Ytpdebnecfknohaa
open Go.RowKit
set_option linter.unusedVariables false
set_option linter.unusedSimpArgs false
set_option maxRecDepth 20000
/-- A module with more strings behind. -/
def addM (M : Md) (more : List (List UInt8)) : Md := ⟨M.strs ++ more, M.globs, M.funcs, M.ents⟩
theorem add_is_ren (M : Md) (more : List (List UInt8)) : addM M more = renM (fun n => n) (M.strs ++ more) M := by
  unfold addM renM
  have e1 : M.globs.map (fun n => n) = M.globs := List.map_id' M.globs
  have e2 : M.funcs.map (fnG (fun n => n)) = M.funcs := by
    have : M.funcs.map (fnG (fun n => n)) = M.funcs.map id := List.map_congr_left (fun f _ => by
      unfold fnG
      rw [List.map_id', List.map_id']
      rfl)
    rw [this, List.map_id]
  rw [e1, e2]
theorem add_same (M : Md) (more : List (List UInt8)) (hr : ∀ n ∈ usedI M.globs M.funcs M.funcs.length, 0 ≤ n ∧ n < (M.strs.length : Int)) : SameN (fun n => n) (M.strs ++ more) M := fun n hn => by
  have h1 := hr n hn
  rw [strF_in _ _ h1, strF_in _ _ ⟨h1.1, by rw [List.length_append]; omega⟩]
  simp only [List.getD_eq_getElem?_getD]
  rw [List.getElem?_append_left (by omega)]
theorem Good.add {M : Md} (h : Good M) (more : List (List UInt8)) (hl : M.strs.length + more.length ≤ 1000000) : Good (addM M more) := by
  rw [add_is_ren]
  exact h.ren _ _ (by rw [List.length_append]; omega) (fun n hn => by have := h.names n hn; rw [List.length_append]; omega) (add_same M more h.names)
theorem add_can {M : Md} (h : Good M) (more : List (List UInt8)) : canM (addM M more) = canM M := by
  rw [add_is_ren]
  exact can_ren _ _ M (add_same M more h.names) h.names (fun n hn => by have := h.names n hn; rw [List.length_append]; omega)
set_option maxHeartbeats 4000000 in
theorem canonTwice_walk (G F E : Nat) (Aa Am : Option Addr) (na ca tu nm cm : Nat) (acts : List Ac) (more : List (List UInt8)) (w : World) (hG : G < 256) (hF : F < 256) (hE : E < 256) (htu : tu < 256) (hna : acts.length = na) (hnl : na ≤ 9223372036854775807) (hacts : AcsAt w Aa acts) (hac : ∀ x ∈ acts, x.k < 256 ∧ x.a < 256 ∧ x.b < 256 ∧ x.c < 256) (hnm : more.length = nm) (hml : nm ≤ 9223372036854775807) (hmo : RdS (fun _ => True) w Am nm 1 (strV more)) :
    Calls Try.prog 14 #[.agg #[.int .u8 (G : Int), .int .u8 (F : Int), .int .u8 (E : Int), .slice Aa na ca], .slice Am nm cm, .int .u8 (tu : Int)] w fun e w' => e = .returned (.bool true) ∧ Below w.heap.size w w' := by
  have hMa := fun wx (hx : Below w.heap.size w wx) => (make_any G F E Aa na ca acts wx hG hF hE hna (acs_old hx hacts) hac).mono fun e w' h => h.read
  have hgood := made_good G F E acts
  have hself := made_self G F E acts
  have hpos := (mk_made (gnames (1 + G / 4 % 3) (G % 4)) F E G acts (gnames_len _ _)).strs
  have hloc := (mk_made (gnames (1 + G / 4 % 3) (G % 4)) F E G acts (gnames_len _ _)).locs
  have hfn := (mk_made (gnames (1 + G / 4 % 3) (G % 4)) F E G acts (gnames_len _ _)).small.fns.1
  generalize canM (mkM (gnames (1 + G / 4 % 3) (G % 4)) (ints (G % 4)) F E acts) = M at hMa hgood hself hpos hloc hfn
  have hcl : M.strs.length ≤ 3280 := by have h8 := hgood.canl_le; rw [← hself]; exact h8
  have hSh := fun (h10 : ¬ 10 < nm) wx (hx : Below w.heap.size w wx) As Ag Af Ae cs cg cf ce (hR : MdR wx As Ag Af Ae M) => shuf_any M As Ag Af Ae Am cs cg cf ce cm tu more wx htu hpos (by omega) (by have := (tree_ok M hgood.tree).2.2.1; omega) (by have := (tree_ok M hgood.tree).2.2.2.1; omega) (fun f hf => by have := (tree_ok M hgood.tree).2.2.2.2.2 f hf; omega) hgood.names (by omega) hR (by rw [hnm]; exact hmo.old hx (by omega))
  have hgs : ¬ 10 < nm → Good (shufM M tu more) := fun h10 => hgood.shuf tu more hpos (by omega) (by omega)
  have hcs : canM (shufM M tu more) = M := by rw [shuf_can M tu more hpos hgood.names]; exact hself
  have hOs := fun (h10 : ¬ 10 < nm) wx Bs Bg Bf Be ds dg df de (h : MdR wx Bs Bg Bf Be (shufM M tu more)) => ((hgs h10).of Bs Bg Bf Be ds dg df de wx h).mono fun e w' h => h.letters hcs
  have hSm := fun wx As Ag Af Ae cs cg cf ce Bs Bg Bf Be ds dg df de (h1 : MdR wx As Ag Af Ae M) (h2 : MdR wx Bs Bg Bf Be M) => same_any M M As Ag Af Ae Bs Bg Bf Be cs cg cf ce ds dg df de wx hgood.fit hgood.fit h1 h2
  have hOm := fun wx Bs Bg Bf Be ds dg df de (h : MdR wx Bs Bg Bf Be M) => (hgood.of Bs Bg Bf Be ds dg df de wx h).mono fun e w' h => h.letters hself
  have hgz := fun (h10 : ¬ 10 < nm) => hgood.add more (by omega)
  have hOz := fun (h10 : ¬ 10 < nm) wx Bs Bg Bf Be ds dg df de (h : MdR wx Bs Bg Bf Be (addM M more)) => ((hgz h10).of Bs Bg Bf Be ds dg df de wx h).mono fun e w' h => h.letters ((add_can hgood more).trans hself)
  have hlz : (addM M more).strs.length = M.strs.length + nm := by unfold addM; rw [List.length_append, hnm]
  have hlg : (addM M more).globs.length = M.globs.length := rfl
  have hlf : (addM M more).funcs.length = M.funcs.length := rfl
  have hle : (addM M more).ents.length = M.ents.length := rfl
  rw [hlz, hlg, hlf, hle] at hOz
  simp only [mdSame_refl] at hSm
  rw [hnm] at hSh
  have HCL := Lib.hid hcl
  clear hgs hcs hcl hgz hlz hlg hlf hle
  generalize shufM M tu more = N at *
  obtain ⟨ls, hls⟩ : ∃ n, n = M.strs.length := ⟨_, rfl⟩
  obtain ⟨ne, hne⟩ : ∃ n, n = M.ents.length := ⟨_, rfl⟩
  obtain ⟨nf, hnf⟩ : ∃ n, n = M.funcs.length := ⟨_, rfl⟩
  obtain ⟨ng, hng⟩ : ∃ n, n = M.globs.length := ⟨_, rfl⟩
  simp only [← hls, ← hng, ← hnf, ← hne] at hMa hSh hOs hOm hOz hSm
  have HLN : Hid (ls = M.strs.length ∧ nm = more.length) := ⟨hls, hnm.symm⟩
  have HMo := Lib.hid hmo
  have hcl2 : ls ≤ 3280 := by have := HCL.out; omega
  clear hls hne hnf hng HCL
  obtain ⟨l1, hl1⟩ : ∃ n, n = N.strs.length := ⟨_, rfl⟩
  obtain ⟨l4, hl4⟩ : ∃ n, n = N.ents.length := ⟨_, rfl⟩
  obtain ⟨l3, hl3⟩ : ∃ n, n = N.funcs.length := ⟨_, rfl⟩
  obtain ⟨l2, hl2⟩ : ∃ n, n = N.globs.length := ⟨_, rfl⟩
  have hSh2 := fun h10 wx hx As Ag Af Ae cs cg cf ce hR => (hSh h10 wx hx As Ag Af Ae cs cg cf ce hR).mono fun e w' (h : ShB wx N Ae ce e w') => h.letters hl1 hl2 hl3 hl4
  simp only [← hl1, ← hl2, ← hl3, ← hl4] at hOs
  clear hl1 hl2 hl3 hl4 hSh
  have HMa := Lib.hid hMa
  have HSh := Lib.hid hSh2
  have HOs := Lib.hid hOs
  have HSm := Lib.hid hSm
  have HOm := Lib.hid hOm
  have HOz := Lib.hid hOz
  obtain ⟨w1, hw1⟩ : ∃ w1, w1 = w.alloc (.cells #[.int .u8 (G : Int), .int .u8 (F : Int), .int .u8 (E : Int), .slice Aa na ca] 24) := ⟨_, rfl⟩
  have HB : Hid (Below w.heap.size w w1) := by rw [hw1]; exact (Below.refl _ _).alloc (Nat.le_refl _) _
  have K1 : Hid (Blk w1 w.heap.size 24 #[.int .u8 (G : Int), .int .u8 (F : Int), .int .u8 (E : Int), .slice Aa na ca]) := by rw [hw1]; exact Blk.new w 24 _
  clear hMa hgood hself hmo hnm hpos hna hacts hac hloc hfn hSh2 hOs hSm hOm hOz
  go_enter Try.func14, Try.ntmps14
  go_upto_region 1 with (fail)
  rw [← hw1]
  clear hw1
  go_wp2_with fail
  refine (awk_any _).mono ?_
  rintro e w2 ⟨rfl, hb2⟩
  have HB2 := Lib.hid (HB.out.trans (hb2.mono HB.out.size))
  have K12 := Lib.hid (K1.out.old hb2)
  clear hb2 K1 HB
  obtain ⟨c0, c1, c2, c3⟩ := K12.out.c4
  have z1 : w.heap.size < w2.heap.size := K12.out.lt
  by_cases h60 : 60 < na
  · have h60i : (60 : Int) < (na : Int) := by omega
    go_wp2_with fail
    refine (awk_any _).mono ?_
    rintro e w3 ⟨rfl, hb3⟩
    have HB3 := Lib.hid (HB2.out.trans (hb3.mono HB2.out.size))
    clear hb3
    go_wp2
    go_ret
    exact ⟨rfl, HB3.out⟩
  · have h60i : ¬ (60 : Int) < (na : Int) := by omega
    by_cases h10 : 10 < nm
    · have h10i : (10 : Int) < (nm : Int) := by omega
      go_wp2_with fail
      refine (awk_any _).mono ?_
      rintro e w3 ⟨rfl, hb3⟩
      have HB3 := Lib.hid (HB2.out.trans (hb3.mono HB2.out.size))
      clear hb3
      go_wp2
      go_ret
      exact ⟨rfl, HB3.out⟩
    · have h10i : ¬ (10 : Int) < (nm : Int) := by omega
      go_wp2_with fail
      refine (HMa.out w2 HB2.out).mono ?_
      rintro e w3 ⟨As, cs, Ag, cg, Af, cf, Ae, ce, rfl, hRx, hb3⟩
      have HB3 := Lib.hid (HB2.out.trans (hb3.mono HB2.out.size))
      have hs3 := HSh.out h10 w3 HB3.out As Ag Af Ae cs cg cf ce hRx
      have HS3 := Lib.hid hs3
      clear hs3 hRx hb3 c0 c1 c2 c3 z1 K12
      go_wp2_with fail
      refine (HS3.out).mono ?_
      rintro e w4 ⟨B1, b1, B2, b2, B3, b3, rfl, hR4, hb4⟩
      have HB4 := Lib.hid (HB3.out.trans (hb4.mono HB3.out.size))
      have ho4 := HOs.out h10 w4 B1 B2 B3 Ae b1 b2 b3 ce hR4
      have HO4 := Lib.hid ho4
      clear ho4 hR4 hb4 HS3
      go_wp2_with fail
      refine (HO4.out).mono ?_
      rintro e w5 ⟨C1, d1, C2, d2, C3, d3, C4, d4, rfl, hR5, _, hb5⟩
      have HB5 := Lib.hid (HB4.out.trans (hb5.mono HB4.out.size))
      dsimp only
      obtain ⟨w6, hw6⟩ : ∃ w6, w6 = (w5.alloc (.cells #[.slice C1 ls d1, .slice C2 ng d2, .slice C3 nf d3, .slice C4 ne d4] 30)).alloc (.cells #[.int .i64 0, .int .i64 0, .int .i64 0, .int .i64 0, .int .i64 0, .int .i64 (-1), .int .i64 (-1)] 35) := ⟨_, rfl⟩
      have hb6 : Below w5.heap.size w5 w6 := by rw [hw6]; exact ((Below.refl _ _).alloc (Nat.le_refl _) _).alloc (by simp) _
      have HB6 := Lib.hid (HB5.out.trans (hb6.mono HB5.out.size))
      have HR6 := Lib.hid (hR5.old hb6)
      have KX : Hid (Blk w6 w5.heap.size 30 #[.slice C1 ls d1, .slice C2 ng d2, .slice C3 nf d3, .slice C4 ne d4]) := by rw [hw6]; exact (Blk.new w5 30 _).alloc _
      have KE : Hid (Blk w6 (w5.heap.size + 1) 35 #[.int .i64 0, .int .i64 0, .int .i64 0, .int .i64 0, .int .i64 0, .int .i64 (-1), .int .i64 (-1)]) := by rw [hw6]; exact Blk.new' _ 35 _ _ (by simp)
      go_upto_region 4 with (fail)
      rw [← hw6]
      obtain ⟨gx, hgx⟩ : ∃ g, g = w5.heap.size := ⟨_, rfl⟩
      rw [← hgx] at KX KE
      try simp only [← hgx]
      clear hw6 hgx hb6 hR5 hb5 HO4 HB4 HB5 HB3 HB2
      obtain ⟨m0, m1, m2, m3⟩ := KX.out.c4
      have z1 : gx < w6.heap.size := KX.out.lt
      have ho6 := HOm.out w6 C1 C2 C3 C4 d1 d2 d3 d4 HR6.out
      have HO6 := Lib.hid ho6
      clear ho6
      go_wp2_with fail
      refine (HO6.out).mono ?_
      rintro e w7 ⟨Y1, y1, Y2, y2, Y3, y3, Y4, y4, rfl, hR7, _, hb7⟩
      have HB7 := Lib.hid (HB6.out.trans (hb7.mono HB6.out.size))
      have KX7 := KX.out.old hb7
      have KE7 := KE.out.old hb7
      have hX7 := HR6.out.old hb7
      dsimp only
      obtain ⟨w8, hw8⟩ : ∃ w8, w8 = (w7.alloc (.cells #[.slice Y1 ls y1, .slice Y2 ng y2, .slice Y3 nf y3, .slice Y4 ne y4] 30)).alloc (.cells #[.int .i64 0, .int .i64 0, .int .i64 0, .int .i64 0, .int .i64 0, .int .i64 (-1), .int .i64 (-1)] 35) := ⟨_, rfl⟩
      have hb8 : Below w7.heap.size w7 w8 := by rw [hw8]; exact ((Below.refl _ _).alloc (Nat.le_refl _) _).alloc (by simp) _
      have HB8 := Lib.hid (HB7.out.trans (hb8.mono HB7.out.size))
      have KX8 := Lib.hid (KX7.old hb8)
      have KE8 := Lib.hid (KE7.old hb8)
      have HX8 := Lib.hid (hX7.old hb8)
      have HY8 := Lib.hid (hR7.old hb8)
      have KY : Hid (Blk w8 w7.heap.size 30 #[.slice Y1 ls y1, .slice Y2 ng y2, .slice Y3 nf y3, .slice Y4 ne y4]) := by rw [hw8]; exact (Blk.new w7 30 _).alloc _
      have KF : Hid (Blk w8 (w7.heap.size + 1) 35 #[.int .i64 0, .int .i64 0, .int .i64 0, .int .i64 0, .int .i64 0, .int .i64 (-1), .int .i64 (-1)]) := by rw [hw8]; exact Blk.new' _ 35 _ _ (by simp)
      go_upto_region 5 with (fail)
      rw [← hw8]
      obtain ⟨gy, hgy⟩ : ∃ g, g = w7.heap.size := ⟨_, rfl⟩
      rw [← hgy] at KY KF
      try simp only [← hgy]
      clear hw8 hgy hb8 hb7 hX7 hR7 KX7 KE7 HO6 m0 m1 m2 m3 z1 HB7 HB6 KX KE HR6
      obtain ⟨m0, m1, m2, m3⟩ := KX8.out.c4
      have z1 : gx < w8.heap.size := KX8.out.lt
      obtain ⟨P1, p1, w9, hr1, hO1, hg1⟩ := pushSs (base := w8.heap.size) (n := 0) (m := ls) (c := d1) (v := .slice none 0 0) (l := []) (xs := M.strs) (A := C1) (w := w8) rfl HLN.out.1 (World.ownsRow_nil _ _ _ _) (by rw [HLN.out.1]; exact HX8.out.strs) (by omega) (by omega) (Nat.le_refl _)
      rw [Nat.zero_add] at hr1 hO1
      rw [List.nil_append] at hO1
      have HB9 : Below w8.heap.size w8 w9 := (Below.refl _ _).grown hg1 (Nat.le_refl _) (fun k hk => by simp [Value.ownBlock] at hk)
      obtain ⟨P2, p2, w10, hr2, hO2, hg2⟩ := pushSs (base := w8.heap.size) (n := ls) (m := nm) (c := cm) (v := .slice P1 ls p1) (l := M.strs) (xs := more) (A := Am) (w := w9) HLN.out.1 HLN.out.2 hO1 (HMo.out.old (HB8.out.trans (HB9.mono HB8.out.size)) (by omega)) (by omega) (by omega) HB9.size
      have HB10 : Hid (Below w8.heap.size w8 w10) := HB9.grown hg2 HB9.size (fun q hq => (hO1.lt q hq).1)
      have HO2 := Lib.hid hO2
      clear hO1 hg1 hg2 hO2 HB9
      have KX10 := Lib.hid (KX8.out.old HB10.out)
      obtain ⟨n0, n1, n2, n3⟩ := KX10.out.c4
      have z2 : gx < w10.heap.size := KX10.out.lt
      go_upto_region 9 with (first
        | (at_builtin; refine Lib.wpList_append_run _ rfl _ _ 26 26 rfl _ _ rfl rfl _ _ hr1 ?_)
        | (at_builtin; refine Lib.wpList_append_run _ rfl _ _ 26 26 rfl _ _ rfl rfl _ _ hr2 ?_))
      obtain ⟨w11, hw11⟩ : ∃ w11, w11 = w10.alloc (.cells #[.slice P2 (ls + nm) p2, .slice C2 ng d2, .slice C3 nf d3, .slice C4 ne d4] 30) := ⟨_, rfl⟩
      have hb11 : Below w10.heap.size w10 w11 := by rw [hw11]; exact (Below.refl _ _).alloc (Nat.le_refl _) _
      have HB11 : Hid (Below w8.heap.size w8 w11) := HB10.out.trans (hb11.mono HB10.out.size)
      have HBw := Lib.hid (HB8.out.trans (HB11.out.mono HB8.out.size))
      have KX11 := Lib.hid (KX10.out.old hb11)
      have KE11 := Lib.hid (KE8.out.old HB11.out)
      have KY11 := Lib.hid (KY.out.old HB11.out)
      have KF11 := Lib.hid (KF.out.old HB11.out)
      have HX11 := Lib.hid (HX8.out.old HB11.out)
      have HY11 := Lib.hid (HY8.out.old HB11.out)
      have KZ : Hid (Blk w11 w10.heap.size 30 #[.slice P2 (ls + nm) p2, .slice C2 ng d2, .slice C3 nf d3, .slice C4 ne d4]) := by rw [hw11]; exact Blk.new w10 30 _
      have hRz : MdR w11 P2 C2 C3 C4 (addM M more) := by
        have h9 := (RdS.own (own_old HO2.out hb11)).below (S' := fun _ => True) (fun _ _ => trivial)
        refine ⟨?_, HX11.out.globs, HX11.out.funcs, HX11.out.ents⟩
        show RdS _ _ _ (M.strs ++ more).length _ _
        rw [List.length_append, ← HLN.out.1, ← HLN.out.2]
        exact h9
      have hoz := HOz.out h10 w11 P2 C2 C3 C4 p2 d2 d3 d4 hRz
      have HOZ := Lib.hid hoz
      rw [← hw11]
      obtain ⟨gz, hgz⟩ : ∃ g, g = w10.heap.size := ⟨_, rfl⟩
      rw [← hgz] at KZ
      try simp only [← hgz]
      clear hw11 hgz hb11 hRz hoz hr1 hr2 n0 n1 n2 n3 z2 m0 m1 m2 m3 z1 HO2 KX10 HB10 KX8 KE8 KY KF HX8 HY8 HB8 HB11 HMo HLN
      obtain ⟨m0, m1, m2, m3⟩ := KZ.out.c4
      have z1 : gz < w11.heap.size := KZ.out.lt
      go_wp2_with fail
      refine (HOZ.out).mono ?_
      rintro e w12 ⟨U1, v1, U2, v2, U3, v3, U4, v4, rfl, hR12, _, hb12⟩
      have HB12 := Lib.hid (HBw.out.trans (hb12.mono HBw.out.size))
      have KX12 := KX11.out.old hb12
      have KE12 := KE11.out.old hb12
      have KY12 := KY11.out.old hb12
      have hX12 := HX11.out.old hb12
      have hY12 := HY11.out.old hb12
      dsimp only
      obtain ⟨w13, hw13⟩ : ∃ w13, w13 = (w12.alloc (.cells #[.slice U1 ls v1, .slice U2 ng v2, .slice U3 nf v3, .slice U4 ne v4] 30)).alloc (.cells #[.int .i64 0, .int .i64 0, .int .i64 0, .int .i64 0, .int .i64 0, .int .i64 (-1), .int .i64 (-1)] 35) := ⟨_, rfl⟩
      have hb13 : Below w12.heap.size w12 w13 := by rw [hw13]; exact ((Below.refl _ _).alloc (Nat.le_refl _) _).alloc (by simp) _
      have HB13 := Lib.hid (HB12.out.trans (hb13.mono HB12.out.size))
      have KX13 := Lib.hid (KX12.old hb13)
      have KE13 := Lib.hid (KE12.old hb13)
      have KY13 := Lib.hid (KY12.old hb13)
      have HX13 := Lib.hid (hX12.old hb13)
      have HY13 := Lib.hid (hY12.old hb13)
      have HU13 := Lib.hid (hR12.old hb13)
      have KU : Hid (Blk w13 w12.heap.size 30 #[.slice U1 ls v1, .slice U2 ng v2, .slice U3 nf v3, .slice U4 ne v4]) := by rw [hw13]; exact (Blk.new w12 30 _).alloc _
      have KG : Hid (Blk w13 (w12.heap.size + 1) 35 #[.int .i64 0, .int .i64 0, .int .i64 0, .int .i64 0, .int .i64 0, .int .i64 (-1), .int .i64 (-1)]) := by rw [hw13]; exact Blk.new' _ 35 _ _ (by simp)
      have KF13 := Lib.hid ((KF11.out.old hb12).old hb13)
      go_upto_region 10 with (fail)
      rw [← hw13]
      obtain ⟨gu, hgu⟩ : ∃ g, g = w12.heap.size := ⟨_, rfl⟩
      rw [← hgu] at KU KG
      try simp only [← hgu]
      clear hw13 hgu hb13 hb12 hX12 hY12 hR12 KX12 KE12 KY12 KX11 KE11 KY11 KF11 HX11 HY11 HOZ m0 m1 m2 m3 z1 KZ HB12 HBw
      have hs1 := HSm.out w13 C1 C2 C3 C4 d1 d2 d3 d4 Y1 Y2 Y3 Y4 y1 y2 y3 y4 HX13.out HY13.out
      have HS1 := Lib.hid hs1
      clear hs1
      obtain ⟨m0, m1, m2, m3⟩ := KX13.out.c4
      have z1 : gx < w13.heap.size := KX13.out.lt
      obtain ⟨e0, e1, e2, e3, e4, e5, e6⟩ := KE13.out.c7
      have z2 : gx + 1 < w13.heap.size := KE13.out.lt
      obtain ⟨n0, n1, n2, n3⟩ := KY13.out.c4
      have z3 : gy < w13.heap.size := KY13.out.lt
      obtain ⟨f0, f1, f2, f3, f4, f5, f6⟩ := KG.out.c7
      have z4 : gu + 1 < w13.heap.size := KG.out.lt
      obtain ⟨k0, k1, k2, k3, k4, k5, k6⟩ := KF13.out.c7
      have z5 : gy + 1 < w13.heap.size := KF13.out.lt
      go_wp2_with fail
      refine (HS1.out).mono ?_
      rintro e w14 ⟨rfl, hb14⟩
      have HB14 := Lib.hid (HB13.out.trans (hb14.mono HB13.out.size))
      have KX14 := Lib.hid (KX13.out.old hb14)
      have KU14 := Lib.hid (KU.out.old hb14)
      have hs2 := HSm.out w14 C1 C2 C3 C4 d1 d2 d3 d4 U1 U2 U3 U4 v1 v2 v3 v4 (HX13.out.old hb14) (HU13.out.old hb14)
      have HS2 := Lib.hid hs2
      clear hs2 hb14 m0 m1 m2 m3 z1 e0 e1 e2 e3 e4 e5 e6 z2 n0 n1 n2 n3 z3 f0 f1 f2 f3 f4 f5 f6 z4 k0 k1 k2 k3 k4 k5 k6 z5 HS1 HSm HX13 HY13 HU13 KX13 KU KY13 KE13 KF13 KG HB13
      obtain ⟨m0, m1, m2, m3⟩ := KX14.out.c4
      have z1 : gx < w14.heap.size := KX14.out.lt
      obtain ⟨n0, n1, n2, n3⟩ := KU14.out.c4
      have z3 : gu < w14.heap.size := KU14.out.lt
      go_wp2_with fail
      refine (HS2.out).mono ?_
      rintro e w15 ⟨rfl, hb15⟩
      have HB15 := Lib.hid (HB14.out.trans (hb15.mono HB14.out.size))
      go_wp2_with fail
      go_ret
      exact ⟨rfl, HB15.out⟩
end Go.Proofs.Ytpdebnecfknohaa
