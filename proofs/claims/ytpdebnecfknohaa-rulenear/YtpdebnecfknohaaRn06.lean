/-
  Parts: Zc.
-/
import Derived.Test.YtpdebnecfknohaaRn00
import Derived.Test.YtpdebnecfknohaaRn01
import Derived.Test.YtpdebnecfknohaaRn02
import Derived.Test.YtpdebnecfknohaaRn03
import Derived.Test.YtpdebnecfknohaaRn04
import Derived.Test.YtpdebnecfknohaaRn05
namespace Go.Proofs.Ytpdebnecfknohaa
open Go.RowKit
set_option linter.unusedVariables false
set_option maxRecDepth 20000
set_option linter.unusedSimpArgs false
/-- Rows of statements beside one another, between lo and B. -/
structure Bds (w : World) (lo B : Nat) (Vs : List Value) (Ts : List (List St7)) : Prop where
  lens : Vs.length = Ts.length
  rows : ∀ (i : Nat) (v : Value) (T : List St7), Vs[i]? = some v → Ts[i]? = some T → BdRow w lo (fun k => (lo ≤ k ∧ k < B) ∧ ∀ u ∈ Vs, some k ≠ u.ownBlock) v T
  hi : ∀ v ∈ Vs, ∀ k, some k = v.ownBlock → k < B
  apart : ∀ (i j : Nat) (v u : Value), i ≠ j → Vs[i]? = some v → Vs[j]? = some u → ∀ k, some k = v.ownBlock → some k ≠ u.ownBlock
theorem BdRow.lt {w : World} {base : Nat} {X : Nat → Prop} {v : Value} {T : List St7} (h : BdRow w base X v T) : BdRow w base (fun k => X k ∧ k < w.heap.size) v T := h.kept (fun _ _ => rfl) (fun _ _ _ => rfl) (fun _ h l => ⟨h, l⟩)
theorem Bds.kept {w w' : World} {lo B : Nat} {Vs : List Value} {Ts : List (List St7)} (h : Bds w lo B Vs Ts) (hk : ∀ k, lo ≤ k → k < B → w'.heap[k]? = w.heap[k]?) : Bds w' lo B Vs Ts := by
  refine ⟨h.lens, fun i v T hv hT => ?_, h.hi, h.apart⟩
  have hr := h.rows i v T hv hT
  exact hr.kept (fun k hk' => hk k (hr.blk k hk').1 (h.hi v (List.mem_of_getElem? hv) k hk')) (fun k hk' hlt => hk k hk'.1.1 hk'.1.2) (fun k hk' _ => hk')
section
variable {w W1 wr : World} {g n : Nat} {Vs : List Value} {Ts : List (List St7)}
theorem MkA.bds (h : MkA w W1 wr g n Vs Ts) : Bds wr W1.heap.size wr.heap.size Vs Ts := by
  refine ⟨by rw [h.lens.1, h.lens.2], fun i v T hv hT => ?_, fun v hv k hk => ?_, h.apart⟩
  · exact (h.bodies i v T hv hT).lt.kept (fun _ _ => rfl) (fun _ _ _ => rfl) (fun k hk _ => ⟨⟨hk.1.1, hk.2⟩, hk.1.2⟩)
  · obtain ⟨i, hi, rfl⟩ := List.mem_iff_getElem.1 hv
    exact (h.blk (List.getElem?_eq_getElem hi) k hk).2
theorem MkA.cellV (h : MkA w W1 wr g n Vs Ts) {b o j : Nat} {v : Value} (hb : g = b) (ho : 0 = o) (hj : j < n) (hv : wr.cell? ⟨b, o + j * 5 + 4, none⟩ = some v) : Vs[j]? = some v := by
  subst hb; subst ho
  obtain ⟨cur0, cur, b0, b1, hcs, hc⟩ := h.row
  rw [Nat.zero_add, b1.cell] at hv
  rw [← (hc j hj).1, hv]
end
theorem can_bodies (S : List (List UInt8)) (gl : List Int) (L : List Fn) (Ts : List (List St7)) (En : List Int) (hT : Ts.length = L.length) : ∀ i (h : i < (canM ⟨S, gl, fillB L Ts, En⟩).funcs.length), ∃ T, Ts[i]? = some T ∧ (canM ⟨S, gl, fillB L Ts, En⟩).funcs[i].body = bdOf T := fun i h => by
  have h1 : i < Ts.length := by
    have := h
    simp only [canM, List.length_map] at this
    rw [fillB_len _ _ hT] at this
    omega
  refine ⟨Ts[i], List.getElem?_eq_getElem h1, ?_⟩
  simp [canM, canFn, fillB]
/-- What a module leaves behind that was made: rows of its own, those of its bodies too. -/
def MkPostP (w : World) (M : Md) (e : Ending) (w' : World) : Prop :=
  ∃ Al cl A2 c2 Ax cx Ae ce lo B Vs Ts, e = .returned (.agg #[.slice Al M.strs.length cl, .slice A2 M.globs.length c2, .slice Ax M.funcs.length cx, .slice Ae M.ents.length ce]) ∧
    w'.ownsRow B 9 1 (.slice Al M.strs.length cl) M.strs.length (strV M.strs) ∧
    w'.ownsRow B 3 1 (.slice A2 M.globs.length c2) M.globs.length (intV M.globs) ∧
    FnRowP (fun i v => Vs[i]? = some v) w' B (fun k => some k ≠ (Value.slice Al M.strs.length cl).ownBlock ∧ (some k ≠ (Value.slice A2 M.globs.length c2).ownBlock ∧ B ≤ k)) (fun _ => True) (.slice Ax M.funcs.length cx) M.funcs ∧
    w'.ownsRow w.heap.size 3 1 (.slice Ae M.ents.length ce) M.ents.length (intV M.ents) ∧ Below w.heap.size w w' ∧
    w.heap.size + 2 ≤ lo ∧ lo ≤ B ∧ (∀ k, some k = (Value.slice Ae M.ents.length ce).ownBlock → k < lo) ∧ Bds w' lo B Vs Ts ∧ ∀ i (h : i < M.funcs.length), ∃ T, Ts[i]? = some T ∧ M.funcs[i].body = bdOf T
theorem make_endP {w wr w3 : World} {M : Md} {Al A2 Ax Ae : Option Addr} {cl c2 cx ce B3 ne lo : Nat} {Vs : List Value} {Ts : List (List St7)} (hb : Below w.heap.size w wr) (hs : w.heap.size + 1 + 1 + 1 ≤ wr.heap.size) (hB3 : w.heap.size + 1 + 1 + 1 ≤ B3) (hne : ne = M.ents.length) (hEn : wr.ownsRow B3 3 1 (.slice Ae ne ce) ne (intV M.ents))
    (h1 : w3.ownsRow wr.heap.size 9 1 (.slice Al (canM M).strs.length cl) (canM M).strs.length (strV (canM M).strs))
    (h2 : w3.ownsRow wr.heap.size 3 1 (.slice A2 (canM M).globs.length c2) (canM M).globs.length (intV (canM M).globs))
    (h3 : FnRowP (fun i v => Vs[i]? = some v) w3 wr.heap.size (fun k => some k ≠ (Value.slice Al (canM M).strs.length cl).ownBlock ∧ (some k ≠ (Value.slice A2 (canM M).globs.length c2).ownBlock ∧ wr.heap.size ≤ k)) (fun k => some k ≠ (Value.slice Al (canM M).strs.length cl).ownBlock ∧ (w.heap.size + 1 + 1 + 1 ≤ k ∧ k < wr.heap.size)) (.slice Ax (canM M).funcs.length cx) (canM M).funcs) (h4 : Below wr.heap.size wr w3)
    (hlo : w.heap.size + 1 + 1 + 1 ≤ lo ∧ lo ≤ wr.heap.size) (hAe : ∀ k, some k = (Value.slice Ae ne ce).ownBlock → k < lo) (hBd : Bds wr lo wr.heap.size Vs Ts) (hTs : ∀ i (h : i < (canM M).funcs.length), ∃ T, Ts[i]? = some T ∧ (canM M).funcs[i].body = bdOf T)
    {v0 v1 v2 v3 : Value} {wf : World} (hwf : wf = (((w3.setCell ⟨w.heap.size + 1, 0, none⟩ v0).setCell ⟨w.heap.size + 1, 1, none⟩ v1).setCell ⟨w.heap.size + 1, 2, none⟩ v2).setCell ⟨w.heap.size + 1, 3, none⟩ v3) :
    MkPostP w (canM M) (.returned (.agg #[.slice Al (canM M).strs.length cl, .slice A2 (canM M).globs.length c2, .slice Ax (canM M).funcs.length cx, .slice Ae ne ce])) wf := by
  have hk : ∀ k, k ≠ w.heap.size + 1 → wf.heap[k]? = w3.heap[k]? := fun k hk => by rw [hwf]; exact set4_far _ _ _ _ hk
  have ho : ∀ {base e m c : Nat} {A : Option Addr} {xs : List Value}, w.heap.size + 1 + 1 + 1 ≤ base → w3.ownsRow base e 1 (.slice A m c) m xs → wf.ownsRow base e 1 (.slice A m c) m xs := fun hbs h => own_blocks h (fun k hk' => hk k (by have := own_ge h k hk'; omega))
  subst hne
  refine ⟨Al, cl, A2, c2, Ax, cx, Ae, ce, lo, wr.heap.size, Vs, Ts, rfl, ho hs h1, ho hs h2, ?_, own_base (ho hB3 (own_old hEn h4)) (by omega), ?_, by omega, hlo.2, hAe, ?_, hTs⟩
  · exact h3.kept (fun k hk' => hk k (by have := (h3.blk k hk').1; omega)) (fun k hx _ => hk k (by rcases hx with h | h; (have := h.2.2; omega); (have := h.2.1; omega))) (fun k hx _ => hx) (fun _ _ _ => trivial)
  · rw [hwf]
    exact set4 (hb.trans (h4.mono (by omega))) (by omega) _ _ _ _
  · exact hBd.kept (fun k h5 h6 => by rw [hk k (by omega)]; exact h4.block k h6)
set_option maxRecDepth 20000 in
set_option maxHeartbeats 40000000 in
theorem make_anyP (G F E : Nat) (Aa : Option Addr) (na ca : Nat) (acts : List Ac) (w : World) (hG : G < 256) (hF : F < 256) (hE : E < 256) (hna : acts.length = na) (hacts : AcsAt w Aa acts) (hac : ∀ x ∈ acts, x.k < 256 ∧ x.a < 256 ∧ x.b < 256 ∧ x.c < 256) :
    Calls Try.prog 16 #[.agg #[.int .u8 (G : Int), .int .u8 (F : Int), .int .u8 (E : Int), .slice Aa na ca]] w (MkPostP w (canM (mkM (gnames (1 + G / 4 % 3) (G % 4)) (ints (G % 4)) F E acts))) := by
  have HNA := Lib.hid hna
  have HAC := Lib.hid hacts
  have HAB := Lib.hid hac
  clear hna hacts hac
  have HB0 : Hid (Below w.heap.size w (((w.alloc (.cells #[.int .u8 (G : Int), .int .u8 (F : Int), .int .u8 (E : Int), .slice Aa na ca] 24)).alloc (.cells #[.slice none 0 0, .slice none 0 0, .slice none 0 0, .slice none 0 0] 30)).alloc (.cells #[.slice none 0 0, .slice none 0 0, .slice none 0 0, .slice none 0 0] 30))) := (((Below.refl _ _).alloc (Nat.le_refl _) _).alloc (by simp) _).alloc (by simp; omega) _
  have KD : Hid (Blk (((w.alloc (.cells #[.int .u8 (G : Int), .int .u8 (F : Int), .int .u8 (E : Int), .slice Aa na ca] 24)).alloc (.cells #[.slice none 0 0, .slice none 0 0, .slice none 0 0, .slice none 0 0] 30)).alloc (.cells #[.slice none 0 0, .slice none 0 0, .slice none 0 0, .slice none 0 0] 30)) w.heap.size 24 #[.int .u8 (G : Int), .int .u8 (F : Int), .int .u8 (E : Int), .slice Aa na ca]) := ((Blk.new w 24 _).alloc _).alloc _
  have KR : Hid (Blk (((w.alloc (.cells #[.int .u8 (G : Int), .int .u8 (F : Int), .int .u8 (E : Int), .slice Aa na ca] 24)).alloc (.cells #[.slice none 0 0, .slice none 0 0, .slice none 0 0, .slice none 0 0] 30)).alloc (.cells #[.slice none 0 0, .slice none 0 0, .slice none 0 0, .slice none 0 0] 30)) (w.heap.size + 1) 30 #[.slice none 0 0, .slice none 0 0, .slice none 0 0, .slice none 0 0]) := (Blk.new' _ 30 _ _ (by simp)).alloc _
  have KM : Hid (Blk (((w.alloc (.cells #[.int .u8 (G : Int), .int .u8 (F : Int), .int .u8 (E : Int), .slice Aa na ca] 24)).alloc (.cells #[.slice none 0 0, .slice none 0 0, .slice none 0 0, .slice none 0 0] 30)).alloc (.cells #[.slice none 0 0, .slice none 0 0, .slice none 0 0, .slice none 0 0] 30)) (w.heap.size + 1 + 1) 30 #[.slice none 0 0, .slice none 0 0, .slice none 0 0, .slice none 0 0]) := Blk.new' _ 30 _ _ (by simp)
  obtain ⟨ng, hng⟩ : ∃ ng, ng = G % 4 := ⟨_, rfl⟩
  obtain ⟨st, hst⟩ : ∃ st, st = 1 + G / 4 % 3 := ⟨_, rfl⟩
  have g4 : (G : Int) % 4 = (ng : Int) := by omega
  have gst : 1 + (G : Int) / 4 % 3 = (st : Int) := by omega
  have hng4 : ng < 4 := by omega
  have hst4 : st < 4 := by omega
  rw [← hng, ← hst]
  have hsz0 : (((w.alloc (.cells #[.int .u8 (G : Int), .int .u8 (F : Int), .int .u8 (E : Int), .slice Aa na ca] 24)).alloc (.cells #[.slice none 0 0, .slice none 0 0, .slice none 0 0, .slice none 0 0] 30)).alloc (.cells #[.slice none 0 0, .slice none 0 0, .slice none 0 0, .slice none 0 0] 30)).heap.size = w.heap.size + 1 + 1 + 1 := by simp
  clear hng hst
  go_enter Try.func16, Try.ntmps16
  go_wp2_with fail
  generalize (((w.alloc (.cells #[.int .u8 (G : Int), .int .u8 (F : Int), .int .u8 (E : Int), .slice Aa na ca] 24)).alloc (.cells #[.slice none 0 0, .slice none 0 0, .slice none 0 0, .slice none 0 0] 30)).alloc (.cells #[.slice none 0 0, .slice none 0 0, .slice none 0 0, .slice none 0 0] 30)) = W0 at *
  go_loopw [4, 6] (fun s4 s6 wr => ∃ (i cs cg : Nat) (As Ag : Option Addr), i ≤ ng ∧ s6 = .int .i64 (i : Int) ∧ s4 = .int .i64 ((i * st : Nat) : Int) ∧ Hid (Below w.heap.size w wr ∧ Blk wr w.heap.size 24 #[.int .u8 (G : Int), .int .u8 (F : Int), .int .u8 (E : Int), .slice Aa na ca] ∧ Blk wr (w.heap.size + 1) 30 #[.slice none 0 0, .slice none 0 0, .slice none 0 0, .slice none 0 0] ∧ Blk wr (w.heap.size + 1 + 1) 30 #[.slice As i cs, .slice Ag i cg, .slice none 0 0, .slice none 0 0] ∧ wr.ownsRow (w.heap.size + 1 + 1 + 1) 9 1 (.slice As i cs) i (strV (gnames st i)) ∧ wr.ownsRow (w.heap.size + 1 + 1 + 1) 3 1 (.slice Ag i cg) i (intV (ints i)))) (fun _ s6 _ => ng - (intOf s6).toNat)
  case atStart => exact ⟨0, 0, 0, none, none, Nat.zero_le _, rfl, by simp, HB0.out, KD.out, KR.out, KM.out, ⟨rfl, .inl ⟨rfl, rfl⟩⟩, ⟨rfl, .inl ⟨rfl, rfl⟩⟩⟩
  case round =>
    obtain ⟨i, cs, cg, As, Ag, hi, rfl, rfl, hI⟩ := hrel
    obtain ⟨hbel, hD, hR, hMb, hOs, hOg⟩ := hI.out
    have zM : w.heap.size + 1 + 1 < wr.heap.size := hMb.lt
    have zD : w.heap.size < wr.heap.size := hD.lt
    have zB : w.heap.size + 1 + 1 + 1 ≤ wr.heap.size := by omega
    obtain ⟨d0, d1, d2, d3⟩ := hD.c4
    by_cases hlt : i < ng
    · have hist : i * st ≤ 3 * 3 := Nat.mul_le_mul (by omega) (by omega)
      have c0 : wr.cell? ⟨w.heap.size + 1 + 1, 0, none⟩ = some (.slice As i cs) := hMb.cell 0
      have H20 : Hid (Calls Try.prog 32 #[.int .i64 ((i * st : Nat) : Int)] wr.drew fun e w3 => e = .returned (.string (bs (nameF (i * st)))) ∧ _) :=
        (name_any (i * st) wr.drew (by omega)).mono (fun e w3 ⟨he, hb3⟩ => ⟨he, row_step (j := 0) 9 26 16 (.string ⟨#[]⟩) Try.underlying26 info9 rfl (by decide) (.string (bs (nameF (i * st)))) rfl ((Below.refl _ wr).drew.trans hb3) hMb (by decide) rfl hOs (by omega) zB⟩)
      have HMul : Hid (((i * st : Nat) : Int) + (st : Int) = (((i + 1) * st : Nat) : Int)) := by show _ = _; rw [Nat.succ_mul]; omega
      have HX := Lib.hid (And.intro hbel (And.intro hD (And.intro hR (And.intro hMb (And.intro hOs hOg)))))
      have HNm := Lib.hid (show nameF (i * st) = nameF (i * st) from rfl)
      clear hbel hR hMb hOs hOg hI
      obtain ⟨kk, hkk⟩ : ∃ kk, kk = i * st := ⟨_, rfl⟩
      have HKK : Hid (i * st = kk) := hkk.symm
      rw [← hkk] at H20 HMul hist HNm
      rw [← hkk]
      clear hkk
      go_upto_region 7 with (fail)
      refine wp_region_held_drew (S := (fun W => True)) (by kernel_rfl) trivial (fun hHeld => ?_)
      refine wpAnyH_take (i := 0) (oi := ⟨_, _, _, _, _, _⟩) (v := ?_) rfl (by kernel_rfl) (by kernel_rfl) (by kernel_rfl) (fun _ _ _ h => h) (Or.inl ⟨by rfl, ?_⟩) (by assumption) ?_
      rotate_left
      · (intro W hSW; (try dsimp only at hSW); go_simp; first | done | with_reducible rfl)
      try simp only [Act.put, List.setIfInBounds_toArray, List.set_cons_zero, List.set_cons_succ]
      refine wpAnyH_take (i := 2) (oi := ⟨_, _, _, _, _, _⟩) (v := ?_) rfl (by kernel_rfl) (by kernel_rfl) (by kernel_rfl) (fun _ _ _ h => h) (Or.inl ⟨by rfl, ?_⟩) (by assumption) ?_
      rotate_left
      · (intro W hSW; (try dsimp only at hSW); go_simp; first | done | with_reducible rfl)
      try simp only [Act.put, List.setIfInBounds_toArray, List.set_cons_zero, List.set_cons_succ]
      refine wpAnyH_ready (rs := [1, 3]) (by kernel_rfl) (by simp) ?_
      refine AllReadyH.cons (o := ⟨_, _, _, _, _, _⟩) rfl (fun KQ hKQ => ?_) (AllReadyH.cons (o := ⟨_, _, _, _, _, _⟩) rfl (fun KQ hKQ => ?_) AllReadyH.nil)
      · go_simp
        refine hKQ.out _ _ hHeld (fun _ => ?_)
        clear hKQ KQ
        try simp only [Act.put, List.setIfInBounds_toArray, List.set_cons_zero, List.set_cons_succ]
        refine wpAnyH_ready (rs := [3]) (by kernel_rfl) (by simp) ?_
        refine AllReadyH.cons (o := ⟨_, _, _, _, _, _⟩) rfl (fun KQ hKQ => ?_) AllReadyH.nil
        go_simp
        refine H20.out.mono ?_
        rintro e w3 ⟨rfl, q5, c5, w5, hr5, k3, kz, k5, kf, HSO⟩
        have hS3 := trivial
        refine hKQ.out _ _ hS3 (fun _ => ?_)
        clear hKQ KQ
        try simp only [Act.put, List.setIfInBounds_toArray, List.set_cons_zero, List.set_cons_succ]
        refine wpAnyH_ready (rs := [4]) (by kernel_rfl) (by simp) ?_
        refine AllReadyH.cons (o := ⟨_, _, _, _, _, _⟩) rfl (fun KQ hKQ => ?_) AllReadyH.nil
        go_simp
        have hS4 := trivial
        refine hKQ.out _ _ hS4 (fun _ => ?_)
        clear hKQ KQ
        try simp only [Act.put, List.setIfInBounds_toArray, List.set_cons_zero, List.set_cons_succ]
        refine wpAnyH_ready (rs := [5]) (by kernel_rfl) (by simp) ?_
        refine AllReadyH.cons (o := ⟨_, _, _, _, _, _⟩) rfl (fun KQ hKQ => ?_) AllReadyH.nil
        refine step_append_run _ (by rfl) _ _ _ (by rfl) _ _ (by rfl) (by rfl) _ _ hr5 ?_
        have hS5 := trivial
        refine hKQ.out _ _ hS5 (fun _ => ?_)
        clear hKQ KQ
        try simp only [Act.put, List.setIfInBounds_toArray, List.set_cons_zero, List.set_cons_succ]
        refine wpAnyH_take (i := 6) (oi := ⟨_, _, _, _, _, _⟩) (v := ?_) rfl (by kernel_rfl) (by kernel_rfl) (by kernel_rfl) (fun _ _ _ h => h) (Or.inl ⟨by rfl, ?_⟩) (by assumption) ?_
        rotate_left
        · (intro W hSW; (try dsimp only at hSW); go_simp; first | done | with_reducible rfl)
        try simp only [Act.put, List.setIfInBounds_toArray, List.set_cons_zero, List.set_cons_succ]
        refine wpAnyH_ready (rs := [7]) (by kernel_rfl) (by simp) ?_
        refine AllReadyH.cons (o := ⟨_, _, _, _, _, _⟩) rfl (fun KQ hKQ => ?_) AllReadyH.nil
        go_simp
        refine hKQ.out _ _ (trivial) (fun _ => ?_)
        clear hKQ KQ
        try simp only [Act.put, List.setIfInBounds_toArray, List.set_cons_zero, List.set_cons_succ]
        refine wpAnyH_done (by kernel_rfl) ?_ _
        obtain ⟨hbel, hD, hR, hMb, hOs, hOg⟩ := HX.out
        have hSO := HSO.out
        clear hHeld hS3 hS4 hS5 hr5 k3 kz k5 kf d0 d1 d2 d3 c0 HSO
        generalize w5.setCell ⟨w.heap.size + 1 + 1, 0, none⟩ (.slice (some ⟨q5, 0, none⟩) (i + 1) c5) = wf at *
        have hMf : Blk wf (w.heap.size + 1 + 1) 30 #[.slice (some ⟨q5, 0, none⟩) (i + 1) c5, .slice Ag i cg, .slice none 0 0, .slice none 0 0] := hSO.box
        have hOgf := hSO.row hOs hMb hOg (by decide) (by decide)
        have hDf := hSO.blk hOs hD (by omega) (by decide)
        have hRf := hSO.blk hOs hR (by omega) (by decide)
        have hbf := hSO.bel _ _ hbel (by omega) (by omega) (by omega)
        have hOsf := hSO.own
        have zf : w.heap.size + 1 + 1 + 1 ≤ wf.heap.size := by have := hSO.size; omega
        obtain ⟨q6, c6, w6, hr6, _, k6z, k6, k6f, HSO6⟩ := row_step (j := 1) 3 27 8 (.int .i64 0) Try.underlying27 info3 rfl (by decide) (.int .i64 (i : Int)) rfl (Below.refl _ wf) hMf (by decide) rfl hOgf (by omega) zf
        have hSO6 := HSO6.out
        have hDg := hSO6.blk hOgf hDf (by omega) (by decide)
        have HFin : Hid (Below w.heap.size w (w6.setCell ⟨w.heap.size + 1 + 1, 1, none⟩ (.slice (some ⟨q6, 0, none⟩) (i + 1) c6)) ∧ Blk (w6.setCell ⟨w.heap.size + 1 + 1, 1, none⟩ (.slice (some ⟨q6, 0, none⟩) (i + 1) c6)) w.heap.size 24 #[.int .u8 (G : Int), .int .u8 (F : Int), .int .u8 (E : Int), .slice Aa na ca] ∧ Blk (w6.setCell ⟨w.heap.size + 1 + 1, 1, none⟩ (.slice (some ⟨q6, 0, none⟩) (i + 1) c6)) (w.heap.size + 1) 30 #[.slice none 0 0, .slice none 0 0, .slice none 0 0, .slice none 0 0] ∧ Blk (w6.setCell ⟨w.heap.size + 1 + 1, 1, none⟩ (.slice (some ⟨q6, 0, none⟩) (i + 1) c6)) (w.heap.size + 1 + 1) 30 #[.slice (some ⟨q5, 0, none⟩) (i + 1) c5, .slice (some ⟨q6, 0, none⟩) (i + 1) c6, .slice none 0 0, .slice none 0 0] ∧ (w6.setCell ⟨w.heap.size + 1 + 1, 1, none⟩ (.slice (some ⟨q6, 0, none⟩) (i + 1) c6)).ownsRow (w.heap.size + 1 + 1 + 1) 9 1 (.slice (some ⟨q5, 0, none⟩) (i + 1) c5) (i + 1) (strV (gnames st (i + 1))) ∧ (w6.setCell ⟨w.heap.size + 1 + 1, 1, none⟩ (.slice (some ⟨q6, 0, none⟩) (i + 1) c6)).ownsRow (w.heap.size + 1 + 1 + 1) 3 1 (.slice (some ⟨q6, 0, none⟩) (i + 1) c6) (i + 1) (intV (ints (i + 1)))) := ⟨hSO6.bel _ _ hbf (by omega) (by omega) (by omega), hDg, hSO6.blk hOgf hRf (by omega) (by decide), hSO6.box, (by rw [gnames_succ, HKK.out, strV_snoc]; exact hSO6.row hOgf hMf hOsf (by decide) (by decide)), (by rw [ints_succ, intV_snoc]; exact hSO6.own)⟩
        have e0 : w6.cell? ⟨w.heap.size, 0, none⟩ = some (.int .u8 (G : Int)) := (World.cell?_of_block (Below.heap_setCell w6 ⟨w.heap.size + 1 + 1, 1, none⟩ _ w.heap.size (by show _ ≠ w.heap.size + 1 + 1; omega)).symm).trans (hDg.cell 0)
        have m0 : wf.cell? ⟨w.heap.size + 1 + 1, 0, none⟩ = some (.slice (some ⟨q5, 0, none⟩) (i + 1) c5) := hMf.cell 0
        have m1 : wf.cell? ⟨w.heap.size + 1 + 1, 1, none⟩ = some (.slice Ag i cg) := hMf.cell 1
        clear hSO hSO6 HSO6 hMf hOgf hDf hRf hbf hOsf hDg hbel hD hR hMb hOs hOg
        go_upto_region 8 with (fail)
        go_wp2_with (at_builtin; refine Lib.wpList_append_run _ rfl _ _ 27 27 rfl _ _ rfl rfl _ _ hr6 ?_)
        go_roundw
        case rel => exact ⟨i + 1, c5, c6, _, _, by omega, by go_num, congrArg (Value.int .i64) HMul.out, HFin⟩
        case measure => simp [intOf]; omega
      · go_simp
        refine H20.out.mono ?_
        rintro e w3 ⟨rfl, q5, c5, w5, hr5, k3, kz, k5, kf, HSO⟩
        have hS3 := trivial
        refine hKQ.out _ _ hS3 (fun _ => ?_)
        clear hKQ KQ
        try simp only [Act.put, List.setIfInBounds_toArray, List.set_cons_zero, List.set_cons_succ]
        refine wpAnyH_ready (rs := [1, 4]) (by kernel_rfl) (by simp) ?_
        refine AllReadyH.cons (o := ⟨_, _, _, _, _, _⟩) rfl (fun KQ hKQ => ?_) (AllReadyH.cons (o := ⟨_, _, _, _, _, _⟩) rfl (fun KQ hKQ => ?_) AllReadyH.nil)
        · go_simp
          refine hKQ.out _ _ hS3 (fun _ => ?_)
          clear hKQ KQ
          try simp only [Act.put, List.setIfInBounds_toArray, List.set_cons_zero, List.set_cons_succ]
          refine wpAnyH_ready (rs := [4]) (by kernel_rfl) (by simp) ?_
          refine AllReadyH.cons (o := ⟨_, _, _, _, _, _⟩) rfl (fun KQ hKQ => ?_) AllReadyH.nil
          go_simp
          have hS4 := trivial
          refine hKQ.out _ _ hS4 (fun _ => ?_)
          clear hKQ KQ
          try simp only [Act.put, List.setIfInBounds_toArray, List.set_cons_zero, List.set_cons_succ]
          refine wpAnyH_ready (rs := [5]) (by kernel_rfl) (by simp) ?_
          refine AllReadyH.cons (o := ⟨_, _, _, _, _, _⟩) rfl (fun KQ hKQ => ?_) AllReadyH.nil
          refine step_append_run _ (by rfl) _ _ _ (by rfl) _ _ (by rfl) (by rfl) _ _ hr5 ?_
          have hS5 := trivial
          refine hKQ.out _ _ hS5 (fun _ => ?_)
          clear hKQ KQ
          try simp only [Act.put, List.setIfInBounds_toArray, List.set_cons_zero, List.set_cons_succ]
          refine wpAnyH_take (i := 6) (oi := ⟨_, _, _, _, _, _⟩) (v := ?_) rfl (by kernel_rfl) (by kernel_rfl) (by kernel_rfl) (fun _ _ _ h => h) (Or.inl ⟨by rfl, ?_⟩) (by assumption) ?_
          rotate_left
          · (intro W hSW; (try dsimp only at hSW); go_simp; first | done | with_reducible rfl)
          try simp only [Act.put, List.setIfInBounds_toArray, List.set_cons_zero, List.set_cons_succ]
          refine wpAnyH_ready (rs := [7]) (by kernel_rfl) (by simp) ?_
          refine AllReadyH.cons (o := ⟨_, _, _, _, _, _⟩) rfl (fun KQ hKQ => ?_) AllReadyH.nil
          go_simp
          refine hKQ.out _ _ (trivial) (fun _ => ?_)
          clear hKQ KQ
          try simp only [Act.put, List.setIfInBounds_toArray, List.set_cons_zero, List.set_cons_succ]
          refine wpAnyH_done (by kernel_rfl) ?_ _
          obtain ⟨hbel, hD, hR, hMb, hOs, hOg⟩ := HX.out
          have hSO := HSO.out
          clear hHeld hS3 hS4 hS5 hr5 k3 kz k5 kf d0 d1 d2 d3 c0 HSO
          generalize w5.setCell ⟨w.heap.size + 1 + 1, 0, none⟩ (.slice (some ⟨q5, 0, none⟩) (i + 1) c5) = wf at *
          have hMf : Blk wf (w.heap.size + 1 + 1) 30 #[.slice (some ⟨q5, 0, none⟩) (i + 1) c5, .slice Ag i cg, .slice none 0 0, .slice none 0 0] := hSO.box
          have hOgf := hSO.row hOs hMb hOg (by decide) (by decide)
          have hDf := hSO.blk hOs hD (by omega) (by decide)
          have hRf := hSO.blk hOs hR (by omega) (by decide)
          have hbf := hSO.bel _ _ hbel (by omega) (by omega) (by omega)
          have hOsf := hSO.own
          have zf : w.heap.size + 1 + 1 + 1 ≤ wf.heap.size := by have := hSO.size; omega
          obtain ⟨q6, c6, w6, hr6, _, k6z, k6, k6f, HSO6⟩ := row_step (j := 1) 3 27 8 (.int .i64 0) Try.underlying27 info3 rfl (by decide) (.int .i64 (i : Int)) rfl (Below.refl _ wf) hMf (by decide) rfl hOgf (by omega) zf
          have hSO6 := HSO6.out
          have hDg := hSO6.blk hOgf hDf (by omega) (by decide)
          have HFin : Hid (Below w.heap.size w (w6.setCell ⟨w.heap.size + 1 + 1, 1, none⟩ (.slice (some ⟨q6, 0, none⟩) (i + 1) c6)) ∧ Blk (w6.setCell ⟨w.heap.size + 1 + 1, 1, none⟩ (.slice (some ⟨q6, 0, none⟩) (i + 1) c6)) w.heap.size 24 #[.int .u8 (G : Int), .int .u8 (F : Int), .int .u8 (E : Int), .slice Aa na ca] ∧ Blk (w6.setCell ⟨w.heap.size + 1 + 1, 1, none⟩ (.slice (some ⟨q6, 0, none⟩) (i + 1) c6)) (w.heap.size + 1) 30 #[.slice none 0 0, .slice none 0 0, .slice none 0 0, .slice none 0 0] ∧ Blk (w6.setCell ⟨w.heap.size + 1 + 1, 1, none⟩ (.slice (some ⟨q6, 0, none⟩) (i + 1) c6)) (w.heap.size + 1 + 1) 30 #[.slice (some ⟨q5, 0, none⟩) (i + 1) c5, .slice (some ⟨q6, 0, none⟩) (i + 1) c6, .slice none 0 0, .slice none 0 0] ∧ (w6.setCell ⟨w.heap.size + 1 + 1, 1, none⟩ (.slice (some ⟨q6, 0, none⟩) (i + 1) c6)).ownsRow (w.heap.size + 1 + 1 + 1) 9 1 (.slice (some ⟨q5, 0, none⟩) (i + 1) c5) (i + 1) (strV (gnames st (i + 1))) ∧ (w6.setCell ⟨w.heap.size + 1 + 1, 1, none⟩ (.slice (some ⟨q6, 0, none⟩) (i + 1) c6)).ownsRow (w.heap.size + 1 + 1 + 1) 3 1 (.slice (some ⟨q6, 0, none⟩) (i + 1) c6) (i + 1) (intV (ints (i + 1)))) := ⟨hSO6.bel _ _ hbf (by omega) (by omega) (by omega), hDg, hSO6.blk hOgf hRf (by omega) (by decide), hSO6.box, (by rw [gnames_succ, HKK.out, strV_snoc]; exact hSO6.row hOgf hMf hOsf (by decide) (by decide)), (by rw [ints_succ, intV_snoc]; exact hSO6.own)⟩
          have e0 : w6.cell? ⟨w.heap.size, 0, none⟩ = some (.int .u8 (G : Int)) := (World.cell?_of_block (Below.heap_setCell w6 ⟨w.heap.size + 1 + 1, 1, none⟩ _ w.heap.size (by show _ ≠ w.heap.size + 1 + 1; omega)).symm).trans (hDg.cell 0)
          have m0 : wf.cell? ⟨w.heap.size + 1 + 1, 0, none⟩ = some (.slice (some ⟨q5, 0, none⟩) (i + 1) c5) := hMf.cell 0
          have m1 : wf.cell? ⟨w.heap.size + 1 + 1, 1, none⟩ = some (.slice Ag i cg) := hMf.cell 1
          clear hSO hSO6 HSO6 hMf hOgf hDf hRf hbf hOsf hDg hbel hD hR hMb hOs hOg
          go_upto_region 8 with (fail)
          go_wp2_with (at_builtin; refine Lib.wpList_append_run _ rfl _ _ 27 27 rfl _ _ rfl rfl _ _ hr6 ?_)
          go_roundw
          case rel => exact ⟨i + 1, c5, c6, _, _, by omega, by go_num, congrArg (Value.int .i64) HMul.out, HFin⟩
          case measure => simp [intOf]; omega
        · go_simp
          have hS4 := trivial
          refine hKQ.out _ _ hS4 (fun _ => ?_)
          clear hKQ KQ
          try simp only [Act.put, List.setIfInBounds_toArray, List.set_cons_zero, List.set_cons_succ]
          refine wpAnyH_ready (rs := [1]) (by kernel_rfl) (by simp) ?_
          refine AllReadyH.cons (o := ⟨_, _, _, _, _, _⟩) rfl (fun KQ hKQ => ?_) AllReadyH.nil
          go_simp
          refine hKQ.out _ _ hS4 (fun _ => ?_)
          clear hKQ KQ
          try simp only [Act.put, List.setIfInBounds_toArray, List.set_cons_zero, List.set_cons_succ]
          refine wpAnyH_ready (rs := [5]) (by kernel_rfl) (by simp) ?_
          refine AllReadyH.cons (o := ⟨_, _, _, _, _, _⟩) rfl (fun KQ hKQ => ?_) AllReadyH.nil
          refine step_append_run _ (by rfl) _ _ _ (by rfl) _ _ (by rfl) (by rfl) _ _ hr5 ?_
          have hS5 := trivial
          refine hKQ.out _ _ hS5 (fun _ => ?_)
          clear hKQ KQ
          try simp only [Act.put, List.setIfInBounds_toArray, List.set_cons_zero, List.set_cons_succ]
          refine wpAnyH_take (i := 6) (oi := ⟨_, _, _, _, _, _⟩) (v := ?_) rfl (by kernel_rfl) (by kernel_rfl) (by kernel_rfl) (fun _ _ _ h => h) (Or.inl ⟨by rfl, ?_⟩) (by assumption) ?_
          rotate_left
          · (intro W hSW; (try dsimp only at hSW); go_simp; first | done | with_reducible rfl)
          try simp only [Act.put, List.setIfInBounds_toArray, List.set_cons_zero, List.set_cons_succ]
          refine wpAnyH_ready (rs := [7]) (by kernel_rfl) (by simp) ?_
          refine AllReadyH.cons (o := ⟨_, _, _, _, _, _⟩) rfl (fun KQ hKQ => ?_) AllReadyH.nil
          go_simp
          refine hKQ.out _ _ (trivial) (fun _ => ?_)
          clear hKQ KQ
          try simp only [Act.put, List.setIfInBounds_toArray, List.set_cons_zero, List.set_cons_succ]
          refine wpAnyH_done (by kernel_rfl) ?_ _
          obtain ⟨hbel, hD, hR, hMb, hOs, hOg⟩ := HX.out
          have hSO := HSO.out
          clear hHeld hS3 hS4 hS5 hr5 k3 kz k5 kf d0 d1 d2 d3 c0 HSO
          generalize w5.setCell ⟨w.heap.size + 1 + 1, 0, none⟩ (.slice (some ⟨q5, 0, none⟩) (i + 1) c5) = wf at *
          have hMf : Blk wf (w.heap.size + 1 + 1) 30 #[.slice (some ⟨q5, 0, none⟩) (i + 1) c5, .slice Ag i cg, .slice none 0 0, .slice none 0 0] := hSO.box
          have hOgf := hSO.row hOs hMb hOg (by decide) (by decide)
          have hDf := hSO.blk hOs hD (by omega) (by decide)
          have hRf := hSO.blk hOs hR (by omega) (by decide)
          have hbf := hSO.bel _ _ hbel (by omega) (by omega) (by omega)
          have hOsf := hSO.own
          have zf : w.heap.size + 1 + 1 + 1 ≤ wf.heap.size := by have := hSO.size; omega
          obtain ⟨q6, c6, w6, hr6, _, k6z, k6, k6f, HSO6⟩ := row_step (j := 1) 3 27 8 (.int .i64 0) Try.underlying27 info3 rfl (by decide) (.int .i64 (i : Int)) rfl (Below.refl _ wf) hMf (by decide) rfl hOgf (by omega) zf
          have hSO6 := HSO6.out
          have hDg := hSO6.blk hOgf hDf (by omega) (by decide)
          have HFin : Hid (Below w.heap.size w (w6.setCell ⟨w.heap.size + 1 + 1, 1, none⟩ (.slice (some ⟨q6, 0, none⟩) (i + 1) c6)) ∧ Blk (w6.setCell ⟨w.heap.size + 1 + 1, 1, none⟩ (.slice (some ⟨q6, 0, none⟩) (i + 1) c6)) w.heap.size 24 #[.int .u8 (G : Int), .int .u8 (F : Int), .int .u8 (E : Int), .slice Aa na ca] ∧ Blk (w6.setCell ⟨w.heap.size + 1 + 1, 1, none⟩ (.slice (some ⟨q6, 0, none⟩) (i + 1) c6)) (w.heap.size + 1) 30 #[.slice none 0 0, .slice none 0 0, .slice none 0 0, .slice none 0 0] ∧ Blk (w6.setCell ⟨w.heap.size + 1 + 1, 1, none⟩ (.slice (some ⟨q6, 0, none⟩) (i + 1) c6)) (w.heap.size + 1 + 1) 30 #[.slice (some ⟨q5, 0, none⟩) (i + 1) c5, .slice (some ⟨q6, 0, none⟩) (i + 1) c6, .slice none 0 0, .slice none 0 0] ∧ (w6.setCell ⟨w.heap.size + 1 + 1, 1, none⟩ (.slice (some ⟨q6, 0, none⟩) (i + 1) c6)).ownsRow (w.heap.size + 1 + 1 + 1) 9 1 (.slice (some ⟨q5, 0, none⟩) (i + 1) c5) (i + 1) (strV (gnames st (i + 1))) ∧ (w6.setCell ⟨w.heap.size + 1 + 1, 1, none⟩ (.slice (some ⟨q6, 0, none⟩) (i + 1) c6)).ownsRow (w.heap.size + 1 + 1 + 1) 3 1 (.slice (some ⟨q6, 0, none⟩) (i + 1) c6) (i + 1) (intV (ints (i + 1)))) := ⟨hSO6.bel _ _ hbf (by omega) (by omega) (by omega), hDg, hSO6.blk hOgf hRf (by omega) (by decide), hSO6.box, (by rw [gnames_succ, HKK.out, strV_snoc]; exact hSO6.row hOgf hMf hOsf (by decide) (by decide)), (by rw [ints_succ, intV_snoc]; exact hSO6.own)⟩
          have e0 : w6.cell? ⟨w.heap.size, 0, none⟩ = some (.int .u8 (G : Int)) := (World.cell?_of_block (Below.heap_setCell w6 ⟨w.heap.size + 1 + 1, 1, none⟩ _ w.heap.size (by show _ ≠ w.heap.size + 1 + 1; omega)).symm).trans (hDg.cell 0)
          have m0 : wf.cell? ⟨w.heap.size + 1 + 1, 0, none⟩ = some (.slice (some ⟨q5, 0, none⟩) (i + 1) c5) := hMf.cell 0
          have m1 : wf.cell? ⟨w.heap.size + 1 + 1, 1, none⟩ = some (.slice Ag i cg) := hMf.cell 1
          clear hSO hSO6 HSO6 hMf hOgf hDf hRf hbf hOsf hDg hbel hD hR hMb hOs hOg
          go_upto_region 8 with (fail)
          go_wp2_with (at_builtin; refine Lib.wpList_append_run _ rfl _ _ 27 27 rfl _ _ rfl rfl _ _ hr6 ?_)
          go_roundw
          case rel => exact ⟨i + 1, c5, c6, _, _, by omega, by go_num, congrArg (Value.int .i64) HMul.out, HFin⟩
          case measure => simp [intOf]; omega
    · obtain rfl : i = ng := by omega
      have HI0 : Hid (MkI w wr #[.int .u8 (G : Int), .int .u8 (F : Int), .int .u8 (E : Int), .slice Aa na ca] #[.slice none 0 0, .slice none 0 0, .slice none 0 0, .slice none 0 0] (gnames st i) (ints i) [] As i cs Ag i cg none 0 0) := ⟨hbel, hD, hR, hMb, ⟨gnames_len _ _, ints_len _, rfl⟩, hOs, hOg, FnRow.nil _ _ _, fun k hk => by simp [Value.ownBlock] at hk⟩
      obtain ⟨n, hn⟩ : ∃ n, n = 1 + F % 4 := ⟨_, rfl⟩
      have HN := Lib.hid hn
      have fn4 : 1 + (F : Int) % 4 = (n : Int) := by omega
      have hn5 : n < 5 := by omega
      have hn1 : 0 < n := by omega
      clear hn hbel hD hR hMb hOs hOg hI
      have hgl : (gnames st i).length = i := gnames_len _ _
      have HGL := Lib.hid hgl
      have HGL2 : Hid ((ints i).length = i ∧ ∀ x ∈ ints i, 0 ≤ x ∧ x < (i : Int)) := ⟨ints_len i, fun x hx => by simp only [ints, List.mem_map, List.mem_range] at hx; obtain ⟨t, ht, rfl⟩ := hx; omega⟩
      clear hgl
      generalize gnames st i = g0 at *
      generalize i * st = ist at *
      generalize ints i = gl at *
      go_wp2_with fail
      simp only [g4]
      clear d0 d1 d2 d3 g4 gst fn4
      obtain ⟨wo, hwo⟩ : ∃ wo, wo = wr := ⟨wr, rfl⟩
      subst hwo
      obtain ⟨As0, cs0, hAs0⟩ : ∃ As0 cs0, As0 = As ∧ cs0 = cs := ⟨_, _, rfl, rfl⟩
      go_loopw [5, 8] (fun s5 s8 wr => ∃ (k : Nat) (As : Option Addr) (ns cs : Nat) (Af : Option Addr) (cf : Nat), k ≤ n ∧ s8 = .int .i64 (k : Int) ∧ s5 = .int .i64 (k : Int) ∧ Hid (MkI w wr #[.int .u8 (G : Int), .int .u8 (F : Int), .int .u8 (E : Int), .slice Aa na ca] #[.slice none 0 0, .slice none 0 0, .slice none 0 0, .slice none 0 0] (mkS g0 F k) gl (mkL g0 F k) As ns cs Ag i cg Af k cf)) (fun _ s8 _ => n - (intOf s8).toNat)
      case atStart => exact ⟨0, As, i, cs, none, 0, Nat.zero_le _, rfl, rfl, HI0⟩
      case round =>
        clear HI0 hAs0
        obtain ⟨k, As, ns, cs, Af, cf, hk, rfl, rfl, hI⟩ := hrel
        by_cases hlt : k < n
        · have hns : ns ≤ i + 10 * k := by have h1 := hI.out.lens.1; have h2 := mkS_len g0 F k; have h3 := HGL.out; omega
          have zM : w.heap.size + 1 + 1 < wr.heap.size := hI.out.bm.lt
          have c0 : wr.cell? ⟨w.heap.size + 1 + 1, 0, none⟩ = some (.slice As ns cs) := hI.out.bm.cell 0
          have hc := conv_new wr [48 + (k : Int)] (by simp; omega) _ rfl 1 rfl
          simp only [List.map] at hc
          obtain ⟨S1, hS1⟩ : ∃ S1 : ByteArray, S1 = ⟨#[UInt8.ofNat (48 + (k : Int)).toNat]⟩ := ⟨_, rfl⟩
          rw [← hS1] at hc
          have hsz : S1.size ≤ 3 := by rw [hS1]; show _ ≤ 3; simp [ByteArray.size]
          have hx : bs (fnameF k) = ⟨#[102]⟩ ++ S1 := by rw [hS1, show (48 + (k : Int)).toNat = 48 + k from by omega]; rfl
          have HBA : Hid (Below wr.heap.size wr (wr.alloc (.cells #[.int .u8 (48 + (k : Int))] 5))) := (Below.refl _ _).alloc (Nat.le_refl _) _
          obtain ⟨q5, c5, w5, hr5, k3, kz, k5, kf, HI1⟩ := hI.out.addStr (by omega) (fnameF k) _ HBA.out
          rw [hx] at hr5
          simp only [alloc_sizeM] at hr5 kz
          clear hS1 hx HBA
          go_upto_region 15 with (at_builtin; refine Lib.wpList_append_run _ rfl _ _ 26 26 rfl _ _ rfl rfl _ _ hr5 ?_)
          have HNSL0 : Hid ((mkS g0 F k).length = ns) := hI.out.lens.1
          clear hr5 k3 kz k5 kf hc hsz c0 hI
          generalize w5.setCell ⟨w.heap.size + 1 + 1, 0, none⟩ (.slice (some ⟨q5, 0, none⟩) (ns + 1) c5) = w6 at *
          have zM6 : w.heap.size + 1 + 1 < w6.heap.size := HI1.out.bm.lt
          have zD6 : w.heap.size < w6.heap.size := HI1.out.bd.lt
          have c0 : w6.cell? ⟨w.heap.size + 1 + 1, 0, none⟩ = some (.slice (some ⟨q5, 0, none⟩) (ns + 1) c5) := HI1.out.bm.cell 0
          have d1 : w6.cell? ⟨w.heap.size, 1, none⟩ = some (.int .u8 (F : Int)) := HI1.out.bd.cell 1
          obtain ⟨p, hp⟩ : ∃ p, p = pF F k := ⟨_, rfl⟩
          have ep : ((k : Int) + (F : Int) / 4) % 4 = (p : Int) := by rw [hp]; unfold pF; omega
          have hp4 : p < 4 := by rw [hp]; unfold pF; omega
          have HP := Lib.hid hp
          have HJ0 := Lib.hid (HI1.out.begin (ns : Int) (p : Int))
          obtain ⟨NL, hNL⟩ : ∃ NL, NL = nlF F k := ⟨_, rfl⟩
          have eNL : (p : Int) + 1 + (k : Int) % 3 = (NL : Int) := by rw [hNL, hp]; unfold nlF; omega
          have hNL7 : NL < 7 := by rw [hNL]; unfold nlF; rw [← hp]; omega
          have HNL := Lib.hid hNL
          clear hp hNL
          go_upto_region 16 with (fail)
          clear ep c0 d1 HI1
          obtain ⟨q9, hq9⟩ : ∃ q9, q9 = w6.heap.size := ⟨_, rfl⟩
          rw [← hq9] at HJ0
          rw [← hq9]
          clear hq9
          generalize w6.alloc (.cells #[.int .i64 (ns : Int), .int .i64 (p : Int), .slice none 0 0, .slice none 0 0, .slice none 0 0] 40) = w7 at *
          obtain ⟨wq, hwq⟩ : ∃ wq, wq = wr := ⟨wr, rfl⟩
          subst hwq
          have HNSL : Hid ((mkS g0 F k).length = ns) := HNSL0
          go_wp2_with fail
          go_loopw [10] (fun sj wr => ∃ (j : Nat) (Ax : Option Addr) (nx cx : Nat) (Al : Option Addr) (cl : Nat), j ≤ NL ∧ sj = .int .i64 (j : Int) ∧ Hid (nx = ns + 1 + j) ∧ Hid (MkJ w wr #[.int .u8 (G : Int), .int .u8 (F : Int), .int .u8 (E : Int), .slice Aa na ca] #[.slice none 0 0, .slice none 0 0, .slice none 0 0, .slice none 0 0] q9 ((mkS g0 F k ++ [fnameF k]) ++ namesF 100 j) gl (mkL g0 F k) (ns : Int) (p : Int) (seqI (ns + 1) j) [] Ax nx cx Ag i cg Af k cf Al j cl none 0 0)) (fun sj _ => NL - (intOf sj).toNat)
          case atStart => exact ⟨0, _, _, _, none, 0, Nat.zero_le _, rfl, rfl, by simpa [namesF, seqI, Hid] using HJ0.out⟩
          case round =>
            obtain ⟨j, Ax, nx, cx, Al, cl, hj, rfl, hnx, hJ⟩ := hrel
            have zM : w.heap.size + 1 + 1 < wr.heap.size := hJ.out.bm.lt
            have b1 : wr.cell? ⟨q9, 1, none⟩ = some (.int .i64 (p : Int)) := hJ.out.bf.cell 1
            have hnx2 : nx ≤ 1000 := by have := hnx.out; omega
            by_cases hltj : j < NL
            · have c0 : wr.cell? ⟨w.heap.size + 1 + 1, 0, none⟩ = some (.slice Ax nx cx) := hJ.out.bm.cell 0
              have ew : IntKind.i64.wrap (100 + (j : Int)) = ((100 + j : Nat) : Int) := by rw [IntWalk.i64_in _ (by omega)]; omega
              have H20 : Hid (Calls Try.prog 32 #[.int .i64 ((100 + j : Nat) : Int)] wr.drew fun e w3 => e = .returned (.string (bs (nameF (100 + j)))) ∧ _) :=
                (name_any (100 + j) wr.drew (by omega)).mono (fun e w3 ⟨he, hb3⟩ => ⟨he, hJ.out.addStr (by omega) (nameF (100 + j)) w3 ((Below.refl _ wr).drew.trans hb3)⟩)
              go_upto_region 19 with (fail)
              refine wp_region_held_drew (S := (fun W => True)) (by kernel_rfl) trivial (fun hHeld => ?_)
              refine wpAnyH_take (i := 0) (oi := ⟨_, _, _, _, _, _⟩) (v := ?_) rfl (by kernel_rfl) (by kernel_rfl) (by kernel_rfl) (fun _ _ _ h => h) (Or.inl ⟨by rfl, ?_⟩) (by assumption) ?_
              rotate_left
              · (intro W hSW; (try dsimp only at hSW); go_simp; first | done | with_reducible rfl)
              try simp only [Act.put, List.setIfInBounds_toArray, List.set_cons_zero, List.set_cons_succ]
              refine wpAnyH_take (i := 2) (oi := ⟨_, _, _, _, _, _⟩) (v := ?_) rfl (by kernel_rfl) (by kernel_rfl) (by kernel_rfl) (fun _ _ _ h => h) (Or.inl ⟨by rfl, ?_⟩) (by assumption) ?_
              rotate_left
              · (intro W hSW; (try dsimp only at hSW); go_simp; first | done | with_reducible rfl)
              try simp only [Act.put, List.setIfInBounds_toArray, List.set_cons_zero, List.set_cons_succ]
              refine wpAnyH_take (i := 3) (oi := ⟨_, _, _, _, _, _⟩) (v := ?_) rfl (by kernel_rfl) (by kernel_rfl) (by kernel_rfl) (fun _ _ _ h => h) (Or.inl ⟨by rfl, ?_⟩) (by assumption) ?_
              rotate_left
              · (intro W hSW; (try dsimp only at hSW); go_simp; first | done | with_reducible rfl)
              try simp only [Act.put, List.setIfInBounds_toArray, List.set_cons_zero, List.set_cons_succ]
              refine wpAnyH_ready (rs := [1, 4]) (by kernel_rfl) (by simp) ?_
              refine AllReadyH.cons (o := ⟨_, _, _, _, _, _⟩) rfl (fun KQ hKQ => ?_) (AllReadyH.cons (o := ⟨_, _, _, _, _, _⟩) rfl (fun KQ hKQ => ?_) AllReadyH.nil)
              · go_simp
                refine hKQ.out _ _ hHeld (fun _ => ?_)
                clear hKQ KQ
                try simp only [Act.put, List.setIfInBounds_toArray, List.set_cons_zero, List.set_cons_succ]
                refine wpAnyH_ready (rs := [4]) (by kernel_rfl) (by simp) ?_
                refine AllReadyH.cons (o := ⟨_, _, _, _, _, _⟩) rfl (fun KQ hKQ => ?_) AllReadyH.nil
                go_simp
                refine H20.out.mono ?_
                rintro e w3 ⟨rfl, q6, c6, w5, hr5, k3, kz, k5, kf, HJ1⟩
                have hS3 := trivial
                refine hKQ.out _ _ hS3 (fun _ => ?_)
                clear hKQ KQ
                try simp only [Act.put, List.setIfInBounds_toArray, List.set_cons_zero, List.set_cons_succ]
                refine wpAnyH_ready (rs := [5]) (by kernel_rfl) (by simp) ?_
                refine AllReadyH.cons (o := ⟨_, _, _, _, _, _⟩) rfl (fun KQ hKQ => ?_) AllReadyH.nil
                go_simp
                have hS4 := trivial
                refine hKQ.out _ _ hS4 (fun _ => ?_)
                clear hKQ KQ
                try simp only [Act.put, List.setIfInBounds_toArray, List.set_cons_zero, List.set_cons_succ]
                refine wpAnyH_ready (rs := [6]) (by kernel_rfl) (by simp) ?_
                refine AllReadyH.cons (o := ⟨_, _, _, _, _, _⟩) rfl (fun KQ hKQ => ?_) AllReadyH.nil
                refine step_append_run _ (by rfl) _ _ _ (by rfl) _ _ (by rfl) (by rfl) _ _ hr5 ?_
                have hS5 := trivial
                refine hKQ.out _ _ hS5 (fun _ => ?_)
                clear hKQ KQ
                try simp only [Act.put, List.setIfInBounds_toArray, List.set_cons_zero, List.set_cons_succ]
                refine wpAnyH_take (i := 7) (oi := ⟨_, _, _, _, _, _⟩) (v := ?_) rfl (by kernel_rfl) (by kernel_rfl) (by kernel_rfl) (fun _ _ _ h => h) (Or.inl ⟨by rfl, ?_⟩) (by assumption) ?_
                rotate_left
                · (intro W hSW; (try dsimp only at hSW); go_simp; first | done | with_reducible rfl)
                try simp only [Act.put, List.setIfInBounds_toArray, List.set_cons_zero, List.set_cons_succ]
                refine wpAnyH_ready (rs := [8]) (by kernel_rfl) (by simp) ?_
                refine AllReadyH.cons (o := ⟨_, _, _, _, _, _⟩) rfl (fun KQ hKQ => ?_) AllReadyH.nil
                go_simp
                refine hKQ.out _ _ (trivial) (fun _ => ?_)
                clear hKQ KQ
                try simp only [Act.put, List.setIfInBounds_toArray, List.set_cons_zero, List.set_cons_succ]
                refine wpAnyH_done (by kernel_rfl) ?_ _
                have hJ1 := HJ1.out
                clear hHeld hS3 hS4 hS5 hr5 k3 kz k5 kf c0 b1 HJ1 ew
                generalize w5.setCell ⟨w.heap.size + 1 + 1, 0, none⟩ (.slice (some ⟨q6, 0, none⟩) (nx + 1) c6) = wf at *
                obtain ⟨q8, c8, w8, hr8, k8, k8f, HJ2⟩ := hJ1.addLoc (by omega) (nx : Int)
                have zf : w.heap.size + 1 + 1 < wf.heap.size := hJ1.bm.lt
                have zq : q9 < wf.heap.size := hJ1.bf.lt
                have m0 : wf.cell? ⟨w.heap.size + 1 + 1, 0, none⟩ = some (.slice (some ⟨q6, 0, none⟩) (nx + 1) c6) := hJ1.bm.cell 0
                have b2 : wf.cell? ⟨q9, 2, none⟩ = some (.slice Al j cl) := hJ1.bf.cell 2
                have HJ3 := HJ2
                clear hJ1 HJ2
                go_upto_region 20 with (fail)
                go_wp2_with (at_builtin; refine Lib.wpList_append_run _ rfl _ _ 27 27 rfl _ _ rfl rfl _ _ hr8 ?_)
                go_roundw
                case rel =>
                  refine ⟨j + 1, some ⟨q6, 0, none⟩, nx + 1, c6, some ⟨q8, 0, none⟩, c8, by omega, by go_num, (by show _ = _; have := hnx.out; omega), ?_⟩
                  have h := HJ3.out
                  rw [namesF_succ, seqI_succ, ← List.append_assoc, show ((ns + 1 + j : Nat) : Int) = (nx : Int) from by have := hnx.out; omega]
                  exact h
                case measure => simp [intOf]; omega
              · go_simp
                refine H20.out.mono ?_
                rintro e w3 ⟨rfl, q6, c6, w5, hr5, k3, kz, k5, kf, HJ1⟩
                have hS3 := trivial
                refine hKQ.out _ _ hS3 (fun _ => ?_)
                clear hKQ KQ
                try simp only [Act.put, List.setIfInBounds_toArray, List.set_cons_zero, List.set_cons_succ]
                refine wpAnyH_ready (rs := [1, 5]) (by kernel_rfl) (by simp) ?_
                refine AllReadyH.cons (o := ⟨_, _, _, _, _, _⟩) rfl (fun KQ hKQ => ?_) (AllReadyH.cons (o := ⟨_, _, _, _, _, _⟩) rfl (fun KQ hKQ => ?_) AllReadyH.nil)
                · go_simp
                  refine hKQ.out _ _ hS3 (fun _ => ?_)
                  clear hKQ KQ
                  try simp only [Act.put, List.setIfInBounds_toArray, List.set_cons_zero, List.set_cons_succ]
                  refine wpAnyH_ready (rs := [5]) (by kernel_rfl) (by simp) ?_
                  refine AllReadyH.cons (o := ⟨_, _, _, _, _, _⟩) rfl (fun KQ hKQ => ?_) AllReadyH.nil
                  go_simp
                  have hS4 := trivial
                  refine hKQ.out _ _ hS4 (fun _ => ?_)
                  clear hKQ KQ
                  try simp only [Act.put, List.setIfInBounds_toArray, List.set_cons_zero, List.set_cons_succ]
                  refine wpAnyH_ready (rs := [6]) (by kernel_rfl) (by simp) ?_
                  refine AllReadyH.cons (o := ⟨_, _, _, _, _, _⟩) rfl (fun KQ hKQ => ?_) AllReadyH.nil
                  refine step_append_run _ (by rfl) _ _ _ (by rfl) _ _ (by rfl) (by rfl) _ _ hr5 ?_
                  have hS5 := trivial
                  refine hKQ.out _ _ hS5 (fun _ => ?_)
                  clear hKQ KQ
                  try simp only [Act.put, List.setIfInBounds_toArray, List.set_cons_zero, List.set_cons_succ]
                  refine wpAnyH_take (i := 7) (oi := ⟨_, _, _, _, _, _⟩) (v := ?_) rfl (by kernel_rfl) (by kernel_rfl) (by kernel_rfl) (fun _ _ _ h => h) (Or.inl ⟨by rfl, ?_⟩) (by assumption) ?_
                  rotate_left
                  · (intro W hSW; (try dsimp only at hSW); go_simp; first | done | with_reducible rfl)
                  try simp only [Act.put, List.setIfInBounds_toArray, List.set_cons_zero, List.set_cons_succ]
                  refine wpAnyH_ready (rs := [8]) (by kernel_rfl) (by simp) ?_
                  refine AllReadyH.cons (o := ⟨_, _, _, _, _, _⟩) rfl (fun KQ hKQ => ?_) AllReadyH.nil
                  go_simp
                  refine hKQ.out _ _ (trivial) (fun _ => ?_)
                  clear hKQ KQ
                  try simp only [Act.put, List.setIfInBounds_toArray, List.set_cons_zero, List.set_cons_succ]
                  refine wpAnyH_done (by kernel_rfl) ?_ _
                  have hJ1 := HJ1.out
                  clear hHeld hS3 hS4 hS5 hr5 k3 kz k5 kf c0 b1 HJ1 ew
                  generalize w5.setCell ⟨w.heap.size + 1 + 1, 0, none⟩ (.slice (some ⟨q6, 0, none⟩) (nx + 1) c6) = wf at *
                  obtain ⟨q8, c8, w8, hr8, k8, k8f, HJ2⟩ := hJ1.addLoc (by omega) (nx : Int)
                  have zf : w.heap.size + 1 + 1 < wf.heap.size := hJ1.bm.lt
                  have zq : q9 < wf.heap.size := hJ1.bf.lt
                  have m0 : wf.cell? ⟨w.heap.size + 1 + 1, 0, none⟩ = some (.slice (some ⟨q6, 0, none⟩) (nx + 1) c6) := hJ1.bm.cell 0
                  have b2 : wf.cell? ⟨q9, 2, none⟩ = some (.slice Al j cl) := hJ1.bf.cell 2
                  have HJ3 := HJ2
                  clear hJ1 HJ2
                  go_upto_region 20 with (fail)
                  go_wp2_with (at_builtin; refine Lib.wpList_append_run _ rfl _ _ 27 27 rfl _ _ rfl rfl _ _ hr8 ?_)
                  go_roundw
                  case rel =>
                    refine ⟨j + 1, some ⟨q6, 0, none⟩, nx + 1, c6, some ⟨q8, 0, none⟩, c8, by omega, by go_num, (by show _ = _; have := hnx.out; omega), ?_⟩
                    have h := HJ3.out
                    rw [namesF_succ, seqI_succ, ← List.append_assoc, show ((ns + 1 + j : Nat) : Int) = (nx : Int) from by have := hnx.out; omega]
                    exact h
                  case measure => simp [intOf]; omega
                · go_simp
                  have hS4 := trivial
                  refine hKQ.out _ _ hS4 (fun _ => ?_)
                  clear hKQ KQ
                  try simp only [Act.put, List.setIfInBounds_toArray, List.set_cons_zero, List.set_cons_succ]
                  refine wpAnyH_ready (rs := [1]) (by kernel_rfl) (by simp) ?_
                  refine AllReadyH.cons (o := ⟨_, _, _, _, _, _⟩) rfl (fun KQ hKQ => ?_) AllReadyH.nil
                  go_simp
                  refine hKQ.out _ _ hS4 (fun _ => ?_)
                  clear hKQ KQ
                  try simp only [Act.put, List.setIfInBounds_toArray, List.set_cons_zero, List.set_cons_succ]
                  refine wpAnyH_ready (rs := [6]) (by kernel_rfl) (by simp) ?_
                  refine AllReadyH.cons (o := ⟨_, _, _, _, _, _⟩) rfl (fun KQ hKQ => ?_) AllReadyH.nil
                  refine step_append_run _ (by rfl) _ _ _ (by rfl) _ _ (by rfl) (by rfl) _ _ hr5 ?_
                  have hS5 := trivial
                  refine hKQ.out _ _ hS5 (fun _ => ?_)
                  clear hKQ KQ
                  try simp only [Act.put, List.setIfInBounds_toArray, List.set_cons_zero, List.set_cons_succ]
                  refine wpAnyH_take (i := 7) (oi := ⟨_, _, _, _, _, _⟩) (v := ?_) rfl (by kernel_rfl) (by kernel_rfl) (by kernel_rfl) (fun _ _ _ h => h) (Or.inl ⟨by rfl, ?_⟩) (by assumption) ?_
                  rotate_left
                  · (intro W hSW; (try dsimp only at hSW); go_simp; first | done | with_reducible rfl)
                  try simp only [Act.put, List.setIfInBounds_toArray, List.set_cons_zero, List.set_cons_succ]
                  refine wpAnyH_ready (rs := [8]) (by kernel_rfl) (by simp) ?_
                  refine AllReadyH.cons (o := ⟨_, _, _, _, _, _⟩) rfl (fun KQ hKQ => ?_) AllReadyH.nil
                  go_simp
                  refine hKQ.out _ _ (trivial) (fun _ => ?_)
                  clear hKQ KQ
                  try simp only [Act.put, List.setIfInBounds_toArray, List.set_cons_zero, List.set_cons_succ]
                  refine wpAnyH_done (by kernel_rfl) ?_ _
                  have hJ1 := HJ1.out
                  clear hHeld hS3 hS4 hS5 hr5 k3 kz k5 kf c0 b1 HJ1 ew
                  generalize w5.setCell ⟨w.heap.size + 1 + 1, 0, none⟩ (.slice (some ⟨q6, 0, none⟩) (nx + 1) c6) = wf at *
                  obtain ⟨q8, c8, w8, hr8, k8, k8f, HJ2⟩ := hJ1.addLoc (by omega) (nx : Int)
                  have zf : w.heap.size + 1 + 1 < wf.heap.size := hJ1.bm.lt
                  have zq : q9 < wf.heap.size := hJ1.bf.lt
                  have m0 : wf.cell? ⟨w.heap.size + 1 + 1, 0, none⟩ = some (.slice (some ⟨q6, 0, none⟩) (nx + 1) c6) := hJ1.bm.cell 0
                  have b2 : wf.cell? ⟨q9, 2, none⟩ = some (.slice Al j cl) := hJ1.bf.cell 2
                  have HJ3 := HJ2
                  clear hJ1 HJ2
                  go_upto_region 20 with (fail)
                  go_wp2_with (at_builtin; refine Lib.wpList_append_run _ rfl _ _ 27 27 rfl _ _ rfl rfl _ _ hr8 ?_)
                  go_roundw
                  case rel =>
                    refine ⟨j + 1, some ⟨q6, 0, none⟩, nx + 1, c6, some ⟨q8, 0, none⟩, c8, by omega, by go_num, (by show _ = _; have := hnx.out; omega), ?_⟩
                    have h := HJ3.out
                    rw [namesF_succ, seqI_succ, ← List.append_assoc, show ((ns + 1 + j : Nat) : Int) = (nx : Int) from by have := hnx.out; omega]
                    exact h
                  case measure => simp [intOf]; omega
            · obtain rfl : NL = j := by omega
              obtain ⟨NS, hNS⟩ : ∃ NS, NS = nsF k := ⟨_, rfl⟩
              have eNS : 1 + (k : Int) % 2 = (NS : Int) := by rw [hNS]; unfold nsF; omega
              have hNS3 : NS < 3 := by rw [hNS]; unfold nsF; omega
              have HNS2 := Lib.hid hNS
              clear hNS
              have HNX : Hid (nx = ns + 1 + NL + 0) := hnx
              have HJA := hJ
              go_wp2_with fail
              clear b1 hnx2
              obtain ⟨wp, hwp⟩ : ∃ wp, wp = wr := ⟨wr, rfl⟩
              subst hwp
              go_loopw [11] (fun sj wr => ∃ (j : Nat) (Ax : Option Addr) (nx cx : Nat) (At : Option Addr) (ct : Nat), j ≤ NS ∧ sj = .int .i64 (j : Int) ∧ Hid (nx = ns + 1 + NL + j) ∧ Hid (MkJ w wr #[.int .u8 (G : Int), .int .u8 (F : Int), .int .u8 (E : Int), .slice Aa na ca] #[.slice none 0 0, .slice none 0 0, .slice none 0 0, .slice none 0 0] q9 (((mkS g0 F k ++ [fnameF k]) ++ namesF 100 NL) ++ namesF 200 j) gl (mkL g0 F k) (ns : Int) (p : Int) (seqI (ns + 1) NL) (seqI (ns + 1 + NL) j) Ax nx cx Ag i cg Af k cf Al NL cl At j ct)) (fun sj _ => NS - (intOf sj).toNat)
              case atStart => exact ⟨0, _, _, _, none, 0, Nat.zero_le _, rfl, HNX, by simpa [namesF, seqI, Hid] using HJA.out⟩
              case round =>
                obtain ⟨j, Ax, nx, cx, At, ct, hj, rfl, hnx, hJ⟩ := hrel
                have zM : w.heap.size + 1 + 1 < wr.heap.size := hJ.out.bm.lt
                have b1 : wr.cell? ⟨q9, 1, none⟩ = some (.int .i64 (p : Int)) := hJ.out.bf.cell 1
                have hnx2 : nx ≤ 1000 := by have := hnx.out; omega
                by_cases hltj : j < NS
                · have c0 : wr.cell? ⟨w.heap.size + 1 + 1, 0, none⟩ = some (.slice Ax nx cx) := hJ.out.bm.cell 0
                  have ew : IntKind.i64.wrap (200 + (j : Int)) = ((200 + j : Nat) : Int) := by rw [IntWalk.i64_in _ (by omega)]; omega
                  have H20 : Hid (Calls Try.prog 32 #[.int .i64 ((200 + j : Nat) : Int)] wr.drew fun e w3 => e = .returned (.string (bs (nameF (200 + j)))) ∧ _) :=
                    (name_any (200 + j) wr.drew (by omega)).mono (fun e w3 ⟨he, hb3⟩ => ⟨he, hJ.out.addStr (by omega) (nameF (200 + j)) w3 ((Below.refl _ wr).drew.trans hb3)⟩)
                  go_upto_region 24 with (fail)
                  refine wp_region_held_drew (S := (fun W => True)) (by kernel_rfl) trivial (fun hHeld => ?_)
                  refine wpAnyH_take (i := 0) (oi := ⟨_, _, _, _, _, _⟩) (v := ?_) rfl (by kernel_rfl) (by kernel_rfl) (by kernel_rfl) (fun _ _ _ h => h) (Or.inl ⟨by rfl, ?_⟩) (by assumption) ?_
                  rotate_left
                  · (intro W hSW; (try dsimp only at hSW); go_simp; first | done | with_reducible rfl)
                  try simp only [Act.put, List.setIfInBounds_toArray, List.set_cons_zero, List.set_cons_succ]
                  refine wpAnyH_take (i := 2) (oi := ⟨_, _, _, _, _, _⟩) (v := ?_) rfl (by kernel_rfl) (by kernel_rfl) (by kernel_rfl) (fun _ _ _ h => h) (Or.inl ⟨by rfl, ?_⟩) (by assumption) ?_
                  rotate_left
                  · (intro W hSW; (try dsimp only at hSW); go_simp; first | done | with_reducible rfl)
                  try simp only [Act.put, List.setIfInBounds_toArray, List.set_cons_zero, List.set_cons_succ]
                  refine wpAnyH_take (i := 3) (oi := ⟨_, _, _, _, _, _⟩) (v := ?_) rfl (by kernel_rfl) (by kernel_rfl) (by kernel_rfl) (fun _ _ _ h => h) (Or.inl ⟨by rfl, ?_⟩) (by assumption) ?_
                  rotate_left
                  · (intro W hSW; (try dsimp only at hSW); go_simp; first | done | with_reducible rfl)
                  try simp only [Act.put, List.setIfInBounds_toArray, List.set_cons_zero, List.set_cons_succ]
                  refine wpAnyH_ready (rs := [1, 4]) (by kernel_rfl) (by simp) ?_
                  refine AllReadyH.cons (o := ⟨_, _, _, _, _, _⟩) rfl (fun KQ hKQ => ?_) (AllReadyH.cons (o := ⟨_, _, _, _, _, _⟩) rfl (fun KQ hKQ => ?_) AllReadyH.nil)
                  · go_simp
                    refine hKQ.out _ _ hHeld (fun _ => ?_)
                    clear hKQ KQ
                    try simp only [Act.put, List.setIfInBounds_toArray, List.set_cons_zero, List.set_cons_succ]
                    refine wpAnyH_ready (rs := [4]) (by kernel_rfl) (by simp) ?_
                    refine AllReadyH.cons (o := ⟨_, _, _, _, _, _⟩) rfl (fun KQ hKQ => ?_) AllReadyH.nil
                    go_simp
                    refine H20.out.mono ?_
                    rintro e w3 ⟨rfl, q6, c6, w5, hr5, k3, kz, k5, kf, HJ1⟩
                    have hS3 := trivial
                    refine hKQ.out _ _ hS3 (fun _ => ?_)
                    clear hKQ KQ
                    try simp only [Act.put, List.setIfInBounds_toArray, List.set_cons_zero, List.set_cons_succ]
                    refine wpAnyH_ready (rs := [5]) (by kernel_rfl) (by simp) ?_
                    refine AllReadyH.cons (o := ⟨_, _, _, _, _, _⟩) rfl (fun KQ hKQ => ?_) AllReadyH.nil
                    go_simp
                    have hS4 := trivial
                    refine hKQ.out _ _ hS4 (fun _ => ?_)
                    clear hKQ KQ
                    try simp only [Act.put, List.setIfInBounds_toArray, List.set_cons_zero, List.set_cons_succ]
                    refine wpAnyH_ready (rs := [6]) (by kernel_rfl) (by simp) ?_
                    refine AllReadyH.cons (o := ⟨_, _, _, _, _, _⟩) rfl (fun KQ hKQ => ?_) AllReadyH.nil
                    refine step_append_run _ (by rfl) _ _ _ (by rfl) _ _ (by rfl) (by rfl) _ _ hr5 ?_
                    have hS5 := trivial
                    refine hKQ.out _ _ hS5 (fun _ => ?_)
                    clear hKQ KQ
                    try simp only [Act.put, List.setIfInBounds_toArray, List.set_cons_zero, List.set_cons_succ]
                    refine wpAnyH_take (i := 7) (oi := ⟨_, _, _, _, _, _⟩) (v := ?_) rfl (by kernel_rfl) (by kernel_rfl) (by kernel_rfl) (fun _ _ _ h => h) (Or.inl ⟨by rfl, ?_⟩) (by assumption) ?_
                    rotate_left
                    · (intro W hSW; (try dsimp only at hSW); go_simp; first | done | with_reducible rfl)
                    try simp only [Act.put, List.setIfInBounds_toArray, List.set_cons_zero, List.set_cons_succ]
                    refine wpAnyH_ready (rs := [8]) (by kernel_rfl) (by simp) ?_
                    refine AllReadyH.cons (o := ⟨_, _, _, _, _, _⟩) rfl (fun KQ hKQ => ?_) AllReadyH.nil
                    go_simp
                    refine hKQ.out _ _ (trivial) (fun _ => ?_)
                    clear hKQ KQ
                    try simp only [Act.put, List.setIfInBounds_toArray, List.set_cons_zero, List.set_cons_succ]
                    refine wpAnyH_done (by kernel_rfl) ?_ _
                    have hJ1 := HJ1.out
                    clear hHeld hS3 hS4 hS5 hr5 k3 kz k5 kf c0 b1 HJ1 ew
                    generalize w5.setCell ⟨w.heap.size + 1 + 1, 0, none⟩ (.slice (some ⟨q6, 0, none⟩) (nx + 1) c6) = wf at *
                    obtain ⟨q8, c8, w8, hr8, k8, k8f, HJ2⟩ := hJ1.addSit (by omega) (nx : Int)
                    have zf : w.heap.size + 1 + 1 < wf.heap.size := hJ1.bm.lt
                    have zq : q9 < wf.heap.size := hJ1.bf.lt
                    have m0 : wf.cell? ⟨w.heap.size + 1 + 1, 0, none⟩ = some (.slice (some ⟨q6, 0, none⟩) (nx + 1) c6) := hJ1.bm.cell 0
                    have b2 : wf.cell? ⟨q9, 3, none⟩ = some (.slice At j ct) := hJ1.bf.cell 3
                    have HJ3 := HJ2
                    clear hJ1 HJ2
                    go_upto_region 25 with (fail)
                    go_wp2_with (at_builtin; refine Lib.wpList_append_run _ rfl _ _ 27 27 rfl _ _ rfl rfl _ _ hr8 ?_)
                    go_roundw
                    case rel =>
                      refine ⟨j + 1, some ⟨q6, 0, none⟩, nx + 1, c6, some ⟨q8, 0, none⟩, c8, by omega, by go_num, (by show _ = _; have := hnx.out; omega), ?_⟩
                      have h := HJ3.out
                      rw [namesF_succ, seqI_succ, ← List.append_assoc, show ((ns + 1 + NL + j : Nat) : Int) = (nx : Int) from by have := hnx.out; omega]
                      exact h
                    case measure => simp [intOf]; omega
                  · go_simp
                    refine H20.out.mono ?_
                    rintro e w3 ⟨rfl, q6, c6, w5, hr5, k3, kz, k5, kf, HJ1⟩
                    have hS3 := trivial
                    refine hKQ.out _ _ hS3 (fun _ => ?_)
                    clear hKQ KQ
                    try simp only [Act.put, List.setIfInBounds_toArray, List.set_cons_zero, List.set_cons_succ]
                    refine wpAnyH_ready (rs := [1, 5]) (by kernel_rfl) (by simp) ?_
                    refine AllReadyH.cons (o := ⟨_, _, _, _, _, _⟩) rfl (fun KQ hKQ => ?_) (AllReadyH.cons (o := ⟨_, _, _, _, _, _⟩) rfl (fun KQ hKQ => ?_) AllReadyH.nil)
                    · go_simp
                      refine hKQ.out _ _ hS3 (fun _ => ?_)
                      clear hKQ KQ
                      try simp only [Act.put, List.setIfInBounds_toArray, List.set_cons_zero, List.set_cons_succ]
                      refine wpAnyH_ready (rs := [5]) (by kernel_rfl) (by simp) ?_
                      refine AllReadyH.cons (o := ⟨_, _, _, _, _, _⟩) rfl (fun KQ hKQ => ?_) AllReadyH.nil
                      go_simp
                      have hS4 := trivial
                      refine hKQ.out _ _ hS4 (fun _ => ?_)
                      clear hKQ KQ
                      try simp only [Act.put, List.setIfInBounds_toArray, List.set_cons_zero, List.set_cons_succ]
                      refine wpAnyH_ready (rs := [6]) (by kernel_rfl) (by simp) ?_
                      refine AllReadyH.cons (o := ⟨_, _, _, _, _, _⟩) rfl (fun KQ hKQ => ?_) AllReadyH.nil
                      refine step_append_run _ (by rfl) _ _ _ (by rfl) _ _ (by rfl) (by rfl) _ _ hr5 ?_
                      have hS5 := trivial
                      refine hKQ.out _ _ hS5 (fun _ => ?_)
                      clear hKQ KQ
                      try simp only [Act.put, List.setIfInBounds_toArray, List.set_cons_zero, List.set_cons_succ]
                      refine wpAnyH_take (i := 7) (oi := ⟨_, _, _, _, _, _⟩) (v := ?_) rfl (by kernel_rfl) (by kernel_rfl) (by kernel_rfl) (fun _ _ _ h => h) (Or.inl ⟨by rfl, ?_⟩) (by assumption) ?_
                      rotate_left
                      · (intro W hSW; (try dsimp only at hSW); go_simp; first | done | with_reducible rfl)
                      try simp only [Act.put, List.setIfInBounds_toArray, List.set_cons_zero, List.set_cons_succ]
                      refine wpAnyH_ready (rs := [8]) (by kernel_rfl) (by simp) ?_
                      refine AllReadyH.cons (o := ⟨_, _, _, _, _, _⟩) rfl (fun KQ hKQ => ?_) AllReadyH.nil
                      go_simp
                      refine hKQ.out _ _ (trivial) (fun _ => ?_)
                      clear hKQ KQ
                      try simp only [Act.put, List.setIfInBounds_toArray, List.set_cons_zero, List.set_cons_succ]
                      refine wpAnyH_done (by kernel_rfl) ?_ _
                      have hJ1 := HJ1.out
                      clear hHeld hS3 hS4 hS5 hr5 k3 kz k5 kf c0 b1 HJ1 ew
                      generalize w5.setCell ⟨w.heap.size + 1 + 1, 0, none⟩ (.slice (some ⟨q6, 0, none⟩) (nx + 1) c6) = wf at *
                      obtain ⟨q8, c8, w8, hr8, k8, k8f, HJ2⟩ := hJ1.addSit (by omega) (nx : Int)
                      have zf : w.heap.size + 1 + 1 < wf.heap.size := hJ1.bm.lt
                      have zq : q9 < wf.heap.size := hJ1.bf.lt
                      have m0 : wf.cell? ⟨w.heap.size + 1 + 1, 0, none⟩ = some (.slice (some ⟨q6, 0, none⟩) (nx + 1) c6) := hJ1.bm.cell 0
                      have b2 : wf.cell? ⟨q9, 3, none⟩ = some (.slice At j ct) := hJ1.bf.cell 3
                      have HJ3 := HJ2
                      clear hJ1 HJ2
                      go_upto_region 25 with (fail)
                      go_wp2_with (at_builtin; refine Lib.wpList_append_run _ rfl _ _ 27 27 rfl _ _ rfl rfl _ _ hr8 ?_)
                      go_roundw
                      case rel =>
                        refine ⟨j + 1, some ⟨q6, 0, none⟩, nx + 1, c6, some ⟨q8, 0, none⟩, c8, by omega, by go_num, (by show _ = _; have := hnx.out; omega), ?_⟩
                        have h := HJ3.out
                        rw [namesF_succ, seqI_succ, ← List.append_assoc, show ((ns + 1 + NL + j : Nat) : Int) = (nx : Int) from by have := hnx.out; omega]
                        exact h
                      case measure => simp [intOf]; omega
                    · go_simp
                      have hS4 := trivial
                      refine hKQ.out _ _ hS4 (fun _ => ?_)
                      clear hKQ KQ
                      try simp only [Act.put, List.setIfInBounds_toArray, List.set_cons_zero, List.set_cons_succ]
                      refine wpAnyH_ready (rs := [1]) (by kernel_rfl) (by simp) ?_
                      refine AllReadyH.cons (o := ⟨_, _, _, _, _, _⟩) rfl (fun KQ hKQ => ?_) AllReadyH.nil
                      go_simp
                      refine hKQ.out _ _ hS4 (fun _ => ?_)
                      clear hKQ KQ
                      try simp only [Act.put, List.setIfInBounds_toArray, List.set_cons_zero, List.set_cons_succ]
                      refine wpAnyH_ready (rs := [6]) (by kernel_rfl) (by simp) ?_
                      refine AllReadyH.cons (o := ⟨_, _, _, _, _, _⟩) rfl (fun KQ hKQ => ?_) AllReadyH.nil
                      refine step_append_run _ (by rfl) _ _ _ (by rfl) _ _ (by rfl) (by rfl) _ _ hr5 ?_
                      have hS5 := trivial
                      refine hKQ.out _ _ hS5 (fun _ => ?_)
                      clear hKQ KQ
                      try simp only [Act.put, List.setIfInBounds_toArray, List.set_cons_zero, List.set_cons_succ]
                      refine wpAnyH_take (i := 7) (oi := ⟨_, _, _, _, _, _⟩) (v := ?_) rfl (by kernel_rfl) (by kernel_rfl) (by kernel_rfl) (fun _ _ _ h => h) (Or.inl ⟨by rfl, ?_⟩) (by assumption) ?_
                      rotate_left
                      · (intro W hSW; (try dsimp only at hSW); go_simp; first | done | with_reducible rfl)
                      try simp only [Act.put, List.setIfInBounds_toArray, List.set_cons_zero, List.set_cons_succ]
                      refine wpAnyH_ready (rs := [8]) (by kernel_rfl) (by simp) ?_
                      refine AllReadyH.cons (o := ⟨_, _, _, _, _, _⟩) rfl (fun KQ hKQ => ?_) AllReadyH.nil
                      go_simp
                      refine hKQ.out _ _ (trivial) (fun _ => ?_)
                      clear hKQ KQ
                      try simp only [Act.put, List.setIfInBounds_toArray, List.set_cons_zero, List.set_cons_succ]
                      refine wpAnyH_done (by kernel_rfl) ?_ _
                      have hJ1 := HJ1.out
                      clear hHeld hS3 hS4 hS5 hr5 k3 kz k5 kf c0 b1 HJ1 ew
                      generalize w5.setCell ⟨w.heap.size + 1 + 1, 0, none⟩ (.slice (some ⟨q6, 0, none⟩) (nx + 1) c6) = wf at *
                      obtain ⟨q8, c8, w8, hr8, k8, k8f, HJ2⟩ := hJ1.addSit (by omega) (nx : Int)
                      have zf : w.heap.size + 1 + 1 < wf.heap.size := hJ1.bm.lt
                      have zq : q9 < wf.heap.size := hJ1.bf.lt
                      have m0 : wf.cell? ⟨w.heap.size + 1 + 1, 0, none⟩ = some (.slice (some ⟨q6, 0, none⟩) (nx + 1) c6) := hJ1.bm.cell 0
                      have b2 : wf.cell? ⟨q9, 3, none⟩ = some (.slice At j ct) := hJ1.bf.cell 3
                      have HJ3 := HJ2
                      clear hJ1 HJ2
                      go_upto_region 25 with (fail)
                      go_wp2_with (at_builtin; refine Lib.wpList_append_run _ rfl _ _ 27 27 rfl _ _ rfl rfl _ _ hr8 ?_)
                      go_roundw
                      case rel =>
                        refine ⟨j + 1, some ⟨q6, 0, none⟩, nx + 1, c6, some ⟨q8, 0, none⟩, c8, by omega, by go_num, (by show _ = _; have := hnx.out; omega), ?_⟩
                        have h := HJ3.out
                        rw [namesF_succ, seqI_succ, ← List.append_assoc, show ((ns + 1 + NL + j : Nat) : Int) = (nx : Int) from by have := hnx.out; omega]
                        exact h
                      case measure => simp [intOf]; omega
                · obtain rfl : NS = j := by omega
                  obtain ⟨q8, c8, w8, hr8, k8, k8f, HI2⟩ := hJ.out.done (by omega)
                  obtain ⟨b0', b1', b2', b3', b4'⟩ := hJ.out.bf.c5
                  have zq : q9 < wr.heap.size := hJ.out.bf.lt
                  have m2 : wr.cell? ⟨w.heap.size + 1 + 1, 2, none⟩ = some (.slice Af k cf) := hJ.out.bm.cell 2
                  have HI3 := HI2
                  clear HI2 b1
                  go_upto_region 26 with (fail)
                  go_wp2_with (at_builtin; refine Lib.wpList_append_run _ rfl _ _ 28 28 rfl _ _ rfl rfl _ _ hr8 ?_)
                  go_roundw
                  case rel =>
                    refine ⟨k + 1, Ax, nx, cx, some ⟨q8, 0, none⟩, c8, by omega, by go_num, by go_num, ?_⟩
                    have h := HI3.out
                    have hl := HNSL.out
                    have e1 : mkS g0 F (k + 1) = (((mkS g0 F k ++ [fnameF k]) ++ namesF 100 (nlF F k)) ++ namesF 200 (nsF k)) := rfl
                    have e2 : mkL g0 F (k + 1) = mkL g0 F k ++ [⟨((mkS g0 F k).length : Int), (pF F k : Int), seqI ((mkS g0 F k).length + 1) (nlF F k), seqI ((mkS g0 F k).length + 1 + nlF F k) (nsF k), .nil⟩] := rfl
                    rw [e1, e2, hl, ← HNL.out, ← HNS2.out, ← HP.out]
                    exact h
                  case measure => simp [intOf]; omega
        · obtain rfl : n = k := by omega
          have HI0 := Lib.hid (hI.out.ents)
          have zM : w.heap.size + 1 + 1 < wr.heap.size := hI.out.bm.lt
          clear hI
          obtain ⟨B3, hB3⟩ : ∃ B3, B3 = wr.heap.size := ⟨_, rfl⟩
          rw [← hB3] at HI0
          clear hB3
          obtain ⟨w8, hw8⟩ : ∃ w8, w8 = wr := ⟨wr, rfl⟩
          subst hw8
          go_wp2_with fail
          go_loopw [12] (fun s12 wr => ∃ (k ne ce : Nat) (Ae : Option Addr), k ≤ n ∧ s12 = .int .i64 (k : Int) ∧ Hid (MkE w wr #[.int .u8 (G : Int), .int .u8 (F : Int), .int .u8 (E : Int), .slice Aa na ca] #[.slice none 0 0, .slice none 0 0, .slice none 0 0, .slice none 0 0] B3 (mkS g0 F n) gl (mkL g0 F n) (entsF E k) As ns cs Ag i cg Af n cf Ae ne ce)) (fun s12 _ => n - (intOf s12).toNat)
          case atStart => exact ⟨0, 0, 0, none, Nat.zero_le _, rfl, HI0⟩
          case round =>
            clear HI0
            obtain ⟨k, ne, ce, Ae, hk, rfl, hE3⟩ := hrel
            have zM2 : w.heap.size + 1 + 1 < wr.heap.size := hE3.out.bm.lt
            have zD2 : w.heap.size < wr.heap.size := hE3.out.bd.lt
            by_cases hlt : k < n
            · have d2 : wr.cell? ⟨w.heap.size, 2, none⟩ = some (.int .u8 (E : Int)) := hE3.out.bd.cell 2
              have m3 : wr.cell? ⟨w.heap.size + 1 + 1, 3, none⟩ = some (.slice Ae ne ce) := hE3.out.bm.cell 3
              have hne : ne ≤ 4 := by have h1 := hE3.out.lens.2.2.2; have h2 := entsF_len E k; omega
              by_cases hbit : E / 2 ^ k % 2 = 1
              · obtain ⟨q5, c5, w5, hr5, k5, kf, HE4⟩ := hE3.out.addEnt (by omega) (k : Int)
                have hb : (((E : Int) / 2 ^ k).tmod 2 == 1) = true := by
                  rw [show ((E : Int) / 2 ^ k) = ((E / 2 ^ k : Nat) : Int) from by simp, Int.tmod_eq_emod_of_nonneg (Int.natCast_nonneg _)]
                  simp only [beq_iff_eq]; omega
                have HX : Hid (entsF E (k + 1) = entsF E k ++ [(k : Int)]) := by show _ = _; simp only [entsF]; rw [if_pos hbit]
                clear hbit
                go_upto_region 32 with (fail)
                go_wp2_with (at_builtin; refine Lib.wpList_append_run _ rfl _ _ 27 27 rfl _ _ rfl rfl _ _ hr5 ?_)
                go_roundw
                case rel => exact ⟨k + 1, ne + 1, c5, some ⟨q5, 0, none⟩, by omega, by go_num, by rw [HX.out]; exact HE4⟩
                case measure => simp [intOf]; omega
              · have hb : (((E : Int) / 2 ^ k).tmod 2 == 1) = false := by
                  rw [show ((E : Int) / 2 ^ k) = ((E / 2 ^ k : Nat) : Int) from by simp, Int.tmod_eq_emod_of_nonneg (Int.natCast_nonneg _)]
                  simp only [beq_eq_false_iff_ne, ne_eq]; omega
                have HX : Hid (entsF E (k + 1) = entsF E k) := by show _ = _; simp only [entsF]; rw [if_neg hbit]
                clear hbit
                go_wp2
                go_roundw
                case rel => exact ⟨k + 1, ne, ce, Ae, by omega, by go_num, by rw [HX.out]; exact hE3⟩
                case measure => simp [intOf]; omega
            · obtain rfl : n = k := by omega
              obtain ⟨g, rfl, hgw, hA0⟩ := hE3.out.start (by omega)
              have HA0 := Lib.hid hA0
              clear hA0
              obtain ⟨W1, hW1⟩ : ∃ W1, W1 = wr := ⟨wr, rfl⟩
              subst hW1
              go_wp2_with fail
              go_loopw [13, 14] (fun s13 s14 wr => ∃ (k : Nat) (Vs : List Value), k ≤ na ∧ k ≤ 60 ∧ s13 = .int .i64 (k : Int) ∧ Hid (MkA w W1 wr g n Vs (mkT F i n na acts k))) (fun s13 _ _ => na - (intOf s13).toNat)
              case atStart => exact ⟨0, _, Nat.zero_le _, Nat.zero_le _, rfl, HA0⟩
              case round =>
                clear HA0
                obtain ⟨k, Vs, hk, hk6, rfl, hA⟩ := hrel
                have kp : Hid (∀ q t cs, Blk W1 q t cs → q ≠ g → Blk wr q t cs) := fun q t cs hq hne => (hA.out.keep q hq.lt hne).trans hq
                have bD := kp.out _ _ _ hE3.out.bd (by omega)
                have bM := kp.out _ _ _ hE3.out.bm (by omega)
                obtain ⟨d0, d1, d2, d3⟩ := bD.c4
                obtain ⟨m0, m1, m2, m3⟩ := bM.c4
                have zM : w.heap.size + 1 + 1 < wr.heap.size := bM.lt
                have zD : w.heap.size < wr.heap.size := bD.lt
                by_cases hlt : k < na ∧ k < 60
                · obtain ⟨hlt, hlt6⟩ := hlt
                  obtain ⟨j, hjd⟩ : ∃ j, j = actJ n na k := ⟨_, rfl⟩
                  obtain ⟨kn, hkn⟩ : ∃ kn, kn = k * n := ⟨_, rfl⟩
                  have hkn1 : (k : Int) * (n : Int) = (kn : Int) := by rw [hkn]; simp
                  have hknl : kn ≤ 60 * 4 := by rw [hkn]; exact Nat.mul_le_mul hk6 (by omega)
                  have hjn : j < n := by
                    rw [hjd]; unfold actJ
                    split
                    · exact Nat.div_lt_of_lt_mul (Nat.mul_lt_mul_of_pos_right hlt hn1)
                    · exact Nat.div_lt_of_lt_mul (Nat.mul_lt_mul_of_pos_right hlt6 hn1)
                  have HJD := Lib.hid hjd
                  obtain ⟨q60, hq60⟩ : ∃ q60, q60 = kn / 60 := ⟨_, rfl⟩
                  have hq60i : (kn : Int) / 60 = (q60 : Int) := by omega
                  have hq60b : q60 ≤ 4 := by omega
                  have HJI : Hid ((na < 60 → (kn : Int) / (na : Int) = (j : Int)) ∧ (¬ na < 60 → q60 = j)) := by
                    rw [hjd, hq60]; unfold actJ; rw [← hkn]
                    exact ⟨fun h => by rw [if_pos h]; simp, fun h => by rw [if_neg h]⟩
                  clear hjd hkn hq60
                  go_upto_if 174 with (fail)
                  go_cut [14] (fun s14 wz => s14 = .int .i64 (j : Int) ∧ wr = wz)
                  case first =>
                    by_cases h60 : na < 60
                    · have hqna := HJI.out.1 h60
                      go_wp2
                      go_meet
                      case rel => exact ⟨rfl, rfl⟩
                    · obtain rfl := HJI.out.2 h60
                      go_wp2
                      go_meet
                      case rel => exact ⟨rfl, rfl⟩
                  case rest =>
                    obtain ⟨rfl, rfl⟩ := hcut
                    clear hkn1 hknl hq60i hq60b HJI
                    go_upto_region 39 with (fail)
                    go_cut [183] (fun s183 wz => ∃ tt, s183 = .bool tt ∧ Hid (Below wr.heap.size wr wz))
                    case first =>
                      go_region
                      all_goals
                        go_wp2
                        go_meet
                        case rel => exact ⟨_, rfl, ((Below.refl _ wr).alloc (Nat.le_refl _) _).drew⟩
                    case rest =>
                      obtain ⟨tt, rfl, hbq⟩ := hcut
                      have HA := Lib.hid (hA.out.more hbq.out)
                      clear hA hbq kp bD bM d0 d1 d2 d3 m0 m1 m2 m3 zM zD
                      have bD : Blk wc w.heap.size 24 #[.int .u8 (G : Int), .int .u8 (F : Int), .int .u8 (E : Int), .slice Aa na ca] := (HA.out.keep _ hE3.out.bd.lt (by omega)).trans hE3.out.bd
                      have bM : Blk wc (w.heap.size + 1 + 1) 30 #[.slice As ns cs, .slice Ag i cg, .slice (some ⟨g, 0, none⟩) n cf, .slice Ae ne ce] := (HA.out.keep _ hE3.out.bm.lt (by omega)).trans hE3.out.bm
                      have zM : w.heap.size + 1 + 1 < wc.heap.size := bM.lt
                      have zD : w.heap.size < wc.heap.size := bD.lt
                      have zg : g < wc.heap.size := by have h1 := HA.out.gin.2; have h2 := HA.out.size; omega
                      clear bD bM
                      have hjL : j < (mkL g0 F n).length := by rw [mkL_len]; exact hjn
                      have hLj := mkL_get g0 F n j hjn
                      rw [List.getElem?_eq_getElem hjL, Option.some.injEq] at hLj
                      obtain ⟨Al, cl, At, ct, v, hv, ⟨f0, f1, f2, f3, f4⟩, hR1, hR2⟩ := HA.out.fn hE3.out.fr (mkL_len _ _ _) j hjL
                      clear hR1 hR2
                      rw [hLj] at f0 f1 f2 f3
                      simp only [seqI_len] at f2 f3
                      clear hLj hjL
                      have HPar : Hid (∀ t, t < n → pF F t ≤ 100 ∧ wc.cell? ⟨g, 0 + t * 5 + 1, none⟩ = some (.int .i64 ((pF F t : Nat) : Int))) := fun t ht => by
                        have htL : t < (mkL g0 F n).length := by rw [mkL_len]; exact ht
                        have hLt := mkL_get g0 F n t ht
                        rw [List.getElem?_eq_getElem htL, Option.some.injEq] at hLt
                        obtain ⟨_, _, _, _, _, _, ⟨_, e1, _, _, _⟩, _, _⟩ := HA.out.fn hE3.out.fr (mkL_len _ _ _) t htL
                        rw [hLt] at e1
                        exact ⟨by unfold pF; omega, by rw [Nat.zero_add]; exact e1⟩
                      obtain ⟨T, hT⟩ : ∃ T, (mkT F i n na acts k)[j]? = some T := ⟨_, List.getElem?_eq_getElem (by rw [mkT_len]; exact hjn)⟩
                      have HTD : Hid ((mkT F i n na acts k).getD j [] = T) := by show _ = _; rw [List.getD_eq_getElem?_getD, hT]; rfl
                      obtain ⟨nb, hnb⟩ : ∃ nb, nb = T.length := ⟨_, rfl⟩
                      have hnbl : nb ≤ 60 := by have := mkT_le F i n na acts k T (List.mem_of_getElem? hT); omega
                      obtain ⟨Ab, cb, rfl⟩ := HA.out.slice hv hT
                      rw [← hnb] at f4 hv
                      have HNB : Hid (T.length = nb) := hnb.symm
                      clear hnb
                      obtain ⟨ba, oa, rfl, hcells⟩ := HAC.out (by have := HNA.out; omega)
                      have hka : k < acts.length := by have := HNA.out; omega
                      obtain ⟨x0, x1, x2, x3⟩ := hcells k hka
                      have hxl := HAB.out _ (List.getElem_mem hka)
                      have HXD : Hid (acts.getD k ⟨0, 0, 0, 0⟩ = acts[k]) := by show _ = _; simp [List.getD_eq_getElem?_getD, hka]
                      clear hcells
                      obtain ⟨x, hx⟩ : ∃ x, x = acts[k] := ⟨_, rfl⟩
                      rw [← hx] at x0 x1 x2 x3 hxl HXD
                      clear hx hka
                      obtain ⟨xk, xa, xb, xc⟩ := x
                      dsimp only at x0 x1 x2 x3 hxl
                      obtain ⟨NL, hNL⟩ : ∃ NL, NL = nlF F j := ⟨_, rfl⟩
                      obtain ⟨NS, hNS⟩ : ∃ NS, NS = nsF j := ⟨_, rfl⟩
                      have hNLb : 0 < NL ∧ NL < 10 := by rw [hNL]; unfold nlF pF; omega
                      have hNSb : 0 < NS ∧ NS < 10 := by rw [hNS]; unfold nsF; omega
                      obtain ⟨s, hs⟩ : ∃ s, s = stm (nlF F j) i n (nsF j) (pF F) xk xa xb xc := ⟨_, rfl⟩
                      have HSD := Lib.hid hs
                      have HSt : Hid (∀ wX, Below wc.heap.size wc wX → Calls Try.prog 33 #[.agg #[.slice As ns cs, .slice Ag i cg, .slice (some ⟨g, 0, none⟩) n cf, .slice Ae ne ce], .agg #[.int .i64 ((mkS g0 F j).length : Int), .int .i64 (pF F j : Int), .slice Al NL cl, .slice At NS ct, .slice Ab nb cb], .agg #[.int .u8 (xk : Int), .int .u8 (xa : Int), .int .u8 (xb : Int), .int .u8 (xc : Int)]] wX (StPost wX s)) := fun wX hX => by
                        rw [hs, ← hNL, ← hNS]
                        exact stm_any (.slice As ns cs) (.slice Ae ne ce) (.int .i64 ((mkS g0 F j).length : Int)) (.int .i64 (pF F j : Int)) (.slice Ab nb cb) Ag (some ⟨g, 0, none⟩) Al At i cg n cf NL cl NS ct xk xa xb xc (pF F) wX hxl.1 hxl.2.1 hxl.2.2.1 hxl.2.2.2 (by omega) (by omega) (by omega) hn1 (by omega) hNSb.1 (by omega) (fun t ht => ⟨(HPar.out t ht).1, g, 0, rfl, cell_old hX zg (HPar.out t ht).2⟩)
                      rw [← hNL] at f2
                      rw [← hNS] at f3
                      clear hs hNL hNS HPar
                      generalize ((mkS g0 F j).length : Int) = nm at *
                      generalize (pF F j : Int) = pj at *
                      have HSk : Hid (∀ W : World, (∀ q, q < W1.heap.size → q ≠ g → W.heap[q]? = W1.heap[q]?) → (fun W => Blk W (w.heap.size + 1 + 1) 30 #[.slice As ns cs, .slice Ag i cg, .slice (some ⟨g, 0, none⟩) n cf, .slice Ae ne ce] ∧ Blk W w.heap.size 24 #[.int .u8 (G : Int), .int .u8 (F : Int), .int .u8 (E : Int), .slice (some ⟨ba, oa, none⟩) na ca] ∧ W.cell? ⟨ba, oa + k * 4, none⟩ = some (.int .u8 (xk : Int)) ∧ W.cell? ⟨ba, oa + k * 4 + 1, none⟩ = some (.int .u8 (xa : Int)) ∧ W.cell? ⟨ba, oa + k * 4 + 2, none⟩ = some (.int .u8 (xb : Int)) ∧ W.cell? ⟨ba, oa + k * 4 + 3, none⟩ = some (.int .u8 (xc : Int))) W) := fun W hW => by
                        have hba := World.block_lt_of_cell? w ⟨ba, oa + k * 4, none⟩ x0
                        have hb1 := hE3.out.bel
                        have hs1 := hb1.size
                        have cc : ∀ o u, w.cell? ⟨ba, o, none⟩ = some u → W.cell? ⟨ba, o, none⟩ = some u := fun o u hu => (World.cell?_of_block ((hW ba (Nat.lt_of_lt_of_le hba hs1) (by show ba ≠ g; have : ba < w.heap.size := hba; omega)).trans (hb1.block ba hba))).trans hu
                        exact ⟨(hW _ hE3.out.bm.lt (by omega)).trans hE3.out.bm, (hW _ hE3.out.bd.lt (by omega)).trans hE3.out.bd, cc _ _ x0, cc _ _ x1, cc _ _ x2, cc _ _ x3⟩
                      have HSb : Hid (∀ W : World, Below wc.heap.size wc W → (fun W => Blk W (w.heap.size + 1 + 1) 30 #[.slice As ns cs, .slice Ag i cg, .slice (some ⟨g, 0, none⟩) n cf, .slice Ae ne ce] ∧ Blk W w.heap.size 24 #[.int .u8 (G : Int), .int .u8 (F : Int), .int .u8 (E : Int), .slice (some ⟨ba, oa, none⟩) na ca] ∧ W.cell? ⟨ba, oa + k * 4, none⟩ = some (.int .u8 (xk : Int)) ∧ W.cell? ⟨ba, oa + k * 4 + 1, none⟩ = some (.int .u8 (xa : Int)) ∧ W.cell? ⟨ba, oa + k * 4 + 2, none⟩ = some (.int .u8 (xb : Int)) ∧ W.cell? ⟨ba, oa + k * 4 + 3, none⟩ = some (.int .u8 (xc : Int))) W) := fun W hW => HSk.out W (fun q hq hne => (hW.block q (Nat.lt_of_lt_of_le hq HA.out.size)).trans (HA.out.keep q hq hne))
                      clear x0 x1 x2 x3 hxl
                      cases tt with
                      | false =>
                        go_upto_region 42 with (fail)
                        refine wp_region_held_drew (S := (fun W => Blk W (w.heap.size + 1 + 1) 30 #[.slice As ns cs, .slice Ag i cg, .slice (some ⟨g, 0, none⟩) n cf, .slice Ae ne ce] ∧ Blk W w.heap.size 24 #[.int .u8 (G : Int), .int .u8 (F : Int), .int .u8 (E : Int), .slice (some ⟨ba, oa, none⟩) na ca] ∧ W.cell? ⟨ba, oa + k * 4, none⟩ = some (.int .u8 (xk : Int)) ∧ W.cell? ⟨ba, oa + k * 4 + 1, none⟩ = some (.int .u8 (xa : Int)) ∧ W.cell? ⟨ba, oa + k * 4 + 2, none⟩ = some (.int .u8 (xb : Int)) ∧ W.cell? ⟨ba, oa + k * 4 + 3, none⟩ = some (.int .u8 (xc : Int)))) (by kernel_rfl) (HSb.out wc.drew ((Below.refl _ wc).drew)) (fun hHeld => ?_)
                        refine wpAnyH_take (i := 0) (oi := ⟨_, _, _, _, _, _⟩) (v := ?_) rfl (by kernel_rfl) (by kernel_rfl) (by kernel_rfl) (fun _ _ _ h => h) (Or.inl ⟨by rfl, ?_⟩) (by assumption) ?_
                        rotate_left
                        · (intro W hSW; (try dsimp only at hSW); obtain ⟨s1, s2, s3, s4, s5, s6⟩ := hSW; obtain ⟨p0, p1, p2, p3⟩ := s1.c4; obtain ⟨p4, p5, p6, p7⟩ := s2.c4; go_simp; first | done | with_reducible rfl)
                        try simp only [Act.put, List.setIfInBounds_toArray, List.set_cons_zero, List.set_cons_succ]
                        refine wpAnyH_take (i := 1) (oi := ⟨_, _, _, _, _, _⟩) (v := ?_) rfl (by kernel_rfl) (by kernel_rfl) (by kernel_rfl) (fun _ _ _ h => h) (Or.inl ⟨by rfl, ?_⟩) (by assumption) ?_
                        rotate_left
                        · (intro W hSW; (try dsimp only at hSW); obtain ⟨s1, s2, s3, s4, s5, s6⟩ := hSW; obtain ⟨p0, p1, p2, p3⟩ := s1.c4; obtain ⟨p4, p5, p6, p7⟩ := s2.c4; go_simp; first | done | with_reducible rfl)
                        try simp only [Act.put, List.setIfInBounds_toArray, List.set_cons_zero, List.set_cons_succ]
                        refine wpAnyH_take (i := 2) (oi := ⟨_, _, _, _, _, _⟩) (v := ?_) rfl (by kernel_rfl) (by kernel_rfl) (by kernel_rfl) (fun _ _ _ h => h) (Or.inl ⟨by rfl, ?_⟩) (by assumption) ?_
                        rotate_left
                        · (intro W hSW; (try dsimp only at hSW); obtain ⟨s1, s2, s3, s4, s5, s6⟩ := hSW; obtain ⟨p0, p1, p2, p3⟩ := s1.c4; obtain ⟨p4, p5, p6, p7⟩ := s2.c4; go_simp; first | done | with_reducible rfl)
                        try simp only [Act.put, List.setIfInBounds_toArray, List.set_cons_zero, List.set_cons_succ]
                        refine wpAnyH_take (i := 3) (oi := ⟨_, _, _, _, _, _⟩) (v := ?_) rfl (by kernel_rfl) (by kernel_rfl) (by kernel_rfl) (fun _ _ _ h => h) (Or.inl ⟨by rfl, ?_⟩) (by assumption) ?_
                        rotate_left
                        · (intro W hSW; (try dsimp only at hSW); obtain ⟨s1, s2, s3, s4, s5, s6⟩ := hSW; obtain ⟨p0, p1, p2, p3⟩ := s1.c4; obtain ⟨p4, p5, p6, p7⟩ := s2.c4; go_simp; first | done | with_reducible rfl)
                        try simp only [Act.put, List.setIfInBounds_toArray, List.set_cons_zero, List.set_cons_succ]
                        refine wpAnyH_take (i := 4) (oi := ⟨_, _, _, _, _, _⟩) (v := ?_) rfl (by kernel_rfl) (by kernel_rfl) (by kernel_rfl) (fun _ _ _ h => h) (Or.inl ⟨by rfl, ?_⟩) (by assumption) ?_
                        rotate_left
                        · (intro W hSW; (try dsimp only at hSW); obtain ⟨s1, s2, s3, s4, s5, s6⟩ := hSW; obtain ⟨p0, p1, p2, p3⟩ := s1.c4; obtain ⟨p4, p5, p6, p7⟩ := s2.c4; go_simp; first | done | with_reducible rfl)
                        try simp only [Act.put, List.setIfInBounds_toArray, List.set_cons_zero, List.set_cons_succ]
                        refine wpAnyH_take (i := 5) (oi := ⟨_, _, _, _, _, _⟩) (v := ?_) rfl (by kernel_rfl) (by kernel_rfl) (by kernel_rfl) (fun _ _ _ h => h) (Or.inl ⟨by rfl, ?_⟩) (by assumption) ?_
                        rotate_left
                        · (intro W hSW; (try dsimp only at hSW); obtain ⟨s1, s2, s3, s4, s5, s6⟩ := hSW; obtain ⟨p0, p1, p2, p3⟩ := s1.c4; obtain ⟨p4, p5, p6, p7⟩ := s2.c4; go_simp; first | done | with_reducible rfl)
                        try simp only [Act.put, List.setIfInBounds_toArray, List.set_cons_zero, List.set_cons_succ]
                        refine wpAnyH_take (i := 6) (oi := ⟨_, _, _, _, _, _⟩) (v := ?_) rfl (by kernel_rfl) (by kernel_rfl) (by kernel_rfl) (fun _ _ _ h => h) (Or.inl ⟨by rfl, ?_⟩) (by assumption) ?_
                        rotate_left
                        · (intro W hSW; (try dsimp only at hSW); obtain ⟨s1, s2, s3, s4, s5, s6⟩ := hSW; obtain ⟨p0, p1, p2, p3⟩ := s1.c4; obtain ⟨p4, p5, p6, p7⟩ := s2.c4; go_simp; first | done | with_reducible rfl)
                        try simp only [Act.put, List.setIfInBounds_toArray, List.set_cons_zero, List.set_cons_succ]
                        refine wpAnyH_take (i := 7) (oi := ⟨_, _, _, _, _, _⟩) (v := ?_) rfl (by kernel_rfl) (by kernel_rfl) (by kernel_rfl) (fun _ _ _ h => h) (Or.inl ⟨by rfl, ?_⟩) (by assumption) ?_
                        rotate_left
                        · (intro W hSW; (try dsimp only at hSW); obtain ⟨s1, s2, s3, s4, s5, s6⟩ := hSW; obtain ⟨p0, p1, p2, p3⟩ := s1.c4; obtain ⟨p4, p5, p6, p7⟩ := s2.c4; go_simp; first | done | with_reducible rfl)
                        try simp only [Act.put, List.setIfInBounds_toArray, List.set_cons_zero, List.set_cons_succ]
                        refine wpAnyH_take (i := 9) (oi := ⟨_, _, _, _, _, _⟩) (v := ?_) rfl (by kernel_rfl) (by kernel_rfl) (by kernel_rfl) (fun _ _ _ h => h) (Or.inl ⟨by rfl, ?_⟩) (by assumption) ?_
                        rotate_left
                        · (intro W hSW; (try dsimp only at hSW); obtain ⟨s1, s2, s3, s4, s5, s6⟩ := hSW; obtain ⟨p0, p1, p2, p3⟩ := s1.c4; obtain ⟨p4, p5, p6, p7⟩ := s2.c4; go_simp; first | done | with_reducible rfl)
                        try simp only [Act.put, List.setIfInBounds_toArray, List.set_cons_zero, List.set_cons_succ]
                        refine wpAnyH_take (i := 10) (oi := ⟨_, _, _, _, _, _⟩) (v := ?_) rfl (by kernel_rfl) (by kernel_rfl) (by kernel_rfl) (fun _ _ _ h => h) (Or.inl ⟨by rfl, ?_⟩) (by assumption) ?_
                        rotate_left
                        · (intro W hSW; (try dsimp only at hSW); obtain ⟨s1, s2, s3, s4, s5, s6⟩ := hSW; obtain ⟨p0, p1, p2, p3⟩ := s1.c4; obtain ⟨p4, p5, p6, p7⟩ := s2.c4; go_simp; first | done | with_reducible rfl)
                        try simp only [Act.put, List.setIfInBounds_toArray, List.set_cons_zero, List.set_cons_succ]
                        refine wpAnyH_take (i := 11) (oi := ⟨_, _, _, _, _, _⟩) (v := ?_) rfl (by kernel_rfl) (by kernel_rfl) (by kernel_rfl) (fun _ _ _ h => h) (Or.inl ⟨by rfl, ?_⟩) (by assumption) ?_
                        rotate_left
                        · (intro W hSW; (try dsimp only at hSW); obtain ⟨s1, s2, s3, s4, s5, s6⟩ := hSW; obtain ⟨p0, p1, p2, p3⟩ := s1.c4; obtain ⟨p4, p5, p6, p7⟩ := s2.c4; go_simp; first | done | with_reducible rfl)
                        try simp only [Act.put, List.setIfInBounds_toArray, List.set_cons_zero, List.set_cons_succ]
                        refine wpAnyH_take (i := 12) (oi := ⟨_, _, _, _, _, _⟩) (v := ?_) rfl (by kernel_rfl) (by kernel_rfl) (by kernel_rfl) (fun _ _ _ h => h) (Or.inl ⟨by rfl, ?_⟩) (by assumption) ?_
                        rotate_left
                        · (intro W hSW; (try dsimp only at hSW); obtain ⟨s1, s2, s3, s4, s5, s6⟩ := hSW; obtain ⟨p0, p1, p2, p3⟩ := s1.c4; obtain ⟨p4, p5, p6, p7⟩ := s2.c4; go_simp; first | done | with_reducible rfl)
                        try simp only [Act.put, List.setIfInBounds_toArray, List.set_cons_zero, List.set_cons_succ]
                        refine wpAnyH_take (i := 13) (oi := ⟨_, _, _, _, _, _⟩) (v := ?_) rfl (by kernel_rfl) (by kernel_rfl) (by kernel_rfl) (fun _ _ _ h => h) (Or.inl ⟨by rfl, ?_⟩) (by assumption) ?_
                        rotate_left
                        · (intro W hSW; (try dsimp only at hSW); obtain ⟨s1, s2, s3, s4, s5, s6⟩ := hSW; obtain ⟨p0, p1, p2, p3⟩ := s1.c4; obtain ⟨p4, p5, p6, p7⟩ := s2.c4; go_simp; first | done | with_reducible rfl)
                        try simp only [Act.put, List.setIfInBounds_toArray, List.set_cons_zero, List.set_cons_succ]
                        refine wpAnyH_take (i := 15) (oi := ⟨_, _, _, _, _, _⟩) (v := ?_) rfl (by kernel_rfl) (by kernel_rfl) (by kernel_rfl) (fun _ _ _ h => h) (Or.inl ⟨by rfl, ?_⟩) (by assumption) ?_
                        rotate_left
                        · (intro W hSW; (try dsimp only at hSW); obtain ⟨s1, s2, s3, s4, s5, s6⟩ := hSW; obtain ⟨p0, p1, p2, p3⟩ := s1.c4; obtain ⟨p4, p5, p6, p7⟩ := s2.c4; go_simp; first | done | with_reducible rfl)
                        try simp only [Act.put, List.setIfInBounds_toArray, List.set_cons_zero, List.set_cons_succ]
                        refine wpAnyH_take (i := 16) (oi := ⟨_, _, _, _, _, _⟩) (v := ?_) rfl (by kernel_rfl) (by kernel_rfl) (by kernel_rfl) (fun _ _ _ h => h) (Or.inl ⟨by rfl, ?_⟩) (by assumption) ?_
                        rotate_left
                        · (intro W hSW; (try dsimp only at hSW); obtain ⟨s1, s2, s3, s4, s5, s6⟩ := hSW; obtain ⟨p0, p1, p2, p3⟩ := s1.c4; obtain ⟨p4, p5, p6, p7⟩ := s2.c4; go_simp; first | done | with_reducible rfl)
                        try simp only [Act.put, List.setIfInBounds_toArray, List.set_cons_zero, List.set_cons_succ]
                        refine wpAnyH_take (i := 17) (oi := ⟨_, _, _, _, _, _⟩) (v := ?_) rfl (by kernel_rfl) (by kernel_rfl) (by kernel_rfl) (fun _ _ _ h => h) (Or.inl ⟨by rfl, ?_⟩) (by assumption) ?_
                        rotate_left
                        · (intro W hSW; (try dsimp only at hSW); obtain ⟨s1, s2, s3, s4, s5, s6⟩ := hSW; obtain ⟨p0, p1, p2, p3⟩ := s1.c4; obtain ⟨p4, p5, p6, p7⟩ := s2.c4; go_simp; first | done | with_reducible rfl)
                        try simp only [Act.put, List.setIfInBounds_toArray, List.set_cons_zero, List.set_cons_succ]
                        refine wpAnyH_take (i := 18) (oi := ⟨_, _, _, _, _, _⟩) (v := ?_) rfl (by kernel_rfl) (by kernel_rfl) (by kernel_rfl) (fun _ _ _ h => h) (Or.inl ⟨by rfl, ?_⟩) (by assumption) ?_
                        rotate_left
                        · (intro W hSW; (try dsimp only at hSW); obtain ⟨s1, s2, s3, s4, s5, s6⟩ := hSW; obtain ⟨p0, p1, p2, p3⟩ := s1.c4; obtain ⟨p4, p5, p6, p7⟩ := s2.c4; go_simp; first | done | with_reducible rfl)
                        try simp only [Act.put, List.setIfInBounds_toArray, List.set_cons_zero, List.set_cons_succ]
                        refine wpAnyH_take (i := 19) (oi := ⟨_, _, _, _, _, _⟩) (v := ?_) rfl (by kernel_rfl) (by kernel_rfl) (by kernel_rfl) (fun _ _ _ h => h) (Or.inl ⟨by rfl, ?_⟩) (by assumption) ?_
                        rotate_left
                        · (intro W hSW; (try dsimp only at hSW); obtain ⟨s1, s2, s3, s4, s5, s6⟩ := hSW; obtain ⟨p0, p1, p2, p3⟩ := s1.c4; obtain ⟨p4, p5, p6, p7⟩ := s2.c4; go_simp; first | done | with_reducible rfl)
                        try simp only [Act.put, List.setIfInBounds_toArray, List.set_cons_zero, List.set_cons_succ]
                        apply later5 (F := fun w3 Aa3 A0 ca3 c0 => Below wc.heap.size wc w3 ∧ ArgsS (fun k => wc.heap.size ≤ k) w3 (.slice Aa3 s.xs.length ca3) s.xs ∧ BodyS (fun k => wc.heap.size ≤ k) w3 A0 s.sub)
                        case h1 =>
                          intro keyB
                          refine wpAnyH_ready (rs := [8, 14]) (by kernel_rfl) (by simp) ?_
                          refine AllReadyH.cons (o := ⟨_, _, _, _, _, _⟩) rfl (fun KQ hKQ => ?_) (AllReadyH.cons (o := ⟨_, _, _, _, _, _⟩) rfl (fun KQ hKQ => ?_) AllReadyH.nil)
                          · go_simp
                            refine hKQ.out _ _ hHeld (fun _ => ?_)
                            clear hKQ KQ
                            try simp only [Act.put, List.setIfInBounds_toArray, List.set_cons_zero, List.set_cons_succ]
                            refine wpAnyH_ready (rs := [14]) (by kernel_rfl) (by simp) ?_
                            refine AllReadyH.cons (o := ⟨_, _, _, _, _, _⟩) rfl (fun KQ hKQ => ?_) AllReadyH.nil
                            go_simp
                            refine hKQ.out _ _ hHeld (fun _ => ?_)
                            clear hKQ KQ
                            try simp only [Act.put, List.setIfInBounds_toArray, List.set_cons_zero, List.set_cons_succ]
                            refine wpAnyH_ready (rs := [20]) (by kernel_rfl) (by simp) ?_
                            refine AllReadyH.cons (o := ⟨_, _, _, _, _, _⟩) rfl (fun KQ hKQ => ?_) AllReadyH.nil
                            go_simp
                            refine (HSt.out _ ((Below.refl _ wc).drew)).mono ?_
                            rintro e w3 ⟨va, A0, c0, rfl, hA3, hB3, hb3⟩
                            obtain ⟨Aa3, ca3, rfl, hA3'⟩ := hA3
                            have hb3w : Below wc.heap.size wc w3 := (Below.refl _ wc).drew.trans hb3
                            have hAA : ArgsS (fun k => wc.heap.size ≤ k) w3 (.slice Aa3 s.xs.length ca3) s.xs := ⟨Aa3, ca3, rfl, hA3'⟩
                            have hBB : BodyS (fun k => wc.heap.size ≤ k) w3 A0 s.sub := hB3
                            have c3 : w3.cell? ⟨g, j * 5 + 4, none⟩ = some (.slice Ab nb cb) := cell_old hb3w zg f4
                            have z3 : g < w3.heap.size := Nat.lt_of_lt_of_le zg hb3w.size
                            clear hA3' hB3
                            have hS3 := HSb.out w3 hb3w
                            refine hKQ.out _ _ hS3 (fun _ => ?_)
                            clear hKQ KQ
                            try simp only [Act.put, List.setIfInBounds_toArray, List.set_cons_zero, List.set_cons_succ]
                            refine wpAnyH_ready (rs := [21]) (by kernel_rfl) (by simp) ?_
                            refine AllReadyH.cons (o := ⟨_, _, _, _, _, _⟩) rfl (fun KQ hKQ => ?_) AllReadyH.nil
                            go_simp
                            have hS4 := HSb.out (w3.alloc (.cells #[.int .u8 s.k, .int .u8 s.a.1, .int .i64 s.a.2, .int .u8 s.b.1, .int .i64 s.b.2, .slice Aa3 s.xs.length ca3, .slice A0 s.sub.len c0] 50)) (hb3w.alloc hb3w.size _)
                            refine hKQ.out _ _ hS4 (fun _ => ?_)
                            clear hKQ KQ
                            try simp only [Act.put, List.setIfInBounds_toArray, List.set_cons_zero, List.set_cons_succ]
                            refine listed_eq (l' := #[true, true, true, true, true, true, true, true, true, true, true, true, true, true, true, true, true, true, true, true, true, true, false, false, false, false]) (by kernel_rfl) ?_
                            exact keyB w3 Aa3 A0 ca3 c0 ⟨hb3w, hAA, hBB⟩
                          · go_simp
                            refine hKQ.out _ _ hHeld (fun _ => ?_)
                            clear hKQ KQ
                            try simp only [Act.put, List.setIfInBounds_toArray, List.set_cons_zero, List.set_cons_succ]
                            refine wpAnyH_ready (rs := [8, 20]) (by kernel_rfl) (by simp) ?_
                            refine AllReadyH.cons (o := ⟨_, _, _, _, _, _⟩) rfl (fun KQ hKQ => ?_) (AllReadyH.cons (o := ⟨_, _, _, _, _, _⟩) rfl (fun KQ hKQ => ?_) AllReadyH.nil)
                            · go_simp
                              refine hKQ.out _ _ hHeld (fun _ => ?_)
                              clear hKQ KQ
                              try simp only [Act.put, List.setIfInBounds_toArray, List.set_cons_zero, List.set_cons_succ]
                              refine wpAnyH_ready (rs := [20]) (by kernel_rfl) (by simp) ?_
                              refine AllReadyH.cons (o := ⟨_, _, _, _, _, _⟩) rfl (fun KQ hKQ => ?_) AllReadyH.nil
                              go_simp
                              refine (HSt.out _ ((Below.refl _ wc).drew)).mono ?_
                              rintro e w3 ⟨va, A0, c0, rfl, hA3, hB3, hb3⟩
                              obtain ⟨Aa3, ca3, rfl, hA3'⟩ := hA3
                              have hb3w : Below wc.heap.size wc w3 := (Below.refl _ wc).drew.trans hb3
                              have hAA : ArgsS (fun k => wc.heap.size ≤ k) w3 (.slice Aa3 s.xs.length ca3) s.xs := ⟨Aa3, ca3, rfl, hA3'⟩
                              have hBB : BodyS (fun k => wc.heap.size ≤ k) w3 A0 s.sub := hB3
                              have c3 : w3.cell? ⟨g, j * 5 + 4, none⟩ = some (.slice Ab nb cb) := cell_old hb3w zg f4
                              have z3 : g < w3.heap.size := Nat.lt_of_lt_of_le zg hb3w.size
                              clear hA3' hB3
                              have hS3 := HSb.out w3 hb3w
                              refine hKQ.out _ _ hS3 (fun _ => ?_)
                              clear hKQ KQ
                              try simp only [Act.put, List.setIfInBounds_toArray, List.set_cons_zero, List.set_cons_succ]
                              refine wpAnyH_ready (rs := [21]) (by kernel_rfl) (by simp) ?_
                              refine AllReadyH.cons (o := ⟨_, _, _, _, _, _⟩) rfl (fun KQ hKQ => ?_) AllReadyH.nil
                              go_simp
                              have hS4 := HSb.out (w3.alloc (.cells #[.int .u8 s.k, .int .u8 s.a.1, .int .i64 s.a.2, .int .u8 s.b.1, .int .i64 s.b.2, .slice Aa3 s.xs.length ca3, .slice A0 s.sub.len c0] 50)) (hb3w.alloc hb3w.size _)
                              refine hKQ.out _ _ hS4 (fun _ => ?_)
                              clear hKQ KQ
                              try simp only [Act.put, List.setIfInBounds_toArray, List.set_cons_zero, List.set_cons_succ]
                              refine listed_eq (l' := #[true, true, true, true, true, true, true, true, true, true, true, true, true, true, true, true, true, true, true, true, true, true, false, false, false, false]) (by kernel_rfl) ?_
                              exact keyB w3 Aa3 A0 ca3 c0 ⟨hb3w, hAA, hBB⟩
                            · go_simp
                              refine (HSt.out _ ((Below.refl _ wc).drew)).mono ?_
                              rintro e w3 ⟨va, A0, c0, rfl, hA3, hB3, hb3⟩
                              obtain ⟨Aa3, ca3, rfl, hA3'⟩ := hA3
                              have hb3w : Below wc.heap.size wc w3 := (Below.refl _ wc).drew.trans hb3
                              have hAA : ArgsS (fun k => wc.heap.size ≤ k) w3 (.slice Aa3 s.xs.length ca3) s.xs := ⟨Aa3, ca3, rfl, hA3'⟩
                              have hBB : BodyS (fun k => wc.heap.size ≤ k) w3 A0 s.sub := hB3
                              have c3 : w3.cell? ⟨g, j * 5 + 4, none⟩ = some (.slice Ab nb cb) := cell_old hb3w zg f4
                              have z3 : g < w3.heap.size := Nat.lt_of_lt_of_le zg hb3w.size
                              clear hA3' hB3
                              have hS3 := HSb.out w3 hb3w
                              refine hKQ.out _ _ hS3 (fun _ => ?_)
                              clear hKQ KQ
                              try simp only [Act.put, List.setIfInBounds_toArray, List.set_cons_zero, List.set_cons_succ]
                              refine wpAnyH_ready (rs := [8, 21]) (by kernel_rfl) (by simp) ?_
                              refine AllReadyH.cons (o := ⟨_, _, _, _, _, _⟩) rfl (fun KQ hKQ => ?_) (AllReadyH.cons (o := ⟨_, _, _, _, _, _⟩) rfl (fun KQ hKQ => ?_) AllReadyH.nil)
                              · go_simp
                                refine hKQ.out _ _ hS3 (fun _ => ?_)
                                clear hKQ KQ
                                try simp only [Act.put, List.setIfInBounds_toArray, List.set_cons_zero, List.set_cons_succ]
                                refine wpAnyH_ready (rs := [21]) (by kernel_rfl) (by simp) ?_
                                refine AllReadyH.cons (o := ⟨_, _, _, _, _, _⟩) rfl (fun KQ hKQ => ?_) AllReadyH.nil
                                go_simp
                                have hS4 := HSb.out (w3.alloc (.cells #[.int .u8 s.k, .int .u8 s.a.1, .int .i64 s.a.2, .int .u8 s.b.1, .int .i64 s.b.2, .slice Aa3 s.xs.length ca3, .slice A0 s.sub.len c0] 50)) (hb3w.alloc hb3w.size _)
                                refine hKQ.out _ _ hS4 (fun _ => ?_)
                                clear hKQ KQ
                                try simp only [Act.put, List.setIfInBounds_toArray, List.set_cons_zero, List.set_cons_succ]
                                refine listed_eq (l' := #[true, true, true, true, true, true, true, true, true, true, true, true, true, true, true, true, true, true, true, true, true, true, false, false, false, false]) (by kernel_rfl) ?_
                                exact keyB w3 Aa3 A0 ca3 c0 ⟨hb3w, hAA, hBB⟩
                              · go_simp
                                have hS4 := HSb.out (w3.alloc (.cells #[.int .u8 s.k, .int .u8 s.a.1, .int .i64 s.a.2, .int .u8 s.b.1, .int .i64 s.b.2, .slice Aa3 s.xs.length ca3, .slice A0 s.sub.len c0] 50)) (hb3w.alloc hb3w.size _)
                                refine hKQ.out _ _ hS4 (fun _ => ?_)
                                clear hKQ KQ
                                try simp only [Act.put, List.setIfInBounds_toArray, List.set_cons_zero, List.set_cons_succ]
                                refine wpAnyH_ready (rs := [8]) (by kernel_rfl) (by simp) ?_
                                refine AllReadyH.cons (o := ⟨_, _, _, _, _, _⟩) rfl (fun KQ hKQ => ?_) AllReadyH.nil
                                go_simp
                                refine hKQ.out _ _ hS4 (fun _ => ?_)
                                clear hKQ KQ
                                try simp only [Act.put, List.setIfInBounds_toArray, List.set_cons_zero, List.set_cons_succ]
                                refine listed_eq (l' := #[true, true, true, true, true, true, true, true, true, true, true, true, true, true, true, true, true, true, true, true, true, true, false, false, false, false]) (by kernel_rfl) ?_
                                exact keyB w3 Aa3 A0 ca3 c0 ⟨hb3w, hAA, hBB⟩
                        case h2 =>
                          intro w3 Aa3 A0 ca3 c0 hF3
                          obtain ⟨hb3w, hAA, hBB⟩ := hF3
                          clear hHeld
                          have c3 : w3.cell? ⟨g, j * 5 + 4, none⟩ = some (.slice Ab nb cb) := cell_old hb3w zg f4
                          have z3 : g < w3.heap.size := Nat.lt_of_lt_of_le zg hb3w.size
                          obtain ⟨q5, c5, w5, hr5, k5, kf5, HA5⟩ := HA.out.push42 (o := j * 5 + 4) hjn rfl hv hT HNB.out (by omega) s Aa3 A0 ca3 c0 _ _ rfl rfl hb3w hAA hBB
                          refine wpAnyH_ready (rs := [22]) (by kernel_rfl) (by simp) ?_
                          refine AllReadyH.cons (o := ⟨_, _, _, _, _, _⟩) rfl (fun KQ hKQ => ?_) AllReadyH.nil
                          refine step_append_run _ (by rfl) _ _ _ (by rfl) _ _ (by rfl) (by rfl) _ _ hr5 ?_
                          have hS5 := HSk.out w5 (fun q hq hne => (Below.heap_setCell w5 ⟨g, j * 5 + 4, none⟩ _ q hne).symm.trans (HA5.out.keep q hq hne))
                          refine hKQ.out _ _ hS5 (fun _ => ?_)
                          clear hKQ KQ
                          try simp only [Act.put, List.setIfInBounds_toArray, List.set_cons_zero, List.set_cons_succ]
                          refine wpAnyH_take (i := 23) (oi := ⟨_, _, _, _, _, _⟩) (v := ?_) rfl (by kernel_rfl) (by kernel_rfl) (by kernel_rfl) (fun _ _ _ h => h) (Or.inl ⟨by rfl, ?_⟩) (by assumption) ?_
                          rotate_left
                          · (intro W hSW; (try dsimp only at hSW); go_simp; first | done | with_reducible rfl)
                          try simp only [Act.put, List.setIfInBounds_toArray, List.set_cons_zero, List.set_cons_succ]
                          refine wpAnyH_take (i := 24) (oi := ⟨_, _, _, _, _, _⟩) (v := ?_) rfl (by kernel_rfl) (by kernel_rfl) (by kernel_rfl) (fun _ _ _ h => h) (Or.inl ⟨by rfl, ?_⟩) (by assumption) ?_
                          rotate_left
                          · (intro W hSW; (try dsimp only at hSW); go_simp; first | done | with_reducible rfl)
                          try simp only [Act.put, List.setIfInBounds_toArray, List.set_cons_zero, List.set_cons_succ]
                          refine wpAnyH_ready (rs := [25]) (by kernel_rfl) (by simp) ?_
                          refine AllReadyH.cons (o := ⟨_, _, _, _, _, _⟩) rfl (fun KQ hKQ => ?_) AllReadyH.nil
                          go_simp
                          refine hKQ.out _ _ (HSk.out _ HA5.out.keep) (fun _ => ?_)
                          clear hKQ KQ
                          try simp only [Act.put, List.setIfInBounds_toArray, List.set_cons_zero, List.set_cons_succ]
                          refine wpAnyH_done (by kernel_rfl) ?_ _
                          clear hS5 hr5 k5 kf5 c3 z3 hb3w hAA hBB
                          go_wp2_with fail
                          go_roundw
                          case rel =>
                            refine ⟨k + 1, Vs.set j (.slice (some ⟨q5, 0, none⟩) (nb + 1) c5), by omega, by omega, by go_num, ?_⟩
                            have e : mkT F i n na acts (k + 1) = (mkT F i n na acts k).set j (T ++ [s]) := by simp only [mkT]; rw [← HJD.out, HTD.out, HXD.out, HSD.out]
                            rw [e]
                            exact HA5
                          case measure => simp [intOf]; omega
                      | true =>
                        go_upto_region 40 with (fail)
                        refine wp_region_held_drew (S := (fun W => Blk W (w.heap.size + 1 + 1) 30 #[.slice As ns cs, .slice Ag i cg, .slice (some ⟨g, 0, none⟩) n cf, .slice Ae ne ce] ∧ Blk W w.heap.size 24 #[.int .u8 (G : Int), .int .u8 (F : Int), .int .u8 (E : Int), .slice (some ⟨ba, oa, none⟩) na ca] ∧ W.cell? ⟨ba, oa + k * 4, none⟩ = some (.int .u8 (xk : Int)) ∧ W.cell? ⟨ba, oa + k * 4 + 1, none⟩ = some (.int .u8 (xa : Int)) ∧ W.cell? ⟨ba, oa + k * 4 + 2, none⟩ = some (.int .u8 (xb : Int)) ∧ W.cell? ⟨ba, oa + k * 4 + 3, none⟩ = some (.int .u8 (xc : Int)))) (by kernel_rfl) (HSb.out wc.drew ((Below.refl _ wc).drew)) (fun hHeld => ?_)
                        refine wpAnyH_take (i := 0) (oi := ⟨_, _, _, _, _, _⟩) (v := ?_) rfl (by kernel_rfl) (by kernel_rfl) (by kernel_rfl) (fun _ _ _ h => h) (Or.inl ⟨by rfl, ?_⟩) (by assumption) ?_
                        rotate_left
                        · (intro W hSW; (try dsimp only at hSW); obtain ⟨s1, s2, s3, s4, s5, s6⟩ := hSW; obtain ⟨p0, p1, p2, p3⟩ := s1.c4; obtain ⟨p4, p5, p6, p7⟩ := s2.c4; go_simp; first | done | with_reducible rfl)
                        try simp only [Act.put, List.setIfInBounds_toArray, List.set_cons_zero, List.set_cons_succ]
                        refine wpAnyH_take (i := 1) (oi := ⟨_, _, _, _, _, _⟩) (v := ?_) rfl (by kernel_rfl) (by kernel_rfl) (by kernel_rfl) (fun _ _ _ h => h) (Or.inl ⟨by rfl, ?_⟩) (by assumption) ?_
                        rotate_left
                        · (intro W hSW; (try dsimp only at hSW); obtain ⟨s1, s2, s3, s4, s5, s6⟩ := hSW; obtain ⟨p0, p1, p2, p3⟩ := s1.c4; obtain ⟨p4, p5, p6, p7⟩ := s2.c4; go_simp; first | done | with_reducible rfl)
                        try simp only [Act.put, List.setIfInBounds_toArray, List.set_cons_zero, List.set_cons_succ]
                        refine wpAnyH_take (i := 2) (oi := ⟨_, _, _, _, _, _⟩) (v := ?_) rfl (by kernel_rfl) (by kernel_rfl) (by kernel_rfl) (fun _ _ _ h => h) (Or.inl ⟨by rfl, ?_⟩) (by assumption) ?_
                        rotate_left
                        · (intro W hSW; (try dsimp only at hSW); obtain ⟨s1, s2, s3, s4, s5, s6⟩ := hSW; obtain ⟨p0, p1, p2, p3⟩ := s1.c4; obtain ⟨p4, p5, p6, p7⟩ := s2.c4; go_simp; first | done | with_reducible rfl)
                        try simp only [Act.put, List.setIfInBounds_toArray, List.set_cons_zero, List.set_cons_succ]
                        refine wpAnyH_take (i := 3) (oi := ⟨_, _, _, _, _, _⟩) (v := ?_) rfl (by kernel_rfl) (by kernel_rfl) (by kernel_rfl) (fun _ _ _ h => h) (Or.inl ⟨by rfl, ?_⟩) (by assumption) ?_
                        rotate_left
                        · (intro W hSW; (try dsimp only at hSW); obtain ⟨s1, s2, s3, s4, s5, s6⟩ := hSW; obtain ⟨p0, p1, p2, p3⟩ := s1.c4; obtain ⟨p4, p5, p6, p7⟩ := s2.c4; go_simp; first | done | with_reducible rfl)
                        try simp only [Act.put, List.setIfInBounds_toArray, List.set_cons_zero, List.set_cons_succ]
                        refine wpAnyH_take (i := 4) (oi := ⟨_, _, _, _, _, _⟩) (v := ?_) rfl (by kernel_rfl) (by kernel_rfl) (by kernel_rfl) (fun _ _ _ h => h) (Or.inl ⟨by rfl, ?_⟩) (by assumption) ?_
                        rotate_left
                        · (intro W hSW; (try dsimp only at hSW); obtain ⟨s1, s2, s3, s4, s5, s6⟩ := hSW; obtain ⟨p0, p1, p2, p3⟩ := s1.c4; obtain ⟨p4, p5, p6, p7⟩ := s2.c4; go_simp; first | done | with_reducible rfl)
                        try simp only [Act.put, List.setIfInBounds_toArray, List.set_cons_zero, List.set_cons_succ]
                        refine wpAnyH_take (i := 6) (oi := ⟨_, _, _, _, _, _⟩) (v := ?_) rfl (by kernel_rfl) (by kernel_rfl) (by kernel_rfl) (fun _ _ _ h => h) (Or.inl ⟨by rfl, ?_⟩) (by assumption) ?_
                        rotate_left
                        · (intro W hSW; (try dsimp only at hSW); obtain ⟨s1, s2, s3, s4, s5, s6⟩ := hSW; obtain ⟨p0, p1, p2, p3⟩ := s1.c4; obtain ⟨p4, p5, p6, p7⟩ := s2.c4; go_simp; first | done | with_reducible rfl)
                        try simp only [Act.put, List.setIfInBounds_toArray, List.set_cons_zero, List.set_cons_succ]
                        refine wpAnyH_take (i := 7) (oi := ⟨_, _, _, _, _, _⟩) (v := ?_) rfl (by kernel_rfl) (by kernel_rfl) (by kernel_rfl) (fun _ _ _ h => h) (Or.inl ⟨by rfl, ?_⟩) (by assumption) ?_
                        rotate_left
                        · (intro W hSW; (try dsimp only at hSW); obtain ⟨s1, s2, s3, s4, s5, s6⟩ := hSW; obtain ⟨p0, p1, p2, p3⟩ := s1.c4; obtain ⟨p4, p5, p6, p7⟩ := s2.c4; go_simp; first | done | with_reducible rfl)
                        try simp only [Act.put, List.setIfInBounds_toArray, List.set_cons_zero, List.set_cons_succ]
                        refine wpAnyH_take (i := 8) (oi := ⟨_, _, _, _, _, _⟩) (v := ?_) rfl (by kernel_rfl) (by kernel_rfl) (by kernel_rfl) (fun _ _ _ h => h) (Or.inl ⟨by rfl, ?_⟩) (by assumption) ?_
                        rotate_left
                        · (intro W hSW; (try dsimp only at hSW); obtain ⟨s1, s2, s3, s4, s5, s6⟩ := hSW; obtain ⟨p0, p1, p2, p3⟩ := s1.c4; obtain ⟨p4, p5, p6, p7⟩ := s2.c4; go_simp; first | done | with_reducible rfl)
                        try simp only [Act.put, List.setIfInBounds_toArray, List.set_cons_zero, List.set_cons_succ]
                        refine wpAnyH_take (i := 9) (oi := ⟨_, _, _, _, _, _⟩) (v := ?_) rfl (by kernel_rfl) (by kernel_rfl) (by kernel_rfl) (fun _ _ _ h => h) (Or.inl ⟨by rfl, ?_⟩) (by assumption) ?_
                        rotate_left
                        · (intro W hSW; (try dsimp only at hSW); obtain ⟨s1, s2, s3, s4, s5, s6⟩ := hSW; obtain ⟨p0, p1, p2, p3⟩ := s1.c4; obtain ⟨p4, p5, p6, p7⟩ := s2.c4; go_simp; first | done | with_reducible rfl)
                        try simp only [Act.put, List.setIfInBounds_toArray, List.set_cons_zero, List.set_cons_succ]
                        refine wpAnyH_take (i := 10) (oi := ⟨_, _, _, _, _, _⟩) (v := ?_) rfl (by kernel_rfl) (by kernel_rfl) (by kernel_rfl) (fun _ _ _ h => h) (Or.inl ⟨by rfl, ?_⟩) (by assumption) ?_
                        rotate_left
                        · (intro W hSW; (try dsimp only at hSW); obtain ⟨s1, s2, s3, s4, s5, s6⟩ := hSW; obtain ⟨p0, p1, p2, p3⟩ := s1.c4; obtain ⟨p4, p5, p6, p7⟩ := s2.c4; go_simp; first | done | with_reducible rfl)
                        try simp only [Act.put, List.setIfInBounds_toArray, List.set_cons_zero, List.set_cons_succ]
                        refine wpAnyH_take (i := 12) (oi := ⟨_, _, _, _, _, _⟩) (v := ?_) rfl (by kernel_rfl) (by kernel_rfl) (by kernel_rfl) (fun _ _ _ h => h) (Or.inl ⟨by rfl, ?_⟩) (by assumption) ?_
                        rotate_left
                        · (intro W hSW; (try dsimp only at hSW); obtain ⟨s1, s2, s3, s4, s5, s6⟩ := hSW; obtain ⟨p0, p1, p2, p3⟩ := s1.c4; obtain ⟨p4, p5, p6, p7⟩ := s2.c4; go_simp; first | done | with_reducible rfl)
                        try simp only [Act.put, List.setIfInBounds_toArray, List.set_cons_zero, List.set_cons_succ]
                        refine wpAnyH_take (i := 13) (oi := ⟨_, _, _, _, _, _⟩) (v := ?_) rfl (by kernel_rfl) (by kernel_rfl) (by kernel_rfl) (fun _ _ _ h => h) (Or.inl ⟨by rfl, ?_⟩) (by assumption) ?_
                        rotate_left
                        · (intro W hSW; (try dsimp only at hSW); obtain ⟨s1, s2, s3, s4, s5, s6⟩ := hSW; obtain ⟨p0, p1, p2, p3⟩ := s1.c4; obtain ⟨p4, p5, p6, p7⟩ := s2.c4; go_simp; first | done | with_reducible rfl)
                        try simp only [Act.put, List.setIfInBounds_toArray, List.set_cons_zero, List.set_cons_succ]
                        refine wpAnyH_take (i := 14) (oi := ⟨_, _, _, _, _, _⟩) (v := ?_) rfl (by kernel_rfl) (by kernel_rfl) (by kernel_rfl) (fun _ _ _ h => h) (Or.inl ⟨by rfl, ?_⟩) (by assumption) ?_
                        rotate_left
                        · (intro W hSW; (try dsimp only at hSW); obtain ⟨s1, s2, s3, s4, s5, s6⟩ := hSW; obtain ⟨p0, p1, p2, p3⟩ := s1.c4; obtain ⟨p4, p5, p6, p7⟩ := s2.c4; go_simp; first | done | with_reducible rfl)
                        try simp only [Act.put, List.setIfInBounds_toArray, List.set_cons_zero, List.set_cons_succ]
                        refine wpAnyH_take (i := 15) (oi := ⟨_, _, _, _, _, _⟩) (v := ?_) rfl (by kernel_rfl) (by kernel_rfl) (by kernel_rfl) (fun _ _ _ h => h) (Or.inl ⟨by rfl, ?_⟩) (by assumption) ?_
                        rotate_left
                        · (intro W hSW; (try dsimp only at hSW); obtain ⟨s1, s2, s3, s4, s5, s6⟩ := hSW; obtain ⟨p0, p1, p2, p3⟩ := s1.c4; obtain ⟨p4, p5, p6, p7⟩ := s2.c4; go_simp; first | done | with_reducible rfl)
                        try simp only [Act.put, List.setIfInBounds_toArray, List.set_cons_zero, List.set_cons_succ]
                        refine wpAnyH_take (i := 16) (oi := ⟨_, _, _, _, _, _⟩) (v := ?_) rfl (by kernel_rfl) (by kernel_rfl) (by kernel_rfl) (fun _ _ _ h => h) (Or.inl ⟨by rfl, ?_⟩) (by assumption) ?_
                        rotate_left
                        · (intro W hSW; (try dsimp only at hSW); obtain ⟨s1, s2, s3, s4, s5, s6⟩ := hSW; obtain ⟨p0, p1, p2, p3⟩ := s1.c4; obtain ⟨p4, p5, p6, p7⟩ := s2.c4; go_simp; first | done | with_reducible rfl)
                        try simp only [Act.put, List.setIfInBounds_toArray, List.set_cons_zero, List.set_cons_succ]
                        apply later5 (F := fun w3 Aa3 A0 ca3 c0 => Below wc.heap.size wc w3 ∧ ArgsS (fun k => wc.heap.size ≤ k) w3 (.slice Aa3 s.xs.length ca3) s.xs ∧ BodyS (fun k => wc.heap.size ≤ k) w3 A0 s.sub)
                        case h1 =>
                          intro keyB
                          apply later5 (F := fun w3 Aa3 A0 ca3 c0 => Below wc.heap.size wc w3 ∧ ArgsS (fun k => wc.heap.size ≤ k) w3 (.slice Aa3 s.xs.length ca3) s.xs ∧ BodyS (fun k => wc.heap.size ≤ k) w3 A0 s.sub ∧ Blk w3 wc.heap.size 50 #[.int .u8 0, .int .u8 0, .int .i64 0, .int .u8 0, .int .i64 0, .slice none 0 0, .slice none 0 0])
                          case h1 =>
                            intro keyA
                            refine wpAnyH_ready (rs := [5, 11, 19]) (by kernel_rfl) (by simp) ?_
                            refine AllReadyH.cons (o := ⟨_, _, _, _, _, _⟩) rfl (fun KQ hKQ => ?_) (AllReadyH.cons (o := ⟨_, _, _, _, _, _⟩) rfl (fun KQ hKQ => ?_) (AllReadyH.cons (o := ⟨_, _, _, _, _, _⟩) rfl (fun KQ hKQ => ?_) AllReadyH.nil))
                            · go_simp
                              refine hKQ.out _ _ hHeld (fun _ => ?_)
                              clear hKQ KQ
                              try simp only [Act.put, List.setIfInBounds_toArray, List.set_cons_zero, List.set_cons_succ]
                              refine wpAnyH_take (i := 18) (oi := ⟨_, _, _, _, _, _⟩) (v := ?_) rfl (by kernel_rfl) (by kernel_rfl) (by kernel_rfl) (fun _ _ _ h => h) (Or.inl ⟨by rfl, ?_⟩) (by assumption) ?_
                              rotate_left
                              · (intro W hSW; (try dsimp only at hSW); go_simp; first | done | with_reducible rfl)
                              try simp only [Act.put, List.setIfInBounds_toArray, List.set_cons_zero, List.set_cons_succ]
                              refine wpAnyH_ready (rs := [11, 19]) (by kernel_rfl) (by simp) ?_
                              refine AllReadyH.cons (o := ⟨_, _, _, _, _, _⟩) rfl (fun KQ hKQ => ?_) (AllReadyH.cons (o := ⟨_, _, _, _, _, _⟩) rfl (fun KQ hKQ => ?_) AllReadyH.nil)
                              · go_simp
                                refine hKQ.out _ _ hHeld (fun _ => ?_)
                                clear hKQ KQ
                                try simp only [Act.put, List.setIfInBounds_toArray, List.set_cons_zero, List.set_cons_succ]
                                refine wpAnyH_ready (rs := [17, 19]) (by kernel_rfl) (by simp) ?_
                                refine AllReadyH.cons (o := ⟨_, _, _, _, _, _⟩) rfl (fun KQ hKQ => ?_) (AllReadyH.cons (o := ⟨_, _, _, _, _, _⟩) rfl (fun KQ hKQ => ?_) AllReadyH.nil)
                                · go_simp
                                  refine (HSt.out _ ((Below.refl _ wc).drew)).mono ?_
                                  rintro e w3 ⟨va, A0, c0, rfl, hA3, hB3, hb3⟩
                                  obtain ⟨Aa3, ca3, rfl, hA3'⟩ := hA3
                                  have hb3w : Below wc.heap.size wc w3 := (Below.refl _ wc).drew.trans hb3
                                  have hAA : ArgsS (fun k => wc.heap.size ≤ k) w3 (.slice Aa3 s.xs.length ca3) s.xs := ⟨Aa3, ca3, rfl, hA3'⟩
                                  have hBB : BodyS (fun k => wc.heap.size ≤ k) w3 A0 s.sub := hB3
                                  have c3 : w3.cell? ⟨g, j * 5 + 4, none⟩ = some (.slice Ab nb cb) := cell_old hb3w zg f4
                                  have z3 : g < w3.heap.size := Nat.lt_of_lt_of_le zg hb3w.size
                                  clear hA3' hB3
                                  have hS3 := HSb.out w3 hb3w
                                  refine hKQ.out _ _ hS3 (fun _ => ?_)
                                  clear hKQ KQ
                                  try simp only [Act.put, List.setIfInBounds_toArray, List.set_cons_zero, List.set_cons_succ]
                                  refine wpAnyH_ready (rs := [19]) (by kernel_rfl) (by simp) ?_
                                  refine AllReadyH.cons (o := ⟨_, _, _, _, _, _⟩) rfl (fun KQ hKQ => ?_) AllReadyH.nil
                                  go_simp
                                  have hSz := HSb.out (w3.alloc (.cells #[.int .u8 0, .int .u8 0, .int .i64 0, .int .u8 0, .int .i64 0, .slice none 0 0, .slice none 0 0] 50)) (hb3w.alloc hb3w.size _)
                                  refine hKQ.out _ _ hSz (fun _ => ?_)
                                  clear hKQ KQ
                                  try simp only [Act.put, List.setIfInBounds_toArray, List.set_cons_zero, List.set_cons_succ]
                                  refine listed_eq (l' := #[true, true, true, true, true, true, true, true, true, true, true, true, true, true, true, true, true, true, true, true, false, false, false, false]) (by kernel_rfl) ?_
                                  exact keyB w3 Aa3 A0 ca3 c0 ⟨hb3w, hAA, hBB⟩
                                · go_simp
                                  have hSz := HSb.out (wc.drew.alloc (.cells #[.int .u8 0, .int .u8 0, .int .i64 0, .int .u8 0, .int .i64 0, .slice none 0 0, .slice none 0 0] 50)) ((Below.refl _ wc).drew.alloc (Nat.le_refl _) _)
                                  refine hKQ.out _ _ hSz (fun _ => ?_)
                                  clear hKQ KQ
                                  try simp only [Act.put, List.setIfInBounds_toArray, List.set_cons_zero, List.set_cons_succ]
                                  refine wpAnyH_ready (rs := [17]) (by kernel_rfl) (by simp) ?_
                                  refine AllReadyH.cons (o := ⟨_, _, _, _, _, _⟩) rfl (fun KQ hKQ => ?_) AllReadyH.nil
                                  go_simp
                                  refine (HSt.out _ ((Below.refl _ wc).drew.alloc (Nat.le_refl _) _)).mono ?_
                                  rintro e w3 ⟨va, A0, c0, rfl, hA3, hB3, hb3⟩
                                  obtain ⟨Aa3, ca3, rfl, hA3'⟩ := hA3
                                  have hb3w : Below wc.heap.size wc w3 := ((Below.refl _ wc).drew.alloc (Nat.le_refl _) _).trans (hb3.mono (by simp))
                                  have hAA : ArgsS (fun k => wc.heap.size ≤ k) w3 (.slice Aa3 s.xs.length ca3) s.xs := ArgsS.kept (S := fun k => (wc.drew.alloc (.cells #[.int .u8 0, .int .u8 0, .int .i64 0, .int .u8 0, .int .i64 0, .slice none 0 0, .slice none 0 0] 50)).heap.size ≤ k) ⟨Aa3, ca3, rfl, hA3'⟩ (fun _ _ _ => rfl) (fun k hk _ => by simp at hk; omega)
                                  have hBB : BodyS (fun k => wc.heap.size ≤ k) w3 A0 s.sub := BodyS.kept hB3 (fun _ _ _ => rfl) (fun k hk _ => by simp at hk; omega)
                                  have hzB : Blk w3 wc.heap.size 50 #[.int .u8 0, .int .u8 0, .int .i64 0, .int .u8 0, .int .i64 0, .slice none 0 0, .slice none 0 0] := (Blk.new' wc.drew 50 _ wc.heap.size rfl).old hb3
                                  have c3 : w3.cell? ⟨g, j * 5 + 4, none⟩ = some (.slice Ab nb cb) := cell_old hb3w zg f4
                                  have z3 : g < w3.heap.size := Nat.lt_of_lt_of_le zg hb3w.size
                                  clear hA3' hB3
                                  have hS3 := HSb.out w3 hb3w
                                  refine hKQ.out _ _ hS3 (fun _ => ?_)
                                  clear hKQ KQ
                                  try simp only [Act.put, List.setIfInBounds_toArray, List.set_cons_zero, List.set_cons_succ]
                                  refine listed_eq (l' := #[true, true, true, true, true, true, true, true, true, true, true, true, true, true, true, true, true, true, true, true, false, false, false, false]) (by kernel_rfl) ?_
                                  exact keyA w3 Aa3 A0 ca3 c0 ⟨hb3w, hAA, hBB, hzB⟩
                              · go_simp
                                have hSz := HSb.out (wc.drew.alloc (.cells #[.int .u8 0, .int .u8 0, .int .i64 0, .int .u8 0, .int .i64 0, .slice none 0 0, .slice none 0 0] 50)) ((Below.refl _ wc).drew.alloc (Nat.le_refl _) _)
                                refine hKQ.out _ _ hSz (fun _ => ?_)
                                clear hKQ KQ
                                try simp only [Act.put, List.setIfInBounds_toArray, List.set_cons_zero, List.set_cons_succ]
                                refine wpAnyH_ready (rs := [11]) (by kernel_rfl) (by simp) ?_
                                refine AllReadyH.cons (o := ⟨_, _, _, _, _, _⟩) rfl (fun KQ hKQ => ?_) AllReadyH.nil
                                go_simp
                                refine hKQ.out _ _ hSz (fun _ => ?_)
                                clear hKQ KQ
                                try simp only [Act.put, List.setIfInBounds_toArray, List.set_cons_zero, List.set_cons_succ]
                                refine wpAnyH_ready (rs := [17]) (by kernel_rfl) (by simp) ?_
                                refine AllReadyH.cons (o := ⟨_, _, _, _, _, _⟩) rfl (fun KQ hKQ => ?_) AllReadyH.nil
                                go_simp
                                refine (HSt.out _ ((Below.refl _ wc).drew.alloc (Nat.le_refl _) _)).mono ?_
                                rintro e w3 ⟨va, A0, c0, rfl, hA3, hB3, hb3⟩
                                obtain ⟨Aa3, ca3, rfl, hA3'⟩ := hA3
                                have hb3w : Below wc.heap.size wc w3 := ((Below.refl _ wc).drew.alloc (Nat.le_refl _) _).trans (hb3.mono (by simp))
                                have hAA : ArgsS (fun k => wc.heap.size ≤ k) w3 (.slice Aa3 s.xs.length ca3) s.xs := ArgsS.kept (S := fun k => (wc.drew.alloc (.cells #[.int .u8 0, .int .u8 0, .int .i64 0, .int .u8 0, .int .i64 0, .slice none 0 0, .slice none 0 0] 50)).heap.size ≤ k) ⟨Aa3, ca3, rfl, hA3'⟩ (fun _ _ _ => rfl) (fun k hk _ => by simp at hk; omega)
                                have hBB : BodyS (fun k => wc.heap.size ≤ k) w3 A0 s.sub := BodyS.kept hB3 (fun _ _ _ => rfl) (fun k hk _ => by simp at hk; omega)
                                have hzB : Blk w3 wc.heap.size 50 #[.int .u8 0, .int .u8 0, .int .i64 0, .int .u8 0, .int .i64 0, .slice none 0 0, .slice none 0 0] := (Blk.new' wc.drew 50 _ wc.heap.size rfl).old hb3
                                have c3 : w3.cell? ⟨g, j * 5 + 4, none⟩ = some (.slice Ab nb cb) := cell_old hb3w zg f4
                                have z3 : g < w3.heap.size := Nat.lt_of_lt_of_le zg hb3w.size
                                clear hA3' hB3
                                have hS3 := HSb.out w3 hb3w
                                refine hKQ.out _ _ hS3 (fun _ => ?_)
                                clear hKQ KQ
                                try simp only [Act.put, List.setIfInBounds_toArray, List.set_cons_zero, List.set_cons_succ]
                                refine listed_eq (l' := #[true, true, true, true, true, true, true, true, true, true, true, true, true, true, true, true, true, true, true, true, false, false, false, false]) (by kernel_rfl) ?_
                                exact keyA w3 Aa3 A0 ca3 c0 ⟨hb3w, hAA, hBB, hzB⟩
                            · go_simp
                              refine hKQ.out _ _ hHeld (fun _ => ?_)
                              clear hKQ KQ
                              try simp only [Act.put, List.setIfInBounds_toArray, List.set_cons_zero, List.set_cons_succ]
                              refine wpAnyH_ready (rs := [5, 17, 19]) (by kernel_rfl) (by simp) ?_
                              refine AllReadyH.cons (o := ⟨_, _, _, _, _, _⟩) rfl (fun KQ hKQ => ?_) (AllReadyH.cons (o := ⟨_, _, _, _, _, _⟩) rfl (fun KQ hKQ => ?_) (AllReadyH.cons (o := ⟨_, _, _, _, _, _⟩) rfl (fun KQ hKQ => ?_) AllReadyH.nil))
                              · go_simp
                                refine hKQ.out _ _ hHeld (fun _ => ?_)
                                clear hKQ KQ
                                try simp only [Act.put, List.setIfInBounds_toArray, List.set_cons_zero, List.set_cons_succ]
                                refine wpAnyH_take (i := 18) (oi := ⟨_, _, _, _, _, _⟩) (v := ?_) rfl (by kernel_rfl) (by kernel_rfl) (by kernel_rfl) (fun _ _ _ h => h) (Or.inl ⟨by rfl, ?_⟩) (by assumption) ?_
                                rotate_left
                                · (intro W hSW; (try dsimp only at hSW); go_simp; first | done | with_reducible rfl)
                                try simp only [Act.put, List.setIfInBounds_toArray, List.set_cons_zero, List.set_cons_succ]
                                refine wpAnyH_ready (rs := [17, 19]) (by kernel_rfl) (by simp) ?_
                                refine AllReadyH.cons (o := ⟨_, _, _, _, _, _⟩) rfl (fun KQ hKQ => ?_) (AllReadyH.cons (o := ⟨_, _, _, _, _, _⟩) rfl (fun KQ hKQ => ?_) AllReadyH.nil)
                                · go_simp
                                  refine (HSt.out _ ((Below.refl _ wc).drew)).mono ?_
                                  rintro e w3 ⟨va, A0, c0, rfl, hA3, hB3, hb3⟩
                                  obtain ⟨Aa3, ca3, rfl, hA3'⟩ := hA3
                                  have hb3w : Below wc.heap.size wc w3 := (Below.refl _ wc).drew.trans hb3
                                  have hAA : ArgsS (fun k => wc.heap.size ≤ k) w3 (.slice Aa3 s.xs.length ca3) s.xs := ⟨Aa3, ca3, rfl, hA3'⟩
                                  have hBB : BodyS (fun k => wc.heap.size ≤ k) w3 A0 s.sub := hB3
                                  have c3 : w3.cell? ⟨g, j * 5 + 4, none⟩ = some (.slice Ab nb cb) := cell_old hb3w zg f4
                                  have z3 : g < w3.heap.size := Nat.lt_of_lt_of_le zg hb3w.size
                                  clear hA3' hB3
                                  have hS3 := HSb.out w3 hb3w
                                  refine hKQ.out _ _ hS3 (fun _ => ?_)
                                  clear hKQ KQ
                                  try simp only [Act.put, List.setIfInBounds_toArray, List.set_cons_zero, List.set_cons_succ]
                                  refine wpAnyH_ready (rs := [19]) (by kernel_rfl) (by simp) ?_
                                  refine AllReadyH.cons (o := ⟨_, _, _, _, _, _⟩) rfl (fun KQ hKQ => ?_) AllReadyH.nil
                                  go_simp
                                  have hSz := HSb.out (w3.alloc (.cells #[.int .u8 0, .int .u8 0, .int .i64 0, .int .u8 0, .int .i64 0, .slice none 0 0, .slice none 0 0] 50)) (hb3w.alloc hb3w.size _)
                                  refine hKQ.out _ _ hSz (fun _ => ?_)
                                  clear hKQ KQ
                                  try simp only [Act.put, List.setIfInBounds_toArray, List.set_cons_zero, List.set_cons_succ]
                                  refine listed_eq (l' := #[true, true, true, true, true, true, true, true, true, true, true, true, true, true, true, true, true, true, true, true, false, false, false, false]) (by kernel_rfl) ?_
                                  exact keyB w3 Aa3 A0 ca3 c0 ⟨hb3w, hAA, hBB⟩
                                · go_simp
                                  have hSz := HSb.out (wc.drew.alloc (.cells #[.int .u8 0, .int .u8 0, .int .i64 0, .int .u8 0, .int .i64 0, .slice none 0 0, .slice none 0 0] 50)) ((Below.refl _ wc).drew.alloc (Nat.le_refl _) _)
                                  refine hKQ.out _ _ hSz (fun _ => ?_)
                                  clear hKQ KQ
                                  try simp only [Act.put, List.setIfInBounds_toArray, List.set_cons_zero, List.set_cons_succ]
                                  refine wpAnyH_ready (rs := [17]) (by kernel_rfl) (by simp) ?_
                                  refine AllReadyH.cons (o := ⟨_, _, _, _, _, _⟩) rfl (fun KQ hKQ => ?_) AllReadyH.nil
                                  go_simp
                                  refine (HSt.out _ ((Below.refl _ wc).drew.alloc (Nat.le_refl _) _)).mono ?_
                                  rintro e w3 ⟨va, A0, c0, rfl, hA3, hB3, hb3⟩
                                  obtain ⟨Aa3, ca3, rfl, hA3'⟩ := hA3
                                  have hb3w : Below wc.heap.size wc w3 := ((Below.refl _ wc).drew.alloc (Nat.le_refl _) _).trans (hb3.mono (by simp))
                                  have hAA : ArgsS (fun k => wc.heap.size ≤ k) w3 (.slice Aa3 s.xs.length ca3) s.xs := ArgsS.kept (S := fun k => (wc.drew.alloc (.cells #[.int .u8 0, .int .u8 0, .int .i64 0, .int .u8 0, .int .i64 0, .slice none 0 0, .slice none 0 0] 50)).heap.size ≤ k) ⟨Aa3, ca3, rfl, hA3'⟩ (fun _ _ _ => rfl) (fun k hk _ => by simp at hk; omega)
                                  have hBB : BodyS (fun k => wc.heap.size ≤ k) w3 A0 s.sub := BodyS.kept hB3 (fun _ _ _ => rfl) (fun k hk _ => by simp at hk; omega)
                                  have hzB : Blk w3 wc.heap.size 50 #[.int .u8 0, .int .u8 0, .int .i64 0, .int .u8 0, .int .i64 0, .slice none 0 0, .slice none 0 0] := (Blk.new' wc.drew 50 _ wc.heap.size rfl).old hb3
                                  have c3 : w3.cell? ⟨g, j * 5 + 4, none⟩ = some (.slice Ab nb cb) := cell_old hb3w zg f4
                                  have z3 : g < w3.heap.size := Nat.lt_of_lt_of_le zg hb3w.size
                                  clear hA3' hB3
                                  have hS3 := HSb.out w3 hb3w
                                  refine hKQ.out _ _ hS3 (fun _ => ?_)
                                  clear hKQ KQ
                                  try simp only [Act.put, List.setIfInBounds_toArray, List.set_cons_zero, List.set_cons_succ]
                                  refine listed_eq (l' := #[true, true, true, true, true, true, true, true, true, true, true, true, true, true, true, true, true, true, true, true, false, false, false, false]) (by kernel_rfl) ?_
                                  exact keyA w3 Aa3 A0 ca3 c0 ⟨hb3w, hAA, hBB, hzB⟩
                              · go_simp
                                refine (HSt.out _ ((Below.refl _ wc).drew)).mono ?_
                                rintro e w3 ⟨va, A0, c0, rfl, hA3, hB3, hb3⟩
                                obtain ⟨Aa3, ca3, rfl, hA3'⟩ := hA3
                                have hb3w : Below wc.heap.size wc w3 := (Below.refl _ wc).drew.trans hb3
                                have hAA : ArgsS (fun k => wc.heap.size ≤ k) w3 (.slice Aa3 s.xs.length ca3) s.xs := ⟨Aa3, ca3, rfl, hA3'⟩
                                have hBB : BodyS (fun k => wc.heap.size ≤ k) w3 A0 s.sub := hB3
                                have c3 : w3.cell? ⟨g, j * 5 + 4, none⟩ = some (.slice Ab nb cb) := cell_old hb3w zg f4
                                have z3 : g < w3.heap.size := Nat.lt_of_lt_of_le zg hb3w.size
                                clear hA3' hB3
                                have hS3 := HSb.out w3 hb3w
                                refine hKQ.out _ _ hS3 (fun _ => ?_)
                                clear hKQ KQ
                                try simp only [Act.put, List.setIfInBounds_toArray, List.set_cons_zero, List.set_cons_succ]
                                refine wpAnyH_ready (rs := [5, 19]) (by kernel_rfl) (by simp) ?_
                                refine AllReadyH.cons (o := ⟨_, _, _, _, _, _⟩) rfl (fun KQ hKQ => ?_) (AllReadyH.cons (o := ⟨_, _, _, _, _, _⟩) rfl (fun KQ hKQ => ?_) AllReadyH.nil)
                                · go_simp
                                  refine hKQ.out _ _ hS3 (fun _ => ?_)
                                  clear hKQ KQ
                                  try simp only [Act.put, List.setIfInBounds_toArray, List.set_cons_zero, List.set_cons_succ]
                                  refine wpAnyH_take (i := 18) (oi := ⟨_, _, _, _, _, _⟩) (v := ?_) rfl (by kernel_rfl) (by kernel_rfl) (by kernel_rfl) (fun _ _ _ h => h) (Or.inl ⟨by rfl, ?_⟩) (by assumption) ?_
                                  rotate_left
                                  · (intro W hSW; (try dsimp only at hSW); go_simp; first | done | with_reducible rfl)
                                  try simp only [Act.put, List.setIfInBounds_toArray, List.set_cons_zero, List.set_cons_succ]
                                  refine wpAnyH_ready (rs := [19]) (by kernel_rfl) (by simp) ?_
                                  refine AllReadyH.cons (o := ⟨_, _, _, _, _, _⟩) rfl (fun KQ hKQ => ?_) AllReadyH.nil
                                  go_simp
                                  have hSz := HSb.out (w3.alloc (.cells #[.int .u8 0, .int .u8 0, .int .i64 0, .int .u8 0, .int .i64 0, .slice none 0 0, .slice none 0 0] 50)) (hb3w.alloc hb3w.size _)
                                  refine hKQ.out _ _ hSz (fun _ => ?_)
                                  clear hKQ KQ
                                  try simp only [Act.put, List.setIfInBounds_toArray, List.set_cons_zero, List.set_cons_succ]
                                  refine listed_eq (l' := #[true, true, true, true, true, true, true, true, true, true, true, true, true, true, true, true, true, true, true, true, false, false, false, false]) (by kernel_rfl) ?_
                                  exact keyB w3 Aa3 A0 ca3 c0 ⟨hb3w, hAA, hBB⟩
                                · go_simp
                                  have hSz := HSb.out (w3.alloc (.cells #[.int .u8 0, .int .u8 0, .int .i64 0, .int .u8 0, .int .i64 0, .slice none 0 0, .slice none 0 0] 50)) (hb3w.alloc hb3w.size _)
                                  refine hKQ.out _ _ hSz (fun _ => ?_)
                                  clear hKQ KQ
                                  try simp only [Act.put, List.setIfInBounds_toArray, List.set_cons_zero, List.set_cons_succ]
                                  refine wpAnyH_ready (rs := [5]) (by kernel_rfl) (by simp) ?_
                                  refine AllReadyH.cons (o := ⟨_, _, _, _, _, _⟩) rfl (fun KQ hKQ => ?_) AllReadyH.nil
                                  go_simp
                                  refine hKQ.out _ _ hSz (fun _ => ?_)
                                  clear hKQ KQ
                                  try simp only [Act.put, List.setIfInBounds_toArray, List.set_cons_zero, List.set_cons_succ]
                                  refine wpAnyH_take (i := 18) (oi := ⟨_, _, _, _, _, _⟩) (v := ?_) rfl (by kernel_rfl) (by kernel_rfl) (by kernel_rfl) (fun _ _ _ h => h) (Or.inl ⟨by rfl, ?_⟩) (by assumption) ?_
                                  rotate_left
                                  · (intro W hSW; (try dsimp only at hSW); go_simp; first | done | with_reducible rfl)
                                  try simp only [Act.put, List.setIfInBounds_toArray, List.set_cons_zero, List.set_cons_succ]
                                  refine listed_eq (l' := #[true, true, true, true, true, true, true, true, true, true, true, true, true, true, true, true, true, true, true, true, false, false, false, false]) (by kernel_rfl) ?_
                                  exact keyB w3 Aa3 A0 ca3 c0 ⟨hb3w, hAA, hBB⟩
                              · go_simp
                                have hSz := HSb.out (wc.drew.alloc (.cells #[.int .u8 0, .int .u8 0, .int .i64 0, .int .u8 0, .int .i64 0, .slice none 0 0, .slice none 0 0] 50)) ((Below.refl _ wc).drew.alloc (Nat.le_refl _) _)
                                refine hKQ.out _ _ hSz (fun _ => ?_)
                                clear hKQ KQ
                                try simp only [Act.put, List.setIfInBounds_toArray, List.set_cons_zero, List.set_cons_succ]
                                refine wpAnyH_ready (rs := [5, 17]) (by kernel_rfl) (by simp) ?_
                                refine AllReadyH.cons (o := ⟨_, _, _, _, _, _⟩) rfl (fun KQ hKQ => ?_) (AllReadyH.cons (o := ⟨_, _, _, _, _, _⟩) rfl (fun KQ hKQ => ?_) AllReadyH.nil)
                                · go_simp
                                  refine hKQ.out _ _ hSz (fun _ => ?_)
                                  clear hKQ KQ
                                  try simp only [Act.put, List.setIfInBounds_toArray, List.set_cons_zero, List.set_cons_succ]
                                  refine wpAnyH_take (i := 18) (oi := ⟨_, _, _, _, _, _⟩) (v := ?_) rfl (by kernel_rfl) (by kernel_rfl) (by kernel_rfl) (fun _ _ _ h => h) (Or.inl ⟨by rfl, ?_⟩) (by assumption) ?_
                                  rotate_left
                                  · (intro W hSW; (try dsimp only at hSW); go_simp; first | done | with_reducible rfl)
                                  try simp only [Act.put, List.setIfInBounds_toArray, List.set_cons_zero, List.set_cons_succ]
                                  refine wpAnyH_ready (rs := [17]) (by kernel_rfl) (by simp) ?_
                                  refine AllReadyH.cons (o := ⟨_, _, _, _, _, _⟩) rfl (fun KQ hKQ => ?_) AllReadyH.nil
                                  go_simp
                                  refine (HSt.out _ ((Below.refl _ wc).drew.alloc (Nat.le_refl _) _)).mono ?_
                                  rintro e w3 ⟨va, A0, c0, rfl, hA3, hB3, hb3⟩
                                  obtain ⟨Aa3, ca3, rfl, hA3'⟩ := hA3
                                  have hb3w : Below wc.heap.size wc w3 := ((Below.refl _ wc).drew.alloc (Nat.le_refl _) _).trans (hb3.mono (by simp))
                                  have hAA : ArgsS (fun k => wc.heap.size ≤ k) w3 (.slice Aa3 s.xs.length ca3) s.xs := ArgsS.kept (S := fun k => (wc.drew.alloc (.cells #[.int .u8 0, .int .u8 0, .int .i64 0, .int .u8 0, .int .i64 0, .slice none 0 0, .slice none 0 0] 50)).heap.size ≤ k) ⟨Aa3, ca3, rfl, hA3'⟩ (fun _ _ _ => rfl) (fun k hk _ => by simp at hk; omega)
                                  have hBB : BodyS (fun k => wc.heap.size ≤ k) w3 A0 s.sub := BodyS.kept hB3 (fun _ _ _ => rfl) (fun k hk _ => by simp at hk; omega)
                                  have hzB : Blk w3 wc.heap.size 50 #[.int .u8 0, .int .u8 0, .int .i64 0, .int .u8 0, .int .i64 0, .slice none 0 0, .slice none 0 0] := (Blk.new' wc.drew 50 _ wc.heap.size rfl).old hb3
                                  have c3 : w3.cell? ⟨g, j * 5 + 4, none⟩ = some (.slice Ab nb cb) := cell_old hb3w zg f4
                                  have z3 : g < w3.heap.size := Nat.lt_of_lt_of_le zg hb3w.size
                                  clear hA3' hB3
                                  have hS3 := HSb.out w3 hb3w
                                  refine hKQ.out _ _ hS3 (fun _ => ?_)
                                  clear hKQ KQ
                                  try simp only [Act.put, List.setIfInBounds_toArray, List.set_cons_zero, List.set_cons_succ]
                                  refine listed_eq (l' := #[true, true, true, true, true, true, true, true, true, true, true, true, true, true, true, true, true, true, true, true, false, false, false, false]) (by kernel_rfl) ?_
                                  exact keyA w3 Aa3 A0 ca3 c0 ⟨hb3w, hAA, hBB, hzB⟩
                                · go_simp
                                  refine (HSt.out _ ((Below.refl _ wc).drew.alloc (Nat.le_refl _) _)).mono ?_
                                  rintro e w3 ⟨va, A0, c0, rfl, hA3, hB3, hb3⟩
                                  obtain ⟨Aa3, ca3, rfl, hA3'⟩ := hA3
                                  have hb3w : Below wc.heap.size wc w3 := ((Below.refl _ wc).drew.alloc (Nat.le_refl _) _).trans (hb3.mono (by simp))
                                  have hAA : ArgsS (fun k => wc.heap.size ≤ k) w3 (.slice Aa3 s.xs.length ca3) s.xs := ArgsS.kept (S := fun k => (wc.drew.alloc (.cells #[.int .u8 0, .int .u8 0, .int .i64 0, .int .u8 0, .int .i64 0, .slice none 0 0, .slice none 0 0] 50)).heap.size ≤ k) ⟨Aa3, ca3, rfl, hA3'⟩ (fun _ _ _ => rfl) (fun k hk _ => by simp at hk; omega)
                                  have hBB : BodyS (fun k => wc.heap.size ≤ k) w3 A0 s.sub := BodyS.kept hB3 (fun _ _ _ => rfl) (fun k hk _ => by simp at hk; omega)
                                  have hzB : Blk w3 wc.heap.size 50 #[.int .u8 0, .int .u8 0, .int .i64 0, .int .u8 0, .int .i64 0, .slice none 0 0, .slice none 0 0] := (Blk.new' wc.drew 50 _ wc.heap.size rfl).old hb3
                                  have c3 : w3.cell? ⟨g, j * 5 + 4, none⟩ = some (.slice Ab nb cb) := cell_old hb3w zg f4
                                  have z3 : g < w3.heap.size := Nat.lt_of_lt_of_le zg hb3w.size
                                  clear hA3' hB3
                                  have hS3 := HSb.out w3 hb3w
                                  refine hKQ.out _ _ hS3 (fun _ => ?_)
                                  clear hKQ KQ
                                  try simp only [Act.put, List.setIfInBounds_toArray, List.set_cons_zero, List.set_cons_succ]
                                  refine wpAnyH_ready (rs := [5]) (by kernel_rfl) (by simp) ?_
                                  refine AllReadyH.cons (o := ⟨_, _, _, _, _, _⟩) rfl (fun KQ hKQ => ?_) AllReadyH.nil
                                  go_simp
                                  refine hKQ.out _ _ hS3 (fun _ => ?_)
                                  clear hKQ KQ
                                  try simp only [Act.put, List.setIfInBounds_toArray, List.set_cons_zero, List.set_cons_succ]
                                  refine wpAnyH_take (i := 18) (oi := ⟨_, _, _, _, _, _⟩) (v := ?_) rfl (by kernel_rfl) (by kernel_rfl) (by kernel_rfl) (fun _ _ _ h => h) (Or.inl ⟨by rfl, ?_⟩) (by assumption) ?_
                                  rotate_left
                                  · (intro W hSW; (try dsimp only at hSW); go_simp; first | done | with_reducible rfl)
                                  try simp only [Act.put, List.setIfInBounds_toArray, List.set_cons_zero, List.set_cons_succ]
                                  refine listed_eq (l' := #[true, true, true, true, true, true, true, true, true, true, true, true, true, true, true, true, true, true, true, true, false, false, false, false]) (by kernel_rfl) ?_
                                  exact keyA w3 Aa3 A0 ca3 c0 ⟨hb3w, hAA, hBB, hzB⟩
                            · go_simp
                              have hSz := HSb.out (wc.drew.alloc (.cells #[.int .u8 0, .int .u8 0, .int .i64 0, .int .u8 0, .int .i64 0, .slice none 0 0, .slice none 0 0] 50)) ((Below.refl _ wc).drew.alloc (Nat.le_refl _) _)
                              refine hKQ.out _ _ hSz (fun _ => ?_)
                              clear hKQ KQ
                              try simp only [Act.put, List.setIfInBounds_toArray, List.set_cons_zero, List.set_cons_succ]
                              refine wpAnyH_ready (rs := [5, 11]) (by kernel_rfl) (by simp) ?_
                              refine AllReadyH.cons (o := ⟨_, _, _, _, _, _⟩) rfl (fun KQ hKQ => ?_) (AllReadyH.cons (o := ⟨_, _, _, _, _, _⟩) rfl (fun KQ hKQ => ?_) AllReadyH.nil)
                              · go_simp
                                refine hKQ.out _ _ hSz (fun _ => ?_)
                                clear hKQ KQ
                                try simp only [Act.put, List.setIfInBounds_toArray, List.set_cons_zero, List.set_cons_succ]
                                refine wpAnyH_take (i := 18) (oi := ⟨_, _, _, _, _, _⟩) (v := ?_) rfl (by kernel_rfl) (by kernel_rfl) (by kernel_rfl) (fun _ _ _ h => h) (Or.inl ⟨by rfl, ?_⟩) (by assumption) ?_
                                rotate_left
                                · (intro W hSW; (try dsimp only at hSW); go_simp; first | done | with_reducible rfl)
                                try simp only [Act.put, List.setIfInBounds_toArray, List.set_cons_zero, List.set_cons_succ]
                                refine wpAnyH_ready (rs := [11]) (by kernel_rfl) (by simp) ?_
                                refine AllReadyH.cons (o := ⟨_, _, _, _, _, _⟩) rfl (fun KQ hKQ => ?_) AllReadyH.nil
                                go_simp
                                refine hKQ.out _ _ hSz (fun _ => ?_)
                                clear hKQ KQ
                                try simp only [Act.put, List.setIfInBounds_toArray, List.set_cons_zero, List.set_cons_succ]
                                refine wpAnyH_ready (rs := [17]) (by kernel_rfl) (by simp) ?_
                                refine AllReadyH.cons (o := ⟨_, _, _, _, _, _⟩) rfl (fun KQ hKQ => ?_) AllReadyH.nil
                                go_simp
                                refine (HSt.out _ ((Below.refl _ wc).drew.alloc (Nat.le_refl _) _)).mono ?_
                                rintro e w3 ⟨va, A0, c0, rfl, hA3, hB3, hb3⟩
                                obtain ⟨Aa3, ca3, rfl, hA3'⟩ := hA3
                                have hb3w : Below wc.heap.size wc w3 := ((Below.refl _ wc).drew.alloc (Nat.le_refl _) _).trans (hb3.mono (by simp))
                                have hAA : ArgsS (fun k => wc.heap.size ≤ k) w3 (.slice Aa3 s.xs.length ca3) s.xs := ArgsS.kept (S := fun k => (wc.drew.alloc (.cells #[.int .u8 0, .int .u8 0, .int .i64 0, .int .u8 0, .int .i64 0, .slice none 0 0, .slice none 0 0] 50)).heap.size ≤ k) ⟨Aa3, ca3, rfl, hA3'⟩ (fun _ _ _ => rfl) (fun k hk _ => by simp at hk; omega)
                                have hBB : BodyS (fun k => wc.heap.size ≤ k) w3 A0 s.sub := BodyS.kept hB3 (fun _ _ _ => rfl) (fun k hk _ => by simp at hk; omega)
                                have hzB : Blk w3 wc.heap.size 50 #[.int .u8 0, .int .u8 0, .int .i64 0, .int .u8 0, .int .i64 0, .slice none 0 0, .slice none 0 0] := (Blk.new' wc.drew 50 _ wc.heap.size rfl).old hb3
                                have c3 : w3.cell? ⟨g, j * 5 + 4, none⟩ = some (.slice Ab nb cb) := cell_old hb3w zg f4
                                have z3 : g < w3.heap.size := Nat.lt_of_lt_of_le zg hb3w.size
                                clear hA3' hB3
                                have hS3 := HSb.out w3 hb3w
                                refine hKQ.out _ _ hS3 (fun _ => ?_)
                                clear hKQ KQ
                                try simp only [Act.put, List.setIfInBounds_toArray, List.set_cons_zero, List.set_cons_succ]
                                refine listed_eq (l' := #[true, true, true, true, true, true, true, true, true, true, true, true, true, true, true, true, true, true, true, true, false, false, false, false]) (by kernel_rfl) ?_
                                exact keyA w3 Aa3 A0 ca3 c0 ⟨hb3w, hAA, hBB, hzB⟩
                              · go_simp
                                refine hKQ.out _ _ hSz (fun _ => ?_)
                                clear hKQ KQ
                                try simp only [Act.put, List.setIfInBounds_toArray, List.set_cons_zero, List.set_cons_succ]
                                refine wpAnyH_ready (rs := [5, 17]) (by kernel_rfl) (by simp) ?_
                                refine AllReadyH.cons (o := ⟨_, _, _, _, _, _⟩) rfl (fun KQ hKQ => ?_) (AllReadyH.cons (o := ⟨_, _, _, _, _, _⟩) rfl (fun KQ hKQ => ?_) AllReadyH.nil)
                                · go_simp
                                  refine hKQ.out _ _ hSz (fun _ => ?_)
                                  clear hKQ KQ
                                  try simp only [Act.put, List.setIfInBounds_toArray, List.set_cons_zero, List.set_cons_succ]
                                  refine wpAnyH_take (i := 18) (oi := ⟨_, _, _, _, _, _⟩) (v := ?_) rfl (by kernel_rfl) (by kernel_rfl) (by kernel_rfl) (fun _ _ _ h => h) (Or.inl ⟨by rfl, ?_⟩) (by assumption) ?_
                                  rotate_left
                                  · (intro W hSW; (try dsimp only at hSW); go_simp; first | done | with_reducible rfl)
                                  try simp only [Act.put, List.setIfInBounds_toArray, List.set_cons_zero, List.set_cons_succ]
                                  refine wpAnyH_ready (rs := [17]) (by kernel_rfl) (by simp) ?_
                                  refine AllReadyH.cons (o := ⟨_, _, _, _, _, _⟩) rfl (fun KQ hKQ => ?_) AllReadyH.nil
                                  go_simp
                                  refine (HSt.out _ ((Below.refl _ wc).drew.alloc (Nat.le_refl _) _)).mono ?_
                                  rintro e w3 ⟨va, A0, c0, rfl, hA3, hB3, hb3⟩
                                  obtain ⟨Aa3, ca3, rfl, hA3'⟩ := hA3
                                  have hb3w : Below wc.heap.size wc w3 := ((Below.refl _ wc).drew.alloc (Nat.le_refl _) _).trans (hb3.mono (by simp))
                                  have hAA : ArgsS (fun k => wc.heap.size ≤ k) w3 (.slice Aa3 s.xs.length ca3) s.xs := ArgsS.kept (S := fun k => (wc.drew.alloc (.cells #[.int .u8 0, .int .u8 0, .int .i64 0, .int .u8 0, .int .i64 0, .slice none 0 0, .slice none 0 0] 50)).heap.size ≤ k) ⟨Aa3, ca3, rfl, hA3'⟩ (fun _ _ _ => rfl) (fun k hk _ => by simp at hk; omega)
                                  have hBB : BodyS (fun k => wc.heap.size ≤ k) w3 A0 s.sub := BodyS.kept hB3 (fun _ _ _ => rfl) (fun k hk _ => by simp at hk; omega)
                                  have hzB : Blk w3 wc.heap.size 50 #[.int .u8 0, .int .u8 0, .int .i64 0, .int .u8 0, .int .i64 0, .slice none 0 0, .slice none 0 0] := (Blk.new' wc.drew 50 _ wc.heap.size rfl).old hb3
                                  have c3 : w3.cell? ⟨g, j * 5 + 4, none⟩ = some (.slice Ab nb cb) := cell_old hb3w zg f4
                                  have z3 : g < w3.heap.size := Nat.lt_of_lt_of_le zg hb3w.size
                                  clear hA3' hB3
                                  have hS3 := HSb.out w3 hb3w
                                  refine hKQ.out _ _ hS3 (fun _ => ?_)
                                  clear hKQ KQ
                                  try simp only [Act.put, List.setIfInBounds_toArray, List.set_cons_zero, List.set_cons_succ]
                                  refine listed_eq (l' := #[true, true, true, true, true, true, true, true, true, true, true, true, true, true, true, true, true, true, true, true, false, false, false, false]) (by kernel_rfl) ?_
                                  exact keyA w3 Aa3 A0 ca3 c0 ⟨hb3w, hAA, hBB, hzB⟩
                                · go_simp
                                  refine (HSt.out _ ((Below.refl _ wc).drew.alloc (Nat.le_refl _) _)).mono ?_
                                  rintro e w3 ⟨va, A0, c0, rfl, hA3, hB3, hb3⟩
                                  obtain ⟨Aa3, ca3, rfl, hA3'⟩ := hA3
                                  have hb3w : Below wc.heap.size wc w3 := ((Below.refl _ wc).drew.alloc (Nat.le_refl _) _).trans (hb3.mono (by simp))
                                  have hAA : ArgsS (fun k => wc.heap.size ≤ k) w3 (.slice Aa3 s.xs.length ca3) s.xs := ArgsS.kept (S := fun k => (wc.drew.alloc (.cells #[.int .u8 0, .int .u8 0, .int .i64 0, .int .u8 0, .int .i64 0, .slice none 0 0, .slice none 0 0] 50)).heap.size ≤ k) ⟨Aa3, ca3, rfl, hA3'⟩ (fun _ _ _ => rfl) (fun k hk _ => by simp at hk; omega)
                                  have hBB : BodyS (fun k => wc.heap.size ≤ k) w3 A0 s.sub := BodyS.kept hB3 (fun _ _ _ => rfl) (fun k hk _ => by simp at hk; omega)
                                  have hzB : Blk w3 wc.heap.size 50 #[.int .u8 0, .int .u8 0, .int .i64 0, .int .u8 0, .int .i64 0, .slice none 0 0, .slice none 0 0] := (Blk.new' wc.drew 50 _ wc.heap.size rfl).old hb3
                                  have c3 : w3.cell? ⟨g, j * 5 + 4, none⟩ = some (.slice Ab nb cb) := cell_old hb3w zg f4
                                  have z3 : g < w3.heap.size := Nat.lt_of_lt_of_le zg hb3w.size
                                  clear hA3' hB3
                                  have hS3 := HSb.out w3 hb3w
                                  refine hKQ.out _ _ hS3 (fun _ => ?_)
                                  clear hKQ KQ
                                  try simp only [Act.put, List.setIfInBounds_toArray, List.set_cons_zero, List.set_cons_succ]
                                  refine wpAnyH_ready (rs := [5]) (by kernel_rfl) (by simp) ?_
                                  refine AllReadyH.cons (o := ⟨_, _, _, _, _, _⟩) rfl (fun KQ hKQ => ?_) AllReadyH.nil
                                  go_simp
                                  refine hKQ.out _ _ hS3 (fun _ => ?_)
                                  clear hKQ KQ
                                  try simp only [Act.put, List.setIfInBounds_toArray, List.set_cons_zero, List.set_cons_succ]
                                  refine wpAnyH_take (i := 18) (oi := ⟨_, _, _, _, _, _⟩) (v := ?_) rfl (by kernel_rfl) (by kernel_rfl) (by kernel_rfl) (fun _ _ _ h => h) (Or.inl ⟨by rfl, ?_⟩) (by assumption) ?_
                                  rotate_left
                                  · (intro W hSW; (try dsimp only at hSW); go_simp; first | done | with_reducible rfl)
                                  try simp only [Act.put, List.setIfInBounds_toArray, List.set_cons_zero, List.set_cons_succ]
                                  refine listed_eq (l' := #[true, true, true, true, true, true, true, true, true, true, true, true, true, true, true, true, true, true, true, true, false, false, false, false]) (by kernel_rfl) ?_
                                  exact keyA w3 Aa3 A0 ca3 c0 ⟨hb3w, hAA, hBB, hzB⟩
                          case h2 =>
                            clear keyB
                            intro w3 Aa3 A0 ca3 c0 hF3
                            obtain ⟨hb3w, hAA, hBB, hzB⟩ := hF3
                            clear hHeld
                            have c3 : w3.cell? ⟨g, j * 5 + 4, none⟩ = some (.slice Ab nb cb) := cell_old hb3w zg f4
                            have z3 : g < w3.heap.size := Nat.lt_of_lt_of_le zg hb3w.size
                            obtain ⟨q5, c5, w5, hr5, k5, kf5, hc5, hk5, hz5⟩ := HA.out.push40 (o := j * 5 + 4) (p := nb * 7) hjn rfl hv hT HNB.out rfl (by omega) s Aa3 A0 ca3 c0 _ _ rfl rfl hb3w hAA hBB wc.heap.size hzB
                            obtain ⟨zq5, ⟨y0, y1, y2, y3, y4, y5, y6⟩, fz5, HA5⟩ := hz5 _ rfl
                            have HK5 := Lib.hid hk5
                            clear hk5 hz5
                            refine wpAnyH_ready (rs := [20]) (by kernel_rfl) (by simp) ?_
                            refine AllReadyH.cons (o := ⟨_, _, _, _, _, _⟩) rfl (fun KQ hKQ => ?_) AllReadyH.nil
                            refine step_append_run _ (by rfl) _ _ _ (by rfl) _ _ (by rfl) (by rfl) _ _ hr5 ?_
                            have hS5 := HSk.out w5 HK5.out
                            refine hKQ.out _ _ hS5 (fun _ => ?_)
                            clear hKQ KQ
                            try simp only [Act.put, List.setIfInBounds_toArray, List.set_cons_zero, List.set_cons_succ]
                            refine wpAnyH_take (i := 21) (oi := ⟨_, _, _, _, _, _⟩) (v := ?_) rfl (by kernel_rfl) (by kernel_rfl) (by kernel_rfl) (fun _ _ _ h => h) (Or.inl ⟨by rfl, ?_⟩) (by assumption) ?_
                            rotate_left
                            · (intro W hSW; (try dsimp only at hSW); go_simp; first | done | with_reducible rfl)
                            try simp only [Act.put, List.setIfInBounds_toArray, List.set_cons_zero, List.set_cons_succ]
                            refine wpAnyH_take (i := 22) (oi := ⟨_, _, _, _, _, _⟩) (v := ?_) rfl (by kernel_rfl) (by kernel_rfl) (by kernel_rfl) (fun _ _ _ h => h) (Or.inl ⟨by rfl, ?_⟩) (by assumption) ?_
                            rotate_left
                            · (intro W hSW; (try dsimp only at hSW); go_simp; first | done | with_reducible rfl)
                            try simp only [Act.put, List.setIfInBounds_toArray, List.set_cons_zero, List.set_cons_succ]
                            refine wpAnyH_ready (rs := [23]) (by kernel_rfl) (by simp) ?_
                            refine AllReadyH.cons (o := ⟨_, _, _, _, _, _⟩) rfl (fun KQ hKQ => ?_) AllReadyH.nil
                            go_simp
                            refine hKQ.out _ _ (HSk.out _ (fun q hq hne => (Below.heap_setCell w5 ⟨g, j * 5 + 4, none⟩ _ q hne).trans (HK5.out q hq hne))) (fun _ => ?_)
                            clear hKQ KQ
                            try simp only [Act.put, List.setIfInBounds_toArray, List.set_cons_zero, List.set_cons_succ]
                            refine wpAnyH_done (by kernel_rfl) ?_ _
                            have g0' := fz5 (nb * 7)
                            have g1' := fz5 (nb * 7 + 1)
                            have g2' := fz5 (nb * 7 + 2)
                            have g3' := fz5 (nb * 7 + 3)
                            have g4' := fz5 (nb * 7 + 4)
                            have g5' := fz5 (nb * 7 + 5)
                            have g6' := fz5 (nb * 7 + 6)
                            clear hS5 hr5 k5 kf5 c3 z3 hb3w fz5 HK5 hAA hBB
                            generalize w5.setCell ⟨g, j * 5 + 4, none⟩ (.slice (some ⟨q5, 0, none⟩) (nb + 1) c5) = wz at *
                            go_wp2_with fail
                            go_roundw
                            case rel =>
                              refine ⟨k + 1, Vs.set j (.slice (some ⟨q5, 0, none⟩) (nb + 1) c5), by omega, by omega, by go_num, ?_⟩
                              have e : mkT F i n na acts (k + 1) = (mkT F i n na acts k).set j (T ++ [s]) := by simp only [mkT]; rw [← HJD.out, HTD.out, HXD.out, HSD.out]
                              rw [e]
                              exact HA5
                            case measure => simp [intOf]; omega
                        case h2 =>
                          intro w3 Aa3 A0 ca3 c0 hF3
                          obtain ⟨hb3w, hAA, hBB⟩ := hF3
                          clear hHeld
                          have c3 : w3.cell? ⟨g, j * 5 + 4, none⟩ = some (.slice Ab nb cb) := cell_old hb3w zg f4
                          have z3 : g < w3.heap.size := Nat.lt_of_lt_of_le zg hb3w.size
                          obtain ⟨q5, c5, w5, hr5, k5, kf5, hc5, hk5, hz5⟩ := HA.out.push40 (wA := (w3.alloc (.cells #[.int .u8 0, .int .u8 0, .int .i64 0, .int .u8 0, .int .i64 0, .slice none 0 0, .slice none 0 0] 50))) (o := j * 5 + 4) (p := nb * 7) hjn rfl hv hT HNB.out rfl (by omega) s Aa3 A0 ca3 c0 _ _ rfl rfl (hb3w.alloc hb3w.size _) (hAA.kept (fun k _ hk => heap_alloc_old _ _ hk) (fun _ h _ => h)) (hBB.kept (fun k _ hk => heap_alloc_old _ _ hk) (fun _ h _ => h)) w3.heap.size (Blk.new w3 50 _)
                          obtain ⟨zq5, ⟨y0, y1, y2, y3, y4, y5, y6⟩, fz5, HA5⟩ := hz5 _ rfl
                          have HK5 := Lib.hid hk5
                          clear hk5 hz5
                          refine wpAnyH_ready (rs := [20]) (by kernel_rfl) (by simp) ?_
                          refine AllReadyH.cons (o := ⟨_, _, _, _, _, _⟩) rfl (fun KQ hKQ => ?_) AllReadyH.nil
                          refine step_append_run _ (by rfl) _ _ _ (by rfl) _ _ (by rfl) (by rfl) _ _ hr5 ?_
                          have hS5 := HSk.out w5 HK5.out
                          refine hKQ.out _ _ hS5 (fun _ => ?_)
                          clear hKQ KQ
                          try simp only [Act.put, List.setIfInBounds_toArray, List.set_cons_zero, List.set_cons_succ]
                          refine wpAnyH_take (i := 21) (oi := ⟨_, _, _, _, _, _⟩) (v := ?_) rfl (by kernel_rfl) (by kernel_rfl) (by kernel_rfl) (fun _ _ _ h => h) (Or.inl ⟨by rfl, ?_⟩) (by assumption) ?_
                          rotate_left
                          · (intro W hSW; (try dsimp only at hSW); go_simp; first | done | with_reducible rfl)
                          try simp only [Act.put, List.setIfInBounds_toArray, List.set_cons_zero, List.set_cons_succ]
                          refine wpAnyH_take (i := 22) (oi := ⟨_, _, _, _, _, _⟩) (v := ?_) rfl (by kernel_rfl) (by kernel_rfl) (by kernel_rfl) (fun _ _ _ h => h) (Or.inl ⟨by rfl, ?_⟩) (by assumption) ?_
                          rotate_left
                          · (intro W hSW; (try dsimp only at hSW); go_simp; first | done | with_reducible rfl)
                          try simp only [Act.put, List.setIfInBounds_toArray, List.set_cons_zero, List.set_cons_succ]
                          refine wpAnyH_ready (rs := [23]) (by kernel_rfl) (by simp) ?_
                          refine AllReadyH.cons (o := ⟨_, _, _, _, _, _⟩) rfl (fun KQ hKQ => ?_) AllReadyH.nil
                          go_simp
                          refine hKQ.out _ _ (HSk.out _ (fun q hq hne => (Below.heap_setCell w5 ⟨g, j * 5 + 4, none⟩ _ q hne).trans (HK5.out q hq hne))) (fun _ => ?_)
                          clear hKQ KQ
                          try simp only [Act.put, List.setIfInBounds_toArray, List.set_cons_zero, List.set_cons_succ]
                          refine wpAnyH_done (by kernel_rfl) ?_ _
                          have g0' := fz5 (nb * 7)
                          have g1' := fz5 (nb * 7 + 1)
                          have g2' := fz5 (nb * 7 + 2)
                          have g3' := fz5 (nb * 7 + 3)
                          have g4' := fz5 (nb * 7 + 4)
                          have g5' := fz5 (nb * 7 + 5)
                          have g6' := fz5 (nb * 7 + 6)
                          clear hS5 hr5 k5 kf5 c3 z3 hb3w fz5 HK5 hAA hBB
                          generalize w5.setCell ⟨g, j * 5 + 4, none⟩ (.slice (some ⟨q5, 0, none⟩) (nb + 1) c5) = wz at *
                          go_wp2_with fail
                          go_roundw
                          case rel =>
                            refine ⟨k + 1, Vs.set j (.slice (some ⟨q5, 0, none⟩) (nb + 1) c5), by omega, by omega, by go_num, ?_⟩
                            have e : mkT F i n na acts (k + 1) = (mkT F i n na acts k).set j (T ++ [s]) := by simp only [mkT]; rw [← HJD.out, HTD.out, HXD.out, HSD.out]
                            rw [e]
                            exact HA5
                          case measure => simp [intOf]; omega
                · have hkm : k = min na 60 := by omega
                  have bR := kp.out _ _ _ hE3.out.bz (by omega)
                  have hgs : g < wr.heap.size := Nat.lt_of_lt_of_le hA.out.gin.2 hA.out.size
                  have hws : w.heap.size + 1 + 1 + 1 ≤ wr.heap.size := by omega
                  obtain ⟨r1, r2, r3, r4⟩ := hA.out.done hE3.out
                  have hl := hE3.out.lens
                  have hMok := mkM_ok g0 gl F n (mkT F i n na acts k) (entsF E n) (by omega) (by have := HGL.out; omega) (by have := HGL2.out.1; omega) (by rw [HGL.out]; exact HGL2.out.2) (mkT_len _ _ _ _ _ _)
                  have e3 : (fillB (mkL g0 F n) (mkT F i n na acts k)).length = n := by rw [fillB_len _ _ (by rw [mkT_len, mkL_len]), mkL_len]
                  have hMP : Md.mk (mkS g0 F n) gl (fillB (mkL g0 F n) (mkT F i n na acts k)) (entsF E n) = mkM g0 gl F E acts := by
                    unfold mkM
                    rw [← HN.out, HGL2.out.1, HNA.out, hkm]
                  obtain ⟨M, hM⟩ : ∃ M : Md, M = ⟨mkS g0 F n, gl, fillB (mkL g0 F n) (mkT F i n na acts k), entsF E n⟩ := ⟨_, rfl⟩
                  rw [← hM] at hMok
                  have HMP := Lib.hid (hM.trans hMP)
                  have m1 : M.strs.length = ns := by rw [hM]; exact hl.1
                  have m2 : M.globs.length = i := by rw [hM]; exact hl.2.1
                  have m3' : M.funcs.length = n := by rw [hM]; exact e3
                  have m4 : M.ents.length = ne := by rw [hM]; exact hl.2.2.2
                  have HC : Hid (Calls Try.prog 29 #[.agg #[.slice As ns cs, .slice Ag i cg, .slice (some ⟨g, 0, none⟩) n cf, .slice Ae ne ce]] wr (CanPostP (fun i v => Vs[i]? = some v) (fun k => w.heap.size + 1 + 1 + 1 ≤ k) wr M Ae ce)) := by
                    have hc := canon_anyP (fun i v => Vs[i]? = some v) (fun k => w.heap.size + 1 + 1 + 1 ≤ k) As Ag (some ⟨g, 0, none⟩) Ae cs cg cf ce M wr hMok (by rw [m1, hM]; exact r1) (by rw [m2, hM]; exact r2) (by rw [hM]; exact r4) (fun b o hbo j v hj hv => hA.out.cellV (by injection hbo with hbo; injection hbo) (by injection hbo with hbo; injection hbo) (by omega) hv)
                    rw [m1, m2, m3', m4] at hc
                    exact hc
                  have HR3 : Hid (wr.ownsRow B3 3 1 (.slice Ae ne ce) ne (intV M.ents)) := by rw [hM]; exact r3
                  have HbR := Lib.hid bR
                  have Hbel := Lib.hid hA.out.bel
                  have HB3 := Lib.hid hE3.out.b3.1
                  have Hm4 := Lib.hid m4
                  have HBd : Hid (Bds wr W1.heap.size wr.heap.size Vs (mkT F i n na acts k)) := hA.out.bds
                  have HW1 : Hid (w.heap.size + 1 + 1 + 1 ≤ W1.heap.size ∧ W1.heap.size ≤ wr.heap.size) := ⟨by have := hE3.out.b3; omega, hA.out.size⟩
                  have HAe : Hid (∀ k', some k' = (Value.slice Ae ne ce).ownBlock → k' < W1.heap.size) := fun k' hk' => own_lt hE3.out.oe k' hk'
                  have HTs : Hid (∀ i' (h : i' < (canM M).funcs.length), ∃ T, (mkT F i n na acts k)[i']? = some T ∧ (canM M).funcs[i'].body = bdOf T) := by rw [hM]; exact can_bodies _ _ _ _ _ (by rw [mkT_len, mkL_len])
                  clear r1 r2 r3 r4 hl hMok e3 hMP hM m1 m2 m3' m4 bR bD bM kp hA hE3 hkm d0 d1 d2
                  have hx : ¬ k < na ∨ (k < na ∧ ¬ k < 60) := by omega
                  clear hlt
                  rcases hx with hx | ⟨hx, hx6⟩
                  all_goals
                    go_wp2_with fail
                    refine HC.out.mono ?_
                    rintro e w3 ⟨Al, cl, A2, c2, Ax, cx, rfl, h1, h2, h3, h4⟩
                    have bR3 := HbR.out.old h4
                    obtain ⟨k0, k1, k2, k3⟩ := bR3.c4
                    have f0 := bR3.frozen 0
                    have f1 := bR3.frozen 1
                    have f2 := bR3.frozen 2
                    have f3 := bR3.frozen 3
                    have b3lt : w.heap.size + 1 < w3.heap.size := bR3.lt
                    have HF : Hid _ := fun (v0 v1 v2 v3 : Value) (wf : World) hwf => make_endP (v0 := v0) (v1 := v1) (v2 := v2) (v3 := v3) (wf := wf) Hbel.out hws HB3.out Hm4.out.symm HR3.out h1 h2 h3 h4 HW1.out HAe.out HBd.out HTs.out hwf
                    rw [Hm4.out]
                    clear h1 h2 h3 h4 bR3
                    go_wp2_with fail
                    refine bodyPost_ret (v := .agg #[.slice Al (canM M).strs.length cl, .slice A2 (canM M).globs.length c2, .slice Ax (canM M).funcs.length cx, .slice Ae ne ce]) (by simp [results, Try.results16, go_sem, k0, k1, k2, k3]) rfl ?_
                    rw [← HMP.out]
                    exact HF.out _ _ _ _ _ rfl
end Go.Proofs.Ytpdebnecfknohaa
