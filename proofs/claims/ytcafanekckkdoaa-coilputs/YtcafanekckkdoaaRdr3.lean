/-
  What coil's reader returns and leaves at Int and Bytes; and what each call returns of a nil reader.
-/
import Derived.Test.YtcafanekckkdoaaRdr2
namespace Go.Proofs.Ytcafanekckkdoaa
open Go.RowKit

theorem numF_le (l : List Nat) (most : Nat) : (numF l most).1 ≤ most := by
  unfold numF
  split
  · split
    · simp
    · simp; omega
  · simp
theorem numF_fault (l : List Nat) (most : Nat) (h : (numF l most).2.2 ≠ 0) : (numF l most).1 = 0 ∧ (numF l most).2.1 = [] := by
  unfold numF at h ⊢
  split at h
  · rename_i h1
    rw [if_pos h1]
    split at h
    · rename_i h2
      rw [if_pos h2]
      simp
    · simp at h
  · rename_i h1
    rw [if_neg h1]
    simp

def IntPost (w : World) (g : Nat) (r : Nat × List Nat × Nat) (e : Ending) (w' : World) : Prop :=
  e = .returned (.int .i64 r.1) ∧ Rdr w' g r.2.1 r.2.2 ∧ w.grownBy w' (some g)

set_option maxHeartbeats 400000 in
theorem int_any (w : World) (g : Nat) (l : List Nat) (most : Nat) (h : Rdr w g l 0) (hm : most ≤ 1048576000) :
    Calls Try.prog 25 #[.pointer (some ⟨g, 0, none⟩), .int .i64 most] w (IntPost w g (numF l most)) := by
  have H := Lib.hid h
  have hle := numF_le l most
  clear h
  go_enter Try.func25, Try.ntmps25
  go_wp2_with fail
  refine (num_any _ _ _ _ H.out).mono ?_
  rintro e w1 ⟨rfl, hR, hg⟩
  have HR := Lib.hid hR
  have Hg := Lib.hid hg
  clear hR hg
  go_wp2
  go_ret
  exact ⟨rfl, HR.out, Hg.out⟩

set_option maxHeartbeats 400000 in
theorem nil_fault (w : World) : Calls Try.prog 17 #[.pointer none] w fun e w' => e = .returned (.int .i64 2) ∧ w = w' := by
  go_enter Try.func17, Try.ntmps17
  go_wp2
  go_ret
  exact ⟨rfl, rfl⟩
set_option maxHeartbeats 400000 in
theorem nil_left (w : World) : Calls Try.prog 16 #[.pointer none] w fun e w' => e = .returned (.int .i64 0) ∧ w = w' := by
  go_enter Try.func16, Try.ntmps16
  go_wp2
  go_ret
  exact ⟨rfl, rfl⟩
set_option maxHeartbeats 400000 in
theorem nil_fail (w : World) (e : Int) : Calls Try.prog 24 #[.pointer none, .int .i64 e] w fun e w' => e = .returned (.tuple #[]) ∧ w = w' := by
  go_enter Try.func24, Try.ntmps24
  go_wp2
  refine bodyPost_ret (results_none rfl _ _ _) rfl ?_
  exact ⟨rfl, rfl⟩
set_option maxHeartbeats 400000 in
theorem nil_end (w : World) : Calls Try.prog 23 #[.pointer none] w fun e w' => e = .returned (.int .i64 2) ∧ w = w' := by
  go_enter Try.func23, Try.ntmps23
  go_wp2_with fail
  refine (nil_fault _).mono ?_
  rintro e w1 ⟨rfl, rfl⟩
  go_wp2
  go_ret
  exact ⟨rfl, rfl⟩
set_option maxHeartbeats 400000 in
theorem nil_num (w : World) (m : Int) : Calls Try.prog 13 #[.pointer none, .int .u64 m] w fun e w' => e = .returned (.int .u64 0) ∧ w = w' := by
  go_enter Try.func13, Try.ntmps13
  go_wp2_with fail
  refine (nil_fault _).mono ?_
  rintro e w1 ⟨rfl, rfl⟩
  go_wp2
  go_ret
  exact ⟨rfl, rfl⟩
set_option maxHeartbeats 400000 in
theorem nil_int (w : World) : Calls Try.prog 25 #[.pointer none, .int .i64 5] w fun e w' => e = .returned (.int .i64 0) ∧ w = w' := by
  go_enter Try.func25, Try.ntmps25
  go_wp2_with fail
  refine (nil_num _ _).mono ?_
  rintro e w1 ⟨rfl, rfl⟩
  go_wp2
  go_ret
  exact ⟨rfl, rfl⟩
set_option maxHeartbeats 400000 in
theorem nil_bytes (w : World) : Calls Try.prog 22 #[.pointer none, .int .i64 5] w fun e w' => e = .returned (.string ⟨#[]⟩) ∧ w = w' := by
  go_enter Try.func22, Try.ntmps22
  go_wp2_with fail
  refine (nil_int _).mono ?_
  rintro e w1 ⟨rfl, rfl⟩
  go_wp2_with fail
  refine (nil_left _).mono ?_
  rintro e w1 ⟨rfl, rfl⟩
  go_wp2
  go_ret
  exact ⟨rfl, rfl⟩

/-- What Bytes comes to: the bytes, what is left then, the fault. -/
def bytesF (l : List Nat) (most : Nat) : List Nat × List Nat × Nat :=
  if (numF l most).2.2 = 0 then (if (numF l most).2.1.length < (numF l most).1 then ([], [], 3) else ((numF l most).2.1.take (numF l most).1, (numF l most).2.1.drop (numF l most).1, 0)) else ([], [], (numF l most).2.2)

def BytesPost (w : World) (g : Nat) (r : List Nat × List Nat × Nat) (e : Ending) (w' : World) : Prop :=
  e = .returned (.string (str r.1)) ∧ Rdr w' g r.2.1 r.2.2 ∧ w.grownBy w' (some g)

theorem Rdr.cut {w : World} {g b o c rs : Nat} {l : List Nat} {A' : Option Addr} {c' : Nat} (hb : Blk w g 56 #[.slice (some ⟨b, o, none⟩) l.length c, .int .i64 0]) (h3 : l.length ≤ 1048576000) (h4 : ∀ x ∈ l, x < 256)
    (hbg : b ≠ g) (hc : ∀ k, k < l.length → w.cell? ⟨b, o + k, none⟩ = some (B (l.getD k 0))) (hc' : l.length - rs ≤ c') (hA' : 0 < l.length - rs → A' = some ⟨b, o + rs, none⟩) :
    Rdr (w.setCell ⟨g, 0, none⟩ (.slice A' (l.length - rs) c')) g (l.drop rs) 0 := by
  refine ⟨A', c', ?_, by simpa using hc', by simp; omega, fun x hx => h4 x (List.mem_of_mem_drop hx), fun hp => ?_⟩
  · have := hb.set_ 0 (.slice A' (l.length - rs) c')
    simpa using this
  · have hp' : 0 < l.length - rs := by simpa using hp
    refine ⟨b, o + rs, hA' hp', hbg, fun k hk => ?_⟩
    have hk' : k < l.length - rs := by simpa using hk
    rw [World.cell?_setCell_other _ _ _ _ (fun e => hbg (by injection e with e1; exact e1.symm))]
    have := hc (rs + k) (by omega)
    rw [show o + rs + k = o + (rs + k) from by omega, this]
    simp [List.getD, List.getElem?_drop]

set_option maxHeartbeats 1000000 in
theorem bytes_any (w : World) (g : Nat) (l : List Nat) (most : Nat) (h : Rdr w g l 0) (hm : most ≤ 1048576000) :
    Calls Try.prog 22 #[.pointer (some ⟨g, 0, none⟩), .int .i64 most] w (BytesPost w g (bytesF l most)) := by
  have hI := int_any w g l most h hm
  have HI := Lib.hid hI
  have hle := numF_le l most
  have hfa := numF_fault l most
  have hN : Hid (bytesF l most = _) := Lib.hid (bytesF.eq_1 l most)
  clear hI h
  generalize numF l most = r at *
  obtain ⟨rn, rl, rf⟩ := r
  by_cases hf : rf = 0
  · subst hf
    clear hfa
    by_cases hs : rl.length < rn
    · have hV : Hid (bytesF l most = ([], [], 3)) := by show _ = _; rw [hN.out, if_pos rfl, if_pos hs]
      clear hN
      go_enter Try.func22, Try.ntmps22
      go_wp2_with fail
      refine (HI.out).mono ?_
      rintro e w1 ⟨rfl, hR, hg⟩
      have HR := Lib.hid hR
      have Hg := Lib.hid hg
      clear hR hg
      go_wp2_with fail
      refine (left_any _ _ _ _ HR.out).mono ?_
      rintro e w2 ⟨rfl, rfl⟩
      go_wp2_with fail
      refine (fail_any _ _ _ _ HR.out (by rfl)).mono ?_
      rintro e w2 ⟨rfl, hR2, hg2⟩
      go_wp2
      go_ret
      rw [hV.out]
      exact ⟨rfl, hR2, Hg.out.trans hg2⟩
    · have hV : Hid (bytesF l most = (rl.take rn, rl.drop rn, 0)) := by show _ = _; rw [hN.out, if_pos rfl, if_neg hs]
      clear hN
      by_cases hz : rn = 0
      · subst hz
        go_enter Try.func22, Try.ntmps22
        go_wp2_with fail
        refine (HI.out).mono ?_
        rintro e w1 ⟨rfl, hR, hg⟩
        have HR := Lib.hid hR
        have Hg := Lib.hid hg
        clear hR hg
        go_wp2_with fail
        refine (left_any _ _ _ _ HR.out).mono ?_
        rintro e w2 ⟨rfl, rfl⟩
        go_wp2
        go_ret
        rw [hV.out]
        exact ⟨rfl, HR.out, Hg.out⟩
      · have hz1 : ((rn : Int) == 0) = false := by simp; omega
        go_enter Try.func22, Try.ntmps22
        go_wp2_with fail
        refine (HI.out).mono ?_
        rintro e w1 ⟨rfl, hR, hg⟩
        have HR := Lib.hid hR
        have Hg := Lib.hid hg
        clear hR hg
        go_wp2_with fail
        refine (left_any _ _ _ _ HR.out).mono ?_
        rintro e w2 ⟨rfl, rfl⟩
        obtain ⟨A, c, hb, h2, h3, h4, h5⟩ := HR.out
        obtain ⟨b, o, rfl, hbg, hc⟩ := h5 (show 0 < rl.length by omega)
        have h0 := hb.cell 0
        simp at h0
        have f0 := hb.frozen 0
        have hconv := run_convert_bytes_arg (P := Try.prog) w1 22 5 Try.underlying22 Try.underlying5 b o rn c ((rl.take rn).map (fun x : Nat => (x : Int))) (by simp; omega) (fun i hi => by
          rw [hc i (by omega)]
          simp [B, List.getD, List.getElem?_take_of_lt hi, show i < rl.length by omega]) 9 Try.underlying9
        rw [str_eq] at hconv
        have Hc := Lib.hid hc
        have H4 := Lib.hid h4
        have HB := Lib.hid hb
        have h2 : rl.length ≤ c := h2
        have h3 : rl.length ≤ 1048576000 := h3
        clear hb h4 h5 hc
        by_cases hcr : c = rn
        · subst hcr
          go_wp2
          go_ret
          rw [hV.out]
          refine ⟨rfl, ?_, Hg.out.trans (setCell_grown _ _ _ _)⟩
          have := Rdr.cut (A' := some ⟨b, o, none⟩) (c' := 0) (rs := c) HB.out h3 H4.out hbg Hc.out (by omega) (fun h => by omega)
          rw [show rl.length - c = 0 from by omega] at this
          exact this
        · go_wp2
          go_ret
          rw [hV.out]
          refine ⟨rfl, ?_, Hg.out.trans (setCell_grown _ _ _ _)⟩
          exact Rdr.cut HB.out h3 H4.out hbg Hc.out (by omega) (fun _ => rfl)
  · have hV : Hid (bytesF l most = ([], [], rf)) := by show _ = _; rw [hN.out, if_neg hf]
    have h1 := (hfa hf).1
    have h2 := (hfa hf).2
    simp only at h1 h2
    subst h1 h2
    clear hN hfa
    go_enter Try.func22, Try.ntmps22
    go_wp2_with fail
    refine (HI.out).mono ?_
    rintro e w1 ⟨rfl, hR, hg⟩
    have HR := Lib.hid hR
    have Hg := Lib.hid hg
    clear hR hg
    go_wp2_with fail
    refine (left_any _ _ _ _ HR.out).mono ?_
    rintro e w2 ⟨rfl, rfl⟩
    go_wp2
    go_ret
    rw [hV.out]
    exact ⟨rfl, HR.out, Hg.out⟩
end Go.Proofs.Ytcafanekckkdoaa
