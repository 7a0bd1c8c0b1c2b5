/-
  What coil's reader holds, and what each of its calls returns and leaves: Fault, Left, Fail, Num, Int, Bytes, End, NewReader.
-/
import Derived.Test.YtcafanekckkdoaaFirst
import Derived.Laws.OwnMore
import Derived.Laws.Rows
namespace Go.Proofs.Ytcafanekckkdoaa
open Go.RowKit

theorem results_none {fn : Func} (h : fn.results = #[]) (tmps : Array Value) (P : Program) (w : World) : (results fn tmps).run P w = .ok (.tuple #[]) w := by simp [results, h]

def Blk (w : World) (g : Nat) (t : TypeId) (cs : Array Value) : Prop := w.heap[g]? = some (.cells cs t (0, 0))

section
variable {w w' : World} {g : Nat} {t : TypeId} {cs : Array Value}
theorem Blk.lt (h : Blk w g t cs) : g < w.heap.size := by
  rcases Nat.lt_or_ge g w.heap.size with hlt | hge
  · exact hlt
  · unfold Blk at h; rw [Array.getElem?_eq_none hge] at h; cases h
theorem Blk.cell (h : Blk w g t cs) (i : Nat) : w.cell? ⟨g, i, none⟩ = cs[i]? := cell_of_row w g i cs t (0, 0) h
theorem Blk.frozen (h : Blk w g t cs) (i : Nat) : w.frozen? ⟨g, i, none⟩ = false := by
  unfold Blk at h
  simp [World.frozen?, h]
theorem Blk.new (w : World) (t : TypeId) (cs : Array Value) : Blk (w.alloc (.cells cs t)) w.heap.size t cs := heap_alloc_new w _
theorem Blk.set_ (h : Blk w g t cs) (i : Nat) (u : Value) : Blk (w.setCell ⟨g, i, none⟩ u) g t (cs.setIfInBounds i u) := by
  unfold Blk at h ⊢
  simp [World.setCell, Array.getElem?_modify, h]
theorem Blk.grown {row : Option Nat} (h : Blk w g t cs) (hb : w.grownBy w' row) (hg : some g ≠ row) : Blk w' g t cs := (hb.block g h.lt hg).trans h
end

/-- A reader at block g: the bytes that are left, the fault. -/
def Rdr (w : World) (g : Nat) (l : List Nat) (f : Int) : Prop :=
  ∃ A c, Blk w g 56 #[.slice A l.length c, .int .i64 f] ∧ l.length ≤ c ∧ l.length ≤ 1048576000 ∧ (∀ x ∈ l, x < 256) ∧
    (0 < l.length → ∃ b o, A = some ⟨b, o, none⟩ ∧ b ≠ g ∧ ∀ k, k < l.length → w.cell? ⟨b, o + k, none⟩ = some (B (l.getD k 0)))

/-- Only block g has turned, and there may be new blocks. -/
theorem setCell_grown (w : World) (g i : Nat) (u : Value) : w.grownBy (w.setCell ⟨g, i, none⟩ u) (some g) :=
  ⟨rfl, rfl, rfl, by simp [World.setCell], fun k _ hk => Below.heap_setCell w _ u k (fun e => hk (by rw [e]))⟩

theorem Rdr.old {w w' : World} {g : Nat} {l : List Nat} {f : Int} (h : Rdr w g l f) (hb : Below w.heap.size w w') : Rdr w' g l f := by
  obtain ⟨A, c, h1, h2, h3, h4, h5⟩ := h
  refine ⟨A, c, (hb.block g h1.lt).trans h1, h2, h3, h4, fun hp => ?_⟩
  obtain ⟨b, o, rfl, hne, hc⟩ := h5 hp
  exact ⟨b, o, rfl, hne, fun k hk => (World.cell?_of_block (hb.block b (World.block_lt_of_cell? w ⟨b, o + k, none⟩ (hc k hk)))).trans (hc k hk)⟩
theorem Rdr.lt {w : World} {g : Nat} {l : List Nat} {f : Int} (h : Rdr w g l f) : g < w.heap.size := by
  obtain ⟨A, c, h1, _⟩ := h
  exact h1.lt
theorem Rdr.bytes {w : World} {g : Nat} {l : List Nat} {f : Int} (h : Rdr w g l f) : l.length ≤ 1048576000 ∧ ∀ x ∈ l, x < 256 := by
  obtain ⟨A, c, _, _, h3, h4, _⟩ := h
  exact ⟨h3, h4⟩

set_option maxHeartbeats 400000 in
theorem fault_any (w : World) (g : Nat) (l : List Nat) (f : Int) (h : Rdr w g l f) :
    Calls Try.prog 17 #[.pointer (some ⟨g, 0, none⟩)] w fun e w' => e = .returned (.int .i64 f) ∧ w = w' := by
  obtain ⟨A, c, hb, _⟩ := h
  have h1 := hb.cell 1
  simp at h1
  clear hb
  go_enter Try.func17, Try.ntmps17
  go_wp2
  go_ret
  exact ⟨rfl, rfl⟩
set_option maxHeartbeats 400000 in
theorem left_any (w : World) (g : Nat) (l : List Nat) (f : Int) (h : Rdr w g l f) :
    Calls Try.prog 16 #[.pointer (some ⟨g, 0, none⟩)] w fun e w' => e = .returned (.int .i64 l.length) ∧ w = w' := by
  obtain ⟨A, c, hb, _⟩ := h
  have h1 := hb.cell 0
  simp at h1
  clear hb
  go_enter Try.func16, Try.ntmps16
  go_wp2
  go_ret
  exact ⟨rfl, rfl⟩
set_option maxHeartbeats 400000 in
theorem fail_any (w : World) (g : Nat) (l : List Nat) (e : Int) (h : Rdr w g l 0) (he : (e == 0) = false) :
    Calls Try.prog 24 #[.pointer (some ⟨g, 0, none⟩), .int .i64 e] w fun r w' => r = .returned (.tuple #[]) ∧ Rdr w' g [] e ∧ w.grownBy w' (some g) := by
  obtain ⟨A, c, hb, _⟩ := h
  have h0 := hb.cell 0
  have h1 := hb.cell 1
  have f0 := hb.frozen 0
  have f1 := hb.frozen 1
  simp at h0 h1
  have HB := Lib.hid hb
  clear hb
  go_enter Try.func24, Try.ntmps24
  go_wp2
  go_end0
  refine ⟨rfl, ⟨none, 0, ?_, by simp, by simp, by simp, by simp⟩, (setCell_grown w g 1 _).trans (setCell_grown _ g 0 _)⟩
  have := (HB.out.set_ 1 (.int .i64 e)).set_ 0 (.slice none 0 0)
  simpa using this
set_option maxHeartbeats 400000 in
theorem fail_kept (w : World) (g : Nat) (l : List Nat) (f e : Int) (h : Rdr w g l f) (hf : (f != 0) = true ∨ ((f != 0) = false ∧ (e == 0) = true)) :
    Calls Try.prog 24 #[.pointer (some ⟨g, 0, none⟩), .int .i64 e] w fun r w' => r = .returned (.tuple #[]) ∧ w = w' := by
  obtain ⟨A, c, hb, _⟩ := h
  have h1 := hb.cell 1
  simp at h1
  clear hb
  rcases hf with hf | ⟨hf, he⟩
  · go_enter Try.func24, Try.ntmps24
    go_wp2
    refine bodyPost_ret (results_none rfl _ _ _) rfl ?_
    exact ⟨rfl, rfl⟩
  · go_enter Try.func24, Try.ntmps24
    go_wp2
    refine bodyPost_ret (results_none rfl _ _ _) rfl ?_
    exact ⟨rfl, rfl⟩

theorem first_of (A : Option Addr) (c : Nat) (l : List Nat) (w : World) (hl : l.length ≤ 1048576000) (hby : ∀ x ∈ l, x < 256)
    (h : 0 < l.length → ∃ b o, A = some ⟨b, o, none⟩ ∧ ∀ k, k < l.length → w.cell? ⟨b, o + k, none⟩ = some (B (l.getD k 0))) :
    Calls Try.prog 27 #[.slice A l.length c] w fun e w' => e = .returned (.tuple #[.int .u64 (firstF 0 0 l).1, .int .i64 (firstF 0 0 l).2.1, .int .i64 (firstF 0 0 l).2.2]) ∧ w = w' := by
  cases l with
  | nil => exact first_none A c w
  | cons x l =>
    obtain ⟨b, o, rfl, hc⟩ := h (by simp)
    exact first_any b o c (x :: l) w hl hby hc

/-- What Num comes to, of the bytes that are left: the number, what is left then, the fault. -/
def numF (l : List Nat) (most : Nat) : Nat × List Nat × Nat :=
  if (firstF 0 0 l).2.2 = 0 then (if most < (firstF 0 0 l).1 then (0, [], 5) else ((firstF 0 0 l).1, l.drop (firstF 0 0 l).2.1, 0)) else (0, [], (firstF 0 0 l).2.2)

def NumPost (w : World) (g : Nat) (r : Nat × List Nat × Nat) (e : Ending) (w' : World) : Prop :=
  e = .returned (.int .u64 r.1) ∧ Rdr w' g r.2.1 r.2.2 ∧ w.grownBy w' (some g)

set_option maxHeartbeats 400000 in
theorem num_fault (w : World) (g : Nat) (l : List Nat) (f : Int) (most : Int) (h : Rdr w g l f) (hf : (f != 0) = true) :
    Calls Try.prog 13 #[.pointer (some ⟨g, 0, none⟩), .int .u64 most] w fun e w' => e = .returned (.int .u64 0) ∧ w = w' := by
  have H := Lib.hid h
  clear h
  go_enter Try.func13, Try.ntmps13
  go_wp2_with fail
  refine (fault_any _ _ _ _ H.out).mono ?_
  rintro e w1 ⟨rfl, rfl⟩
  go_wp2
  go_ret
  exact ⟨rfl, rfl⟩

set_option maxHeartbeats 1000000 in
theorem num_any (w : World) (g : Nat) (l : List Nat) (most : Nat) (h : Rdr w g l 0) :
    Calls Try.prog 13 #[.pointer (some ⟨g, 0, none⟩), .int .u64 most] w (NumPost w g (numF l most)) := by
  have H := Lib.hid h
  obtain ⟨A, c, hb, h2, h3, h4, h5⟩ := h
  have h0 := hb.cell 0
  simp at h0
  have hF := first_of A c l w h3 h4 (fun hp => by obtain ⟨b, o, e, _, hc⟩ := h5 hp; exact ⟨b, o, e, hc⟩)
  have HF := Lib.hid hF
  have f0 := hb.frozen 0
  have hr := first_range l 0 0
  have hN : Hid (numF l most = _) := Lib.hid (numF.eq_1 l most)
  have hpos : (firstF 0 0 l).2.2 = 0 → 0 < l.length := by
    intro h
    cases l with
    | nil => simp [firstF] at h
    | cons x l => simp
  have H5 := Lib.hid h5
  have HB := Lib.hid hb
  have H4 := Lib.hid h4
  clear hF hb h4 h5
  generalize firstF 0 0 l = r at *
  obtain ⟨rn, rs, re⟩ := r
  simp only [Nat.zero_add] at hr
  obtain ⟨hr1, hr2, hr3⟩ := hr
  have Hr1 := Lib.hid hr1
  clear hr1
  by_cases he : re = 0
  · subst he
    obtain ⟨b, o, rfl, hbg, hc⟩ := H5.out (hpos rfl)
    have Hc := Lib.hid hc
    clear hpos H5 hc
    by_cases hm : most < rn
    · have hV : Hid (numF l most = (0, [], 5)) := by show _ = _; rw [hN.out, if_pos rfl, if_pos hm]
      clear hN
      go_enter Try.func13, Try.ntmps13
      go_wp2_with fail
      refine (fault_any _ _ _ _ H.out).mono ?_
      rintro e w1 ⟨rfl, rfl⟩
      go_wp2_with fail
      refine (HF.out).mono ?_
      rintro e w1 ⟨rfl, rfl⟩
      go_wp2_with fail
      refine (fail_any _ _ _ _ H.out (by rfl)).mono ?_
      rintro e w1 ⟨rfl, hR, hg⟩
      go_wp2
      go_ret
      rw [hV.out]
      exact ⟨rfl, hR, hg⟩
    · have hend : ∀ w' A' c', w' = w.setCell ⟨g, 0, none⟩ (.slice A' (l.length - rs) c') → l.length - rs ≤ c' → (0 < l.length - rs → A' = some ⟨b, o + rs, none⟩) → NumPost w g (numF l most) (.returned (.int .u64 (rn : Int))) w' := by
        intro w' A' c' hw hc' hA'
        rw [hN.out, if_pos rfl, if_neg hm]
        subst hw
        refine ⟨rfl, ⟨A', c', ?_, ?_, ?_, ?_, ?_⟩, setCell_grown _ _ _ _⟩
        · have := HB.out.set_ 0 (.slice A' (l.length - rs) c')
          simpa using this
        · simpa using hc'
        · simp; omega
        · exact fun x hx => H4.out x (List.mem_of_mem_drop hx)
        · intro hp
          have hp' : 0 < l.length - rs := by simpa using hp
          refine ⟨b, o + rs, hA' hp', hbg, fun k hk => ?_⟩
          have hk' : k < l.length - rs := by simpa using hk
          rw [World.cell?_setCell_other _ _ _ _ (fun e => hbg (by injection e with e1; exact e1.symm))]
          have := Hc.out (rs + k) (by omega)
          rw [show o + rs + k = o + (rs + k) from by omega, this]
          simp [List.getD, List.getElem?_drop]
      have Hend := Lib.hid hend
      clear hend hN
      by_cases hcr : c = rs
      · subst hcr
        go_enter Try.func13, Try.ntmps13
        go_wp2_with fail
        refine (fault_any _ _ _ _ H.out).mono ?_
        rintro e w1 ⟨rfl, rfl⟩
        go_wp2_with fail
        refine (HF.out).mono ?_
        rintro e w1 ⟨rfl, rfl⟩
        go_wp2
        go_ret
        exact Hend.out _ (some ⟨b, o, none⟩) 0 (by rw [show l.length - c = 0 from by omega]) (by omega) (fun h => by omega)
      · go_enter Try.func13, Try.ntmps13
        go_wp2_with fail
        refine (fault_any _ _ _ _ H.out).mono ?_
        rintro e w1 ⟨rfl, rfl⟩
        go_wp2_with fail
        refine (HF.out).mono ?_
        rintro e w1 ⟨rfl, rfl⟩
        go_wp2
        go_ret
        exact Hend.out _ _ _ rfl (by omega) (fun _ => rfl)
  · have hen : ((re : Int) == 0) = false := by simp; omega
    have hen2 : ((re : Int) != 0) = true := by simp; omega
    go_enter Try.func13, Try.ntmps13
    go_wp2_with fail
    refine (fault_any _ _ _ _ H.out).mono ?_
    rintro e w1 ⟨rfl, rfl⟩
    go_wp2_with fail
    refine (HF.out).mono ?_
    rintro e w1 ⟨rfl, rfl⟩
    go_wp2_with fail
    refine (fail_any _ _ _ _ H.out hen).mono ?_
    rintro e w1 ⟨rfl, hR, hg⟩
    go_wp2
    go_ret
    rw [hN.out, if_neg he]
    exact ⟨rfl, hR, hg⟩
end Go.Proofs.Ytcafanekckkdoaa
