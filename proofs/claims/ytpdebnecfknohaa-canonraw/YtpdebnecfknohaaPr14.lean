/-
  Parts: Om.
-/
import Derived.Test.YtpdebnecfknohaaPr00
import Derived.Test.YtpdebnecfknohaaPr01
import Derived.Test.YtpdebnecfknohaaPr02
import Derived.Test.YtpdebnecfknohaaPr03
import Derived.Test.YtpdebnecfknohaaPr05
import Derived.Test.YtpdebnecfknohaaPr07
import Derived.Test.YtpdebnecfknohaaPr08
import Derived.Test.YtpdebnecfknohaaPr11
import Derived.Test.YtpdebnecfknohaaRows
namespace Go.Proofs.Ytpdebnecfknohaa
open Go.RowKit
set_option linter.unusedVariables false
set_option maxRecDepth 20000
theorem bulk_pos {H : Type} (d : DataW H) : 1 ≤ Rows.uptoBulk d := by
  cases d with
  | lit l => cases l <;> simp [Rows.uptoBulk]
  | nil => simp [Rows.uptoBulk]
  | ptr d => simp [Rows.uptoBulk]
  | slice elems spare => simp [Rows.uptoBulk]
  | agg parts => simp [Rows.uptoBulk]
  | iface t d => simp [Rows.uptoBulk]
  | map entries => simp [Rows.uptoBulk]
  | held h => simp [Rows.uptoBulk]
theorem bulk_mem {H : Type} (l : List (DataW H)) : ∀ d ∈ l, Rows.uptoBulk d ≤ Rows.uptoBulkAll l := by
  induction l with
  | nil => simp
  | cons x r ih =>
    intro d hd
    simp only [Rows.uptoBulkAll]
    rcases List.mem_cons.1 hd with rfl | h
    · omega
    · have := ih d h; omega
theorem bulk_each {H : Type} (K : Nat) (l : List (DataW H)) (h : ∀ d ∈ l, K ≤ Rows.uptoBulk d) : K * l.length ≤ Rows.uptoBulkAll l := by
  induction l with
  | nil => simp
  | cons x r ih =>
    have h1 := h x List.mem_cons_self
    have h2 := ih fun d hd => h d (List.mem_cons_of_mem _ hd)
    simp only [Rows.uptoBulkAll, List.length_cons, Nat.mul_add]
    omega
section
variable {H : Type} {enc : TypeId × Value → H} {w : World} {base : Nat} {spare : Nat → Bool} {held : Bool}
/-- A slice that is handed in, element by element. -/
theorem open_list {α : Type} [Inhabited α] {T E : TypeId} (m K : Nat) (hm : Try.prog.cellsOf E = m) (hm0 : 0 < m) (hT : Try.prog.underlying T = some (.slice E)) (R : List Value → α → Prop) (bk : α → Nat) {fuel : Nat}
    (each : ∀ n cs (y : DataW H × List MemPlace), n < fuel → DataW.trod enc Try.prog w base spare held n E cs = some y → ∃ a, R cs a ∧ cs.length = m ∧ bk a ≤ Rows.uptoBulk y.1 ∧ K ≤ Rows.uptoBulk y.1)
    {cs : List Value} {x : DataW H × List MemPlace} (h : DataW.trod enc Try.prog w base spare held fuel T cs = some x) :
    ∃ (A : Option Addr) (c : Nat) (l : List α), cs = [.slice A l.length c] ∧ (0 < l.length → ∃ b o, A = some ⟨b, o, none⟩ ∧ ∀ i (hi : i < l.length), ∃ cs', R cs' l[i] ∧ ∀ j u, cs'[j]? = some u → w.cell? ⟨b, o + i * m + j, none⟩ = some u) ∧ (∀ a ∈ l, bk a + 1 ≤ Rows.uptoBulk x.1 ∧ ∃ cs, R cs a) ∧ K * l.length + 1 ≤ Rows.uptoBulk x.1 := by
  rcases DataW.trod_slice hT h with ⟨h0, _⟩ | ⟨a, len, cap, elems, rest, n, hn, hcs, hx, hb, hl, hmx, hlen, hel, _, _⟩
  · refine ⟨none, 0, [], h0, fun h => by simp at h, by simp, ?_⟩
    have := bulk_pos x.1
    simpa using this
  · have each1 : ∀ i, i < len → ∃ q : α, ∃ cs', (∀ j, j < m → w.cell? ((a.add (i * m)).add j) = cs'[j]?) ∧ cs'.length = m ∧ R cs' q ∧ bk q + 1 ≤ Rows.uptoBulk x.1 := fun i hi => by
      have h1 := hel i hi
      rw [List.getElem?_eq_getElem (by omega), hm, Option.bind_eq_some_iff] at h1
      obtain ⟨cs', h2, h3⟩ := h1
      obtain ⟨_, _, hat⟩ := World.cells?_some h2
      obtain ⟨q, hR, hcl, hbk, _⟩ := each n cs' _ (by omega) h3
      refine ⟨q, cs', hat, hcl, hR, ?_⟩
      have hmem := bulk_mem (elems.map (·.1)) _ (List.mem_map_of_mem (List.getElem_mem (show i < elems.length by omega)))
      rw [hx]
      simp only [Rows.uptoBulk]
      omega
    obtain ⟨q, hq⟩ := Go.Deep.choose_lt each1
    have hln : ((List.range len).map q).length = len := by simp
    refine ⟨some a, cap, (List.range len).map q, by rw [hln]; exact hcs, fun hp => ?_, fun z hz => ?_, ?_⟩
    · have hp' : 0 < len := by simpa using hp
      obtain ⟨b, off, spot⟩ := a
      have hspot : spot = none := by
        obtain ⟨cs', hat, hcl, _⟩ := hq 0 hp'
        have := World.cell?_spot (v := cs'[0]'(by omega)) (by rw [hat 0 hm0, List.getElem?_eq_getElem])
        simpa [Addr.add] using this
      subst hspot
      refine ⟨b, off, rfl, fun i hi => ?_⟩
      have hi' : i < len := by simpa using hi
      obtain ⟨cs', hat, hcl, hR, _⟩ := hq i hi'
      refine ⟨cs', by simpa using hR, fun j u hu => ?_⟩
      have hj : j < m := by rw [← hcl]; exact (List.getElem?_eq_some_iff.1 hu).1
      have := hat j hj
      rw [Go.WideShapes.add_plain, Go.WideShapes.add_plain] at this
      exact this.trans hu
    · obtain ⟨i, hi, rfl⟩ := List.mem_map.1 hz
      obtain ⟨cs', _, _, hR, hbk⟩ := hq i (List.mem_range.1 hi)
      exact ⟨hbk, cs', hR⟩
    · have hK : K * (elems.map (·.1)).length ≤ Rows.uptoBulkAll (elems.map (·.1)) := bulk_each K _ fun d hd => by
        obtain ⟨e, he, rfl⟩ := List.mem_map.1 hd
        obtain ⟨i, hi, rfl⟩ := List.getElem_of_mem he
        have h1 := hel i (by omega)
        rw [List.getElem?_eq_getElem hi, Option.bind_eq_some_iff] at h1
        obtain ⟨cs', h2, h3⟩ := h1
        exact (each n cs' _ (by omega) h3).choose_spec.2.2.2
      rw [hx, hln]
      rw [List.length_map, hlen] at hK
      simp only [Rows.uptoBulk]
      omega
theorem bulk_argsC {fuel : Nat} {A : Option Addr} {n c : Nat} {x : DataW H × List MemPlace} (h : DataW.trod enc Try.prog w base spare held fuel 48 [.slice A n c] = some x) : 2 * n + 1 ≤ Rows.uptoBulk x.1 := by
  obtain ⟨A', c', l, hcs, _, _, hK⟩ := open_list (α := Unit) 2 2 cells46 (by omega) Try.underlying48 (fun _ _ => True) (fun _ => 0) (fun n cs y _ hy => by
    obtain ⟨ys, n', hn, hx, hl, hxl, hg⟩ := DataW.trod_struct Try.underlying46 hy
    refine ⟨(), trivial, by rw [hl, cells46], Nat.zero_le _, ?_⟩
    match ys, hxl with
    | [y0, y1], _ =>
      have q1 := bulk_pos y1.1
      rw [hx]
      simp only [List.map, Rows.uptoBulk, Rows.uptoBulkAll]
      omega) h
  simp at hcs
  obtain ⟨_, rfl, _⟩ := hcs
  exact hK
theorem open_stmtC {fuel : Nat} {cs : List Value} {x : DataW H × List MemPlace} (ih : ∀ n, n < fuel → ∀ cs x, DataW.trod enc Try.prog w base spare held n 38 cs = some x → ∃ A c t, cs = [.slice A t.len c] ∧ BodyV w A t ∧ 2 * (t.size + t.wide) ≤ Rows.uptoBulk x.1 ∧ t.fit)
    (h : DataW.trod enc Try.prog w base spare held fuel 50 cs = some x) : ∃ k a1 a2 b1 b2 xs t, (∃ Aa ca A c, cs = [.int .u8 k, .int .u8 a1, .int .i64 a2, .int .u8 b1, .int .i64 b2, .slice Aa xs.length ca, .slice A t.len c] ∧ ArgsAt w (.slice Aa xs.length ca) xs ∧ BodyV w A t) ∧ 2 * (t.size + t.wide + xs.length + 1) ≤ Rows.uptoBulk x.1 ∧ (okU8 k ∧ okU8 a1 ∧ okI64 a2 ∧ okU8 b1 ∧ okI64 b2) ∧ (okArgs xs ∧ xs.length ≤ 9223372036854775807) ∧ t.fit := by
  obtain ⟨ys, n, hn, hx, hl, hxl, hg⟩ := DataW.trod_struct Try.underlying50 h
  rw [cells50] at hl
  match ys, hxl, cs, hl with
  | [y0, y1, y2, y3, y4], _, [c0, c1, c2, c3, c4, c5, c6], _ =>
    have g0 : DataW.trod enc Try.prog w base spare held n 5 ((List.drop 0 [c0, c1, c2, c3, c4, c5, c6]).take (Try.prog.cellsOf 5)) = some y0 := hg 0 _ rfl
    have g1 : DataW.trod enc Try.prog w base spare held n 46 ((List.drop 1 [c0, c1, c2, c3, c4, c5, c6]).take (Try.prog.cellsOf 46)) = some y1 := hg 1 _ rfl
    have g2 : DataW.trod enc Try.prog w base spare held n 46 ((List.drop 3 [c0, c1, c2, c3, c4, c5, c6]).take (Try.prog.cellsOf 46)) = some y2 := hg 2 _ rfl
    have g3 : DataW.trod enc Try.prog w base spare held n 48 ((List.drop 5 [c0, c1, c2, c3, c4, c5, c6]).take (Try.prog.cellsOf 48)) = some y3 := hg 3 _ rfl
    have g4 : DataW.trod enc Try.prog w base spare held n 38 ((List.drop 6 [c0, c1, c2, c3, c4, c5, c6]).take (Try.prog.cellsOf 38)) = some y4 := hg 4 _ rfl
    rw [cells5] at g0
    rw [cells46] at g1 g2
    rw [cells48] at g3
    rw [cells38] at g4
    obtain ⟨z0, h0, _, w0⟩ := DataW.trod_int Try.underlying5 (g0)
    obtain ⟨a1, a2, h1, w1, w2⟩ := open_ref (g1)
    obtain ⟨b1, b2, h2, w3, w4⟩ := open_ref (g2)
    obtain ⟨Aa, ca, xs, h3, w5, w6⟩ := open_args (g3)
    obtain ⟨A, c, t, h4, w7, w8, w9⟩ := ih n (by omega) _ _ (g4)
    simp at h0 h1 h2 h3 h4
    obtain ⟨rfl, rfl⟩ := h1
    obtain ⟨rfl, rfl⟩ := h2
    subst h0; subst h3; subst h4
    have hb := bulk_argsC (g3 : DataW.trod enc Try.prog w base spare held n 48 [.slice Aa xs.length ca] = some y3)
    refine ⟨z0, a1, a2, b1, b2, xs, t, ⟨Aa, ca, A, c, rfl, w5, w7⟩, ?_, ⟨okU8_of_wf w0, w1, w2, w3, w4⟩, w6, w9⟩
    have q1 := bulk_pos y1.1
    have q2 := bulk_pos y2.1
    have q0 := bulk_pos y0.1
    rw [hx]
    simp only [List.map, Rows.uptoBulk, Rows.uptoBulkAll]
    omega
theorem open_bodyC : ∀ (fuel : Nat) (cs : List Value) (x : DataW H × List MemPlace), DataW.trod enc Try.prog w base spare held fuel 38 cs = some x → ∃ A c t, cs = [.slice A t.len c] ∧ BodyV w A t ∧ 2 * (t.size + t.wide) ≤ Rows.uptoBulk x.1 ∧ t.fit := by
  intro fuel
  induction fuel using Nat.strongRecOn with
  | _ fuel ih =>
    intro cs x h
    rcases DataW.trod_slice Try.underlying38 h with ⟨h0, _⟩ | ⟨a, len, cap, elems, rest, n, hn, hcs, hx, hb, hl, hm, hlen, hel, _, _⟩
    · exact ⟨none, 0, .nil, h0, fun h => by simp [Bd.len] at h, by simp [Bd.size, Bd.wide], trivial⟩
    · have each : ∀ i, (hi : i < len) → ∃ cs' k a1 a2 b1 b2 xs t, (∀ j, j < 7 → w.cell? ((a.add (i * 7)).add j) = cs'[j]?) ∧ (∃ Aa ca A c, cs' = [.int .u8 k, .int .u8 a1, .int .i64 a2, .int .u8 b1, .int .i64 b2, .slice Aa xs.length ca, .slice A t.len c] ∧ ArgsAt w (.slice Aa xs.length ca) xs ∧ BodyV w A t) ∧ 2 * (t.size + t.wide + xs.length + 1) ≤ Rows.uptoBulk (elems[i]'(by omega)).1 ∧ (okU8 k ∧ okU8 a1 ∧ okI64 a2 ∧ okU8 b1 ∧ okI64 b2) ∧ (okArgs xs ∧ xs.length ≤ 9223372036854775807) ∧ t.fit := fun i hi => by
        have h1 := hel i hi
        rw [List.getElem?_eq_getElem (by omega), cells50, Option.bind_eq_some_iff] at h1
        obtain ⟨cs', h2, h3⟩ := h1
        obtain ⟨_, _, hat⟩ := World.cells?_some h2
        obtain ⟨k, a1, a2, b1, b2, xs, t, hs, hbk, hft⟩ := open_stmtC (fun n' hn' => ih n' (by omega)) h3
        exact ⟨cs', k, a1, a2, b1, b2, xs, t, hat, hs, hbk, hft⟩
      have hspot : 0 < len → a.spot = none := fun hp => by
        obtain ⟨cs', k, a1, a2, b1, b2, xs, t, hc, ⟨Aa, ca, A, c, rfl, _, _⟩, _, _⟩ := each 0 hp
        have := World.cell?_spot (v := .int .u8 k) (hc 0 (by omega))
        simpa [Addr.add] using this
      have all : ∀ j, j ≤ len → ∃ t : Bd, t.len = j ∧ 2 * (t.size + t.wide) ≤ Rows.uptoBulkAll ((elems.drop (len - j)).map (·.1)) ∧ BdAt w a.block (a.off + (len - j) * 7) t ∧ t.fit := by
        intro j
        induction j with
        | zero => exact fun _ => ⟨.nil, rfl, by simp [Bd.size, Bd.wide], trivial, trivial⟩
        | succ j ihj =>
          intro hj
          obtain ⟨r, hr1, hr2, hr3, hr4⟩ := ihj (by omega)
          obtain ⟨cs', k, a1, a2, b1, b2, xs, t, hc, ⟨Aa, ca, A, c, rfl, hA, hT⟩, hbk, hf1, hf2, hf3⟩ := each (len - (j + 1)) (by omega)
          have hsp := hspot (by omega)
          obtain ⟨b, o, sp⟩ := a
          simp only at hsp
          subst hsp
          have hc' : ∀ q, q < 7 → w.cell? ⟨b, o + (len - (j + 1)) * 7 + q, none⟩ = ([.int .u8 k, .int .u8 a1, .int .i64 a2, .int .u8 b1, .int .i64 b2, .slice Aa xs.length ca, .slice A t.len c] : List Value)[q]? := fun q hq => by
            have := hc q hq
            rw [Go.WideShapes.add_plain, Go.WideShapes.add_plain] at this
            exact this
          have hd : elems.drop (len - (j + 1)) = (elems[len - (j + 1)]'(by omega)) :: elems.drop (len - j) := by
            rw [List.drop_eq_getElem_cons (by omega), show len - (j + 1) + 1 = len - j from by omega]
          refine ⟨.cons k a1 a2 b1 b2 xs t r, by simp [Bd.len, hr1], ?_, ⟨⟨hc' 0 (by omega), hc' 1 (by omega), hc' 2 (by omega), hc' 3 (by omega), hc' 4 (by omega)⟩, ⟨_, hc' 5 (by omega), hA⟩, ⟨A, c, hc' 6 (by omega), hT⟩, ?_⟩, hf1, hf2, hf3, hr4⟩
          · rw [hd]
            simp only [List.map_cons, Rows.uptoBulkAll, Bd.size, Bd.wide]
            omega
          · rw [show o + (len - (j + 1)) * 7 + 7 = o + (len - j) * 7 from by omega]
            exact hr3
      obtain ⟨t, ht, hf, hat, hfit⟩ := all len (Nat.le_refl _)
      refine ⟨some a, cap, t, by rw [ht]; exact hcs, fun hp => ⟨a.block, a.off, ?_, ?_⟩, ?_, hfit⟩
      · obtain ⟨b, o, sp⟩ := a
        have := hspot (by omega)
        simp only at this
        rw [this]
      · rw [Nat.sub_self, Nat.zero_mul, Nat.add_zero] at hat
        exact hat
      · rw [hx]
        simp only [Rows.uptoBulk]
        rw [Nat.sub_self, List.drop_zero] at hf
        omega
end
theorem ArgsAt.s {w : World} {v : Value} {l : List (Int × Int)} (h : ArgsAt w v l) : ArgsS (fun _ => True) w v l := by
  obtain ⟨A, c, hv, h⟩ := h
  exact ⟨A, c, hv, fun hp => by obtain ⟨b, o, hA, hc⟩ := h hp; exact ⟨b, o, hA, trivial, hc⟩⟩
theorem BdAt.s {w : World} : ∀ (t : Bd) (b o : Nat), BdAt w b o t → BdS (fun _ => True) w b o t
  | .nil, _, _, _ => trivial
  | .cons k a1 a2 b1 b2 args sub rest, b, o, h => by
    obtain ⟨h1, ⟨va, h2, h3⟩, ⟨A, c, h4, h5⟩, h6⟩ := h
    refine ⟨trivial, h1, ⟨va, h2, h3.s⟩, ⟨A, c, h4, fun hp => ?_⟩, BdAt.s rest b _ h6⟩
    obtain ⟨b', o', hA, h7⟩ := h5 hp
    exact ⟨b', o', hA, BdAt.s sub b' o' h7⟩
theorem BodyV.s {w : World} {A : Option Addr} {t : Bd} (h : BodyV w A t) : BodyS (fun _ => True) w A t := fun hp => by
  obtain ⟨b, o, hA, h1⟩ := h hp
  exact ⟨b, o, hA, BdAt.s t b o h1⟩
theorem cells9 : Try.prog.cellsOf 9 = 1 := by kernel_rfl
theorem cells27 : Try.prog.cellsOf 27 = 1 := by kernel_rfl
theorem cells26 : Try.prog.cellsOf 26 = 1 := by kernel_rfl
theorem cells28 : Try.prog.cellsOf 28 = 1 := by kernel_rfl
theorem cells40 : Try.prog.cellsOf 40 = 5 := by kernel_rfl
theorem cells30 : Try.prog.cellsOf 30 = 4 := by kernel_rfl
instance : Inhabited Bd := ⟨.nil⟩
instance : Inhabited Fn := ⟨⟨0, 0, [], [], .nil⟩⟩
section
variable {H : Type} {enc : TypeId × Value → H} {w : World} {base : Nat} {spare : Nat → Bool} {held : Bool}
theorem open_ints {fuel : Nat} {cs : List Value} {x : DataW H × List MemPlace} (h : DataW.trod enc Try.prog w base spare held fuel 27 cs = some x) :
    ∃ (A : Option Addr) (c : Nat) (l : List Int), cs = [.slice A l.length c] ∧ RdS (fun _ => True) w A l.length 1 (intV l) ∧ WfI l := by
  obtain ⟨A, c, l, hcs, hat, hok, _⟩ := open_list (α := Int) 1 0 cells3 (by omega) Try.underlying27 (fun cs n => cs = [.int .i64 n] ∧ okI64 n) (fun _ => 0) (fun n cs y _ hy => by
    obtain ⟨z, h0, _, w0⟩ := DataW.trod_int Try.underlying3 hy
    subst h0
    exact ⟨z, ⟨rfl, okI64_of_wf w0⟩, rfl, Nat.zero_le _, Nat.zero_le _⟩) h
  refine ⟨A, c, l, hcs, ⟨by rw [intV_len, Nat.mul_one], fun hp => ?_⟩, fun n hn => ?_⟩
  · obtain ⟨b, o, hA, hc⟩ := hat hp
    refine ⟨b, o, hA, trivial, fun j u hj => ?_⟩
    have hjl : j < l.length := by rw [← intV_len]; exact (List.getElem?_eq_some_iff.1 hj).1
    rw [intV_get l j hjl] at hj
    obtain ⟨cs', ⟨rfl, _⟩, hq⟩ := hc j hjl
    have := hq 0 u hj
    rwa [Nat.mul_one, Nat.add_zero] at this
  · obtain ⟨_, cs', _, h2⟩ := hok n hn
    exact h2
theorem open_strs {fuel : Nat} {cs : List Value} {x : DataW H × List MemPlace} (h : DataW.trod enc Try.prog w base spare held fuel 26 cs = some x) :
    ∃ (A : Option Addr) (c : Nat) (l : List (List UInt8)), cs = [.slice A l.length c] ∧ RdS (fun _ => True) w A l.length 1 (strV l) := by
  obtain ⟨A, c, l, hcs, hat, hok, _⟩ := open_list (α := List UInt8) 1 0 cells9 (by omega) Try.underlying26 (fun cs s => cs = [.string (bs s)]) (fun _ => 0) (fun n cs y _ hy => by
    obtain ⟨z, h0, _, _⟩ := DataW.trod_string Try.underlying9 hy
    subst h0
    exact ⟨z.data.toList, by simp [bs], rfl, Nat.zero_le _, Nat.zero_le _⟩) h
  refine ⟨A, c, l, hcs, ⟨by rw [strV_len, Nat.mul_one], fun hp => ?_⟩⟩
  obtain ⟨b, o, hA, hc⟩ := hat hp
  refine ⟨b, o, hA, trivial, fun j u hj => ?_⟩
  have hjl : j < l.length := by rw [← strV_len]; exact (List.getElem?_eq_some_iff.1 hj).1
  rw [strV_get l j hjl] at hj
  obtain ⟨cs', rfl, hq⟩ := hc j hjl
  have := hq 0 u hj
  rwa [Nat.mul_one, Nat.add_zero] at this
def fnIn (f : Fn) : Prop := WfI f.locals ∧ WfI f.sites ∧ f.body.fit ∧ okI64 f.name ∧ okI64 f.params
theorem open_fns {fuel : Nat} {cs : List Value} {x : DataW H × List MemPlace} (h : DataW.trod enc Try.prog w base spare held fuel 28 cs = some x) :
    ∃ (A : Option Addr) (c : Nat) (l : List Fn), cs = [.slice A l.length c] ∧ FnsS (fun _ => True) w A l ∧ ∀ f ∈ l, fnIn f ∧ 2 * (f.body.size + f.body.wide) + 1 ≤ Rows.uptoBulk x.1 := by
  obtain ⟨A, c, l, hcs, hat, hok, _⟩ := open_list (α := Fn) 5 0 cells40 (by omega) Try.underlying28 (fun cs f => FnS (fun _ => True) w cs f ∧ fnIn f) (fun f => 2 * (f.body.size + f.body.wide)) (fun n cs y _ hy => by
    obtain ⟨ys, n', hn, hx, hl, hxl, hg⟩ := DataW.trod_struct Try.underlying40 hy
    rw [cells40] at hl
    match ys, hxl, cs, hl with
    | [y0, y1, y2, y3, y4], _, [c0, c1, c2, c3, c4], _ =>
      have g0 : DataW.trod enc Try.prog w base spare held n' 3 ((List.drop 0 [c0, c1, c2, c3, c4]).take (Try.prog.cellsOf 3)) = some y0 := hg 0 _ rfl
      have g1 : DataW.trod enc Try.prog w base spare held n' 3 ((List.drop 1 [c0, c1, c2, c3, c4]).take (Try.prog.cellsOf 3)) = some y1 := hg 1 _ rfl
      have g2 : DataW.trod enc Try.prog w base spare held n' 27 ((List.drop 2 [c0, c1, c2, c3, c4]).take (Try.prog.cellsOf 27)) = some y2 := hg 2 _ rfl
      have g3 : DataW.trod enc Try.prog w base spare held n' 27 ((List.drop 3 [c0, c1, c2, c3, c4]).take (Try.prog.cellsOf 27)) = some y3 := hg 3 _ rfl
      have g4 : DataW.trod enc Try.prog w base spare held n' 38 ((List.drop 4 [c0, c1, c2, c3, c4]).take (Try.prog.cellsOf 38)) = some y4 := hg 4 _ rfl
      rw [cells3] at g0 g1
      rw [cells27] at g2 g3
      rw [cells38] at g4
      obtain ⟨z0, h0, _, w0⟩ := DataW.trod_int Try.underlying3 (g0)
      obtain ⟨z1, h1, _, w1⟩ := DataW.trod_int Try.underlying3 (g1)
      obtain ⟨A2, a2, l2, h2, w2, w2'⟩ := open_ints (g2)
      obtain ⟨A3, a3, l3, h3, w3, w3'⟩ := open_ints (g3)
      obtain ⟨A4, a4, t, h4, w4, w4', w4''⟩ := open_bodyC _ _ _ (g4)
      simp at h0 h1 h2 h3 h4
      subst h0; subst h1; subst h2; subst h3; subst h4
      refine ⟨⟨z0, z1, l2, l3, t⟩, ⟨⟨A2, a2, A3, a3, A4, a4, rfl, w2, w3, w4.s⟩, w2', w3', w4'', okI64_of_wf w0, okI64_of_wf w1⟩, rfl, ?_, Nat.zero_le _⟩
      rw [hx]
      simp only [List.map, Rows.uptoBulk, Rows.uptoBulkAll]
      omega) h
  refine ⟨A, c, l, hcs, fun hp => ?_, fun f hf => ?_⟩
  · obtain ⟨b, o, hA, hc⟩ := hat hp
    refine ⟨b, o, hA, trivial, fun i hi => ?_⟩
    obtain ⟨cs', ⟨hR, _⟩, hq⟩ := hc i hi
    exact ⟨cs', hR, hq⟩
  · obtain ⟨h1, cs', _, h2⟩ := hok f hf
    exact ⟨h2, h1⟩
/-- What a module's cells are. -/
theorem open_md {fuel : Nat} {cs : List Value} {x : DataW H × List MemPlace} (h : DataW.trod enc Try.prog w base spare held fuel 30 cs = some x) :
    ∃ (M : Md) (As Ag Af Ae : Option Addr) (c0 c1 c2 c3 : Nat), cs = [.slice As M.strs.length c0, .slice Ag M.globs.length c1, .slice Af M.funcs.length c2, .slice Ae M.ents.length c3] ∧ MdR w As Ag Af Ae M ∧ WfI M.globs ∧ WfI M.ents ∧ ∀ f ∈ M.funcs, fnIn f ∧ 2 * (f.body.size + f.body.wide) + 1 ≤ Rows.uptoBulk x.1 := by
  obtain ⟨ys, n', hn, hx, hl, hxl, hg⟩ := DataW.trod_struct Try.underlying30 h
  rw [cells30] at hl
  match ys, hxl, cs, hl with
  | [y0, y1, y2, y3], _, [c0, c1, c2, c3], _ =>
    have g0 : DataW.trod enc Try.prog w base spare held n' 26 ((List.drop 0 [c0, c1, c2, c3]).take (Try.prog.cellsOf 26)) = some y0 := hg 0 _ rfl
    have g1 : DataW.trod enc Try.prog w base spare held n' 27 ((List.drop 1 [c0, c1, c2, c3]).take (Try.prog.cellsOf 27)) = some y1 := hg 1 _ rfl
    have g2 : DataW.trod enc Try.prog w base spare held n' 28 ((List.drop 2 [c0, c1, c2, c3]).take (Try.prog.cellsOf 28)) = some y2 := hg 2 _ rfl
    have g3 : DataW.trod enc Try.prog w base spare held n' 27 ((List.drop 3 [c0, c1, c2, c3]).take (Try.prog.cellsOf 27)) = some y3 := hg 3 _ rfl
    rw [cells26] at g0
    rw [cells27] at g1 g3
    rw [cells28] at g2
    obtain ⟨A0, a0, l0, h0, w0⟩ := open_strs (g0)
    obtain ⟨A1, a1, l1, h1, w1, w1'⟩ := open_ints (g1)
    obtain ⟨A2, a2, l2, h2, w2, w2'⟩ := open_fns (g2)
    obtain ⟨A3, a3, l3, h3, w3, w3'⟩ := open_ints (g3)
    simp at h0 h1 h2 h3
    subst h0; subst h1; subst h2; subst h3
    refine ⟨⟨l0, l1, l2, l3⟩, A0, A1, A2, A3, a0, a1, a2, a3, rfl, ⟨w0, w1, w2, w3⟩, w1', w3', fun f hf => ⟨(w2' f hf).1, ?_⟩⟩
    have := (w2' f hf).2
    rw [hx]
    simp only [List.map, Rows.uptoBulk, Rows.uptoBulkAll]
    omega
end
end Go.Proofs.Ytpdebnecfknohaa
