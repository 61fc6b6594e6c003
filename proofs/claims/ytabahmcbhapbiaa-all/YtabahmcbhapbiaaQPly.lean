import Derived.Test.YtabahmcbhapbiaaQPlain
import Derived.Test.YtabahmcbhapbiaaRows
import Derived.Test.YtabahmcbhapbiaaQBase
import Derived.Lib.AppendZeros
import Derived.Deep.AppendSrc
import Derived.Test.YtabahmcbhapbiaaQRow
namespace Go.Proofs.Ytabahmcbhapbiaa
open Go.RowKit
set_option linter.unusedVariables false

set_option maxHeartbeats 1000000 in
theorem step_plain (wb : Nat) (kd on aa : Int) (t : ByteArray) (xk xp xb xs yk yp yb ys : Int) (w : World) (hk : kd = 1 ∨ kd = 2 ∨ kd = 3)
    (HP : Hid (∀ W, Calls Try.prog 48 #[.agg #[.int .i64 kd, .int .i64 on, .int .i64 aa, .string t, .int .i64 xk, .int .i64 xp, .int .i64 xb, .int .i64 xs, .int .i64 yk, .int .i64 yp, .int .i64 yb, .int .i64 ys]] W fun e w' => e = .returned (.bool true) ∧ Below W.heap.size W w')) :
    Calls Try.prog 28 #[.pointer (some ⟨wb, 0, none⟩), .agg #[.int .i64 kd, .int .i64 on, .int .i64 aa, .string t, .int .i64 xk, .int .i64 xp, .int .i64 xb, .int .i64 xs, .int .i64 yk, .int .i64 yp, .int .i64 yb, .int .i64 ys]] w fun e w' => e = .returned (.bool true) ∧ Below w.heap.size w w' := by
  rcases hk with rfl | rfl | rfl
  all_goals
    go_enter Try.func28, Try.ntmps28
    go_wp2_with (go_at_call 48; refine (HP.out _).mono ?_; rintro e w1 ⟨rfl, hb1⟩)
    go_ret
    exact ⟨rfl, bel_trans (bel_alloc (Below.refl _ _) _) hb1⟩

set_option maxHeartbeats 1000000 in
theorem step_other (wb : Nat) (kd on aa : Int) (t : ByteArray) (xk xp xb xs yk yp yb ys : Int) (w : World) (h1 : (kd == 1) = false) (h2 : (kd == 2) = false) (h3 : (kd == 3) = false) (h4 : (kd == 4) = false)
    (hb : wb < w.heap.size) (hc : w.cell? ⟨wb, 0, none⟩ = some (.slice none 0 0)) :
    Calls Try.prog 28 #[.pointer (some ⟨wb, 0, none⟩), .agg #[.int .i64 kd, .int .i64 on, .int .i64 aa, .string t, .int .i64 xk, .int .i64 xp, .int .i64 xb, .int .i64 xs, .int .i64 yk, .int .i64 yp, .int .i64 yb, .int .i64 ys]] w fun e w' => e = .returned (.bool true) ∧ Below w.heap.size w w' := by
  go_enter Try.func28, Try.ntmps28
  go_wp2_with fail
  all_goals go_ret
  all_goals exact ⟨rfl, bel_alloc (Below.refl _ _) _⟩

/-- One step of a script up to Turn, on a world without moots: as the document says. -/
theorem step_any (wb : Nat) (kd on aa : Int) (t : ByteArray) (xk xp xb xs yk yp yb ys : Int) (w : World) (hk : kd ≤ 3) (ht : t.size + 1 ≤ 140737488355328)
    (hb : wb < w.heap.size) (hc : w.cell? ⟨wb, 0, none⟩ = some (.slice none 0 0)) :
    Calls Try.prog 28 #[.pointer (some ⟨wb, 0, none⟩), .agg #[.int .i64 kd, .int .i64 on, .int .i64 aa, .string t, .int .i64 xk, .int .i64 xp, .int .i64 xb, .int .i64 xs, .int .i64 yk, .int .i64 yp, .int .i64 yb, .int .i64 ys]] w fun e w' => e = .returned (.bool true) ∧ Below w.heap.size w w' := by
  by_cases h1 : kd = 1
  · subst h1; exact step_plain wb 1 on aa t xk xp xb xs yk yp yb ys w (Or.inl rfl) (fun W => plain_right on aa t xk xp xb xs yk yp yb ys W)
  by_cases h2 : kd = 2
  · subst h2; exact step_plain wb 2 on aa t xk xp xb xs yk yp yb ys w (Or.inr (Or.inl rfl)) (fun W => plain_apply on aa t xk xp xb xs yk yp yb ys ht W)
  by_cases h3 : kd = 3
  · subst h3; exact step_plain wb 3 on aa t xk xp xb xs yk yp yb ys w (Or.inr (Or.inr rfl)) (fun W => plain_turn 3 on aa t xk xp xb xs yk yp yb ys rfl rfl W)
  exact step_other wb kd on aa t xk xp xb xs yk yp yb ys w (beq_eq_false_iff_ne.2 h1) (beq_eq_false_iff_ne.2 h2) (beq_eq_false_iff_ne.2 h3) (beq_eq_false_iff_ne.2 (by omega)) hb hc

set_option maxHeartbeats 1000000 in
/-- No list has come out. -/
theorem looks_none (wb : Nat) (w : World) (hc : w.cell? ⟨wb, 1, none⟩ = some (.slice none 0 0)) :
    Calls Try.prog 29 #[.pointer (some ⟨wb, 0, none⟩)] w fun e w' => e = .returned (.bool true) ∧ w' = w := by
  go_enter Try.func29, Try.ntmps29
  go_wp2
  go_loop [3] (fun i => i = .int .i64 0) (fun _ => 0)
  case atStart => rfl
  case round =>
    subst hrel
    go_wp2
    go_ret
    exact ⟨rfl, rfl⟩
end Go.Proofs.Ytabahmcbhapbiaa

namespace Go.Proofs.Ytabahmcbhapbiaa
open Go.RowKit Go.Lib
set_option linter.unusedVariables false

/-- A step of a script. -/
structure Rec where
  kd : Int
  on : Int
  aa : Int
  t : ByteArray
  xk : Int
  xp : Int
  xb : Int
  xs : Int
  yk : Int
  yp : Int
  yb : Int
  ys : Int

/-- Its twelve cells. -/
def Rec.cells (r : Rec) : List Value := [.int .i64 r.kd, .int .i64 r.on, .int .i64 r.aa, .string r.t, .int .i64 r.xk, .int .i64 r.xp, .int .i64 r.xb, .int .i64 r.xs, .int .i64 r.yk, .int .i64 r.yp, .int .i64 r.yb, .int .i64 r.ys]
def flat (l : List Rec) : List Value := l.flatMap Rec.cells
theorem cells_len (r : Rec) : r.cells.length = 12 := rfl
theorem flat_len : ∀ l : List Rec, (flat l).length = l.length * 12
  | [] => rfl
  | r :: l => by
    show (r.cells ++ flat l).length = _
    rw [List.length_append, cells_len, flat_len l, List.length_cons]; omega
theorem flat_one (l : List Rec) : ∀ u ∈ flat l, u.oneCell' = true := by
  intro u hu
  obtain ⟨r, _, hr⟩ := List.mem_flatMap.1 hu
  simp only [Rec.cells, List.mem_cons, List.not_mem_nil, or_false] at hr
  rcases hr with rfl | rfl | rfl | rfl | rfl | rfl | rfl | rfl | rfl | rfl | rfl | rfl <;> rfl
theorem flat_append (a b : List Rec) : flat (a ++ b) = flat a ++ flat b := List.flatMap_append
theorem flat_at : ∀ (l : List Rec) (k i : Nat) (hk : k < l.length), i < 12 → (flat l)[k * 12 + i]? = l[k].cells[i]?
  | r :: l, 0, i, _, hi => by
    show (r.cells ++ flat l)[0 * 12 + i]? = _
    rw [Nat.zero_mul, Nat.zero_add, List.getElem?_append_left (by rw [cells_len]; exact hi)]; rfl
  | r :: l, k + 1, i, hk, hi => by
    show (r.cells ++ flat l)[(k + 1) * 12 + i]? = _
    rw [List.getElem?_append_right (by rw [cells_len]; omega), cells_len, show (k + 1) * 12 + i - 12 = k * 12 + i by omega, flat_at l k i (by simpa using hk) hi]
    rfl

/-- From place 0 on block b holds the steps l. -/
def rowsAt (w : World) (b : Nat) (l : List Rec) : Prop := ∀ j v, (flat l)[j]? = some v → w.cell? ⟨b, j, none⟩ = some v
theorem rowsAt.at {w : World} {b : Nat} {l : List Rec} (h : rowsAt w b l) (k : Nat) (hk : k < l.length) :
    w.cell? ⟨b, k * 12, none⟩ = some (.int .i64 l[k].kd) ∧ w.cell? ⟨b, k * 12 + 1, none⟩ = some (.int .i64 l[k].on) ∧ w.cell? ⟨b, k * 12 + 2, none⟩ = some (.int .i64 l[k].aa) ∧ w.cell? ⟨b, k * 12 + 3, none⟩ = some (.string l[k].t) ∧
    w.cell? ⟨b, k * 12 + 4, none⟩ = some (.int .i64 l[k].xk) ∧ w.cell? ⟨b, k * 12 + 5, none⟩ = some (.int .i64 l[k].xp) ∧ w.cell? ⟨b, k * 12 + 6, none⟩ = some (.int .i64 l[k].xb) ∧ w.cell? ⟨b, k * 12 + 7, none⟩ = some (.int .i64 l[k].xs) ∧
    w.cell? ⟨b, k * 12 + 8, none⟩ = some (.int .i64 l[k].yk) ∧ w.cell? ⟨b, k * 12 + 9, none⟩ = some (.int .i64 l[k].yp) ∧ w.cell? ⟨b, k * 12 + 10, none⟩ = some (.int .i64 l[k].yb) ∧ w.cell? ⟨b, k * 12 + 11, none⟩ = some (.int .i64 l[k].ys) := by
  have g : ∀ i, i < 12 → ∀ v, l[k].cells[i]? = some v → w.cell? ⟨b, k * 12 + i, none⟩ = some v := fun i hi v hv => h _ v ((flat_at l k i hk hi).trans hv)
  exact ⟨g 0 (by omega) _ rfl, g 1 (by omega) _ rfl, g 2 (by omega) _ rfl, g 3 (by omega) _ rfl, g 4 (by omega) _ rfl, g 5 (by omega) _ rfl, g 6 (by omega) _ rfl, g 7 (by omega) _ rfl, g 8 (by omega) _ rfl, g 9 (by omega) _ rfl, g 10 (by omega) _ rfl, g 11 (by omega) _ rfl⟩
theorem rowsAt_alloc {w0 : World} {b : Nat} (l : List Rec) (C : Array Value) (t : TypeId) (hb : b = w0.heap.size) (hC : C = (flat l).toArray) : rowsAt (w0.alloc (.cells C t)) b l := by
  intro j v hj
  rw [World.cell?_alloc_at (w := w0) C t b j hb, hC]
  simpa using hj
theorem rowsAt.bel {w w' : World} {b : Nat} {l : List Rec} (h : rowsAt w b l) (hl : 0 < l.length) (hb : Below w.heap.size w w') : rowsAt w' b l := by
  have h0 := (h.at 0 hl).1
  have hlt : b < w.heap.size := block_lt_of_cell h0
  intro j v hj
  rw [hb.cell (p := ⟨b, j, none⟩) hlt]
  exact h j v hj

theorem infoOp : (Try.prog.info? 68).map (fun i => (i.zero, i.size, i.bytes)) = some (some (.agg #[.int .i64 0, .int .i64 0, .int .i64 0, .string ⟨#[]⟩, .int .i64 0, .int .i64 0, .int .i64 0, .int .i64 0, .int .i64 0, .int .i64 0, .int .i64 0, .int .i64 0]), 12, 104) := by kernel_rfl

/-- 'append(all, script...)'. -/
theorem append_ops (W : World) (b : Nat) (first ops : List Rec) (sa : Option Addr) (n c : Nat) (h6 : first.length = 6) (hn : ops.length = n) (hbig : (6 + n) * 104 ≤ 140737488355328) (hrow : rowsAt W b first)
    (hnil : sa = none → n = 0) (hsrc : ∀ a, sa = some a → ∀ j v, (flat ops)[j]? = some v → W.cell? (a.add j) = some v) :
    ∃ (g cap : Nat) (W2 : World), (∀ ty, (Builtin.append_ #[22, 22] ty #[.slice (some ⟨b, 0, none⟩) 6 6, .slice sa n c]).run Try.prog W = .ok (.slice (some ⟨g, 0, none⟩) (6 + n) cap) W2) ∧ rowsAt W2 g (first ++ ops) ∧ Below W.heap.size W W2 := by
  obtain ⟨i0, hi0, hz0, hzs, hzb⟩ := info_parts infoOp
  have hs : Src Try.prog i0.size 22 (.slice sa n c) n (flat ops) W := by
    rw [hzs]
    cases sa with
    | none =>
      have h0 := hnil rfl
      subst h0
      rw [List.length_eq_zero_iff.1 hn]
      exact Src.ofNil W Try.underlying22 c
    | some a => exact Src.ofSlice W Try.underlying22 a n c (flat ops) (by rw [flat_len, hn]) (hsrc a rfl) (flat_one ops)
  by_cases h0 : n = 0
  · subst h0
    have e0 : ops = [] := List.length_eq_zero_iff.1 hn
    subst e0
    refine ⟨b, 6, W, fun ty => ?_, by rw [List.append_nil]; exact hrow, Below.refl _ _⟩
    have h := run_append_room_src W 22 22 ty 68 i0 Try.underlying22 hi0 b 0 6 6 (.slice sa 0 c) 0 (flat []) hs (by omega) (fun j hj => by simp [flat] at hj) (fun j hj => by simp [flat] at hj)
    simpa [flat, World.setCells] using h
  · have hold : (Builtin.firstCells i0.size 6 (.slice (some ⟨b, 0, none⟩) 6 6)).run Try.prog W.drew = .ok (flat first).toArray W.drew := by
      rw [hzs]
      exact run_firstCells_some W.drew 12 6 ⟨b, 0, none⟩ 6 6 (flat first) (by rw [flat_len, h6]) (fun j v hj => by rw [Addr.add_lit, Nat.zero_add]; exact hrow j v hj)
    refine ⟨W.heap.size, _, _, fun ty => run_append_grow_src W 22 22 ty 68 i0 _ Try.underlying22 hi0 hz0 (some ⟨b, 0, none⟩) 6 6 (flat first) hold _ n (flat ops) hs (by omega) (by omega) (by rw [hzb]; exact growslice_fits (by omega) hbig), ?_, (Below.refl _ W).drew.alloc (Nat.le_refl _) _⟩
    intro j v hj
    rw [World.cell?_alloc_at (w := W.drew) _ _ W.heap.size j rfl]
    rw [flat_append] at hj
    have hjl : j < (flat first ++ flat ops).length := (List.getElem?_eq_some_iff.1 hj).1
    rw [Array.getElem?_append_left (by simpa using hjl)]
    simpa using hj
end Go.Proofs.Ytabahmcbhapbiaa

namespace Go.Proofs.Ytabahmcbhapbiaa
open Go.RowKit Go.Lib
set_option linter.unusedVariables false

/-- The steps ahead of any script. -/
def first : List Rec := [⟨2, 0, 0, ⟨#[97, 98]⟩, 1, 1, 120, 0, 0, 0, 0, 0⟩, ⟨4, 0, 2, ⟨#[97, 98]⟩, 0, 0, 0, 0, 0, 0, 0, 0⟩, ⟨5, 0, 0, ⟨#[]⟩, 1, 1, 120, 0, 0, 0, 0, 0⟩, ⟨6, 0, 0, ⟨#[]⟩, 0, 0, 0, 0, 0, 0, 0, 0⟩, ⟨7, 0, 1, ⟨#[]⟩, 0, 0, 0, 0, 0, 0, 0, 0⟩, ⟨8, 0, 1, ⟨#[]⟩, 0, 0, 0, 0, 0, 0, 0, 0⟩]

/-- What lies behind the append: all steps in one row; the world without moots. -/
def Laid (w : World) (N : Nat) (all : List Rec) (v : Value) (W : World) : Prop :=
  ∃ g cap : Nat, v = .slice (some ⟨g, 0, none⟩) N cap ∧ rowsAt W g all ∧ Below w.heap.size w W ∧ w.heap.size < W.heap.size ∧ W.cell? ⟨w.heap.size, 0, none⟩ = some (.slice none 0 0) ∧ W.cell? ⟨w.heap.size, 1, none⟩ = some (.slice none 0 0) ∧ ∀ j, W.frozen? ⟨w.heap.size, j, none⟩ = false

theorem plays_append (w : World) (ops : List Rec) (sa : Option Addr) (n c N : Nat) (hn : ops.length = n) (hN : N = 6 + n) (hbig : N * 104 ≤ 140737488355328)
    (hnil : sa = none → n = 0) (hsrc : ∀ a, sa = some a → ∀ j v, (flat ops)[j]? = some v → w.cell? (a.add j) = some v) :
    ∃ v' w', (∀ ty, (Builtin.append_ #[22, 22] ty #[.slice (some ⟨w.heap.size + 1 + 1, 0, none⟩) 6 6, .slice sa n c]).run Try.prog
      (((w.alloc (.cells #[.slice none 0 0, .slice none 0 0] 66)).alloc (.cells #[.int .i64 1, .int .i64 1, .int .i64 120, .int .i64 0] 26)).alloc (.cells (flat first).toArray 68)) = .ok v' w') ∧ Laid w N (first ++ ops) v' w' := by
  subst hN
  have hB : Below w.heap.size w (((w.alloc (.cells #[.slice none 0 0, .slice none 0 0] 66)).alloc (.cells #[.int .i64 1, .int .i64 1, .int .i64 120, .int .i64 0] 26)).alloc (.cells (flat first).toArray 68)) :=
    bel_alloc (bel_alloc (bel_alloc (Below.refl _ _) _) _) _
  obtain ⟨g, cap, W2, h1, h2, h3⟩ := append_ops (((w.alloc (.cells #[.slice none 0 0, .slice none 0 0] 66)).alloc (.cells #[.int .i64 1, .int .i64 1, .int .i64 120, .int .i64 0] 26)).alloc (.cells (flat first).toArray 68))
    (w.heap.size + 1 + 1) first ops sa n c rfl hn hbig (rowsAt_alloc first _ _ (by simp) rfl) hnil (fun a ha j v hj => by
      have h := hsrc a ha j v hj
      rw [hB.cell (block_lt_of_cell h)]; exact h)
  have hz : (((w.alloc (.cells #[.slice none 0 0, .slice none 0 0] 66)).alloc (.cells #[.int .i64 1, .int .i64 1, .int .i64 120, .int .i64 0] 26)).alloc (.cells (flat first).toArray 68)).heap.size = w.heap.size + 1 + 1 + 1 := by simp
  refine ⟨_, _, h1, g, cap, rfl, h2, hB.trans (h3.mono (by omega)), by have := h3.size; omega, ?_, ?_, fun j => ?_⟩
  · rw [h3.cell (p := ⟨w.heap.size, 0, none⟩) (by show w.heap.size < _; omega)]; simp [go_sem]
  · rw [h3.cell (p := ⟨w.heap.size, 1, none⟩) (by show w.heap.size < _; omega)]; simp [go_sem]
  · rw [h3.frozen (p := ⟨w.heap.size, j, none⟩) (by show w.heap.size < _; omega)]; simp [go_sem]

set_option maxHeartbeats 2000000 in
set_option maxRecDepth 100000 in
theorem plays_any (sa : Option Addr) (n c : Nat) (ops : List Rec) (w : World) (hn : ops.length = n) (hbig : (6 + n) * 104 ≤ 140737488355328)
    (hnil : sa = none → n = 0) (hsrc : ∀ a, sa = some a → ∀ j v, (flat ops)[j]? = some v → w.cell? (a.add j) = some v) (ht : ∀ r ∈ ops, r.t.size + 1 ≤ 140737488355328) :
    Calls Try.prog 12 #[.slice sa n c, .int .i64 3] w fun e w' => e = .returned (.bool true) ∧ Below w.heap.size w w' := by
  obtain ⟨N, hN⟩ : ∃ N, N = 6 + n := ⟨_, rfl⟩
  rw [← hN] at hbig
  have HA : Hid (∃ v' w', (∀ ty, (Builtin.append_ #[22, 22] ty #[.slice (some ⟨w.heap.size + 1 + 1, 0, none⟩) 6 6, .slice sa n c]).run Try.prog
      (((w.alloc (.cells #[.slice none 0 0, .slice none 0 0] 66)).alloc (.cells #[.int .i64 1, .int .i64 1, .int .i64 120, .int .i64 0] 26)).alloc (.cells (flat first).toArray 68)) = .ok v' w') ∧ Laid w N (first ++ ops) v' w') :=
    plays_append w ops sa n c N hn hN hbig hnil hsrc
  have HT : Hid (∀ k (hk : k < (first ++ ops).length), (first ++ ops)[k].t.size + 1 ≤ 140737488355328) := fun k hk => by
    rcases List.mem_append.1 (List.getElem_mem hk) with h | h
    · have : ∀ r ∈ first, r.t.size + 1 ≤ 140737488355328 := by decide
      exact this _ h
    · exact ht _ h
  have HL : Hid ((first ++ ops).length = N) := by show _ = _; rw [List.length_append, hn, hN]; rfl
  generalize first ++ ops = all at *
  clear hnil hsrc ht hn hN
  go_enter Try.func12, Try.ntmps12
  go_wp2_with (at_builtin; refine wpList_append_ex _ rfl _ _ _ _ rfl _ _ rfl rfl (Laid w N all) HA.out ?_; rintro v' W2 ⟨g, cap, hv, hrows, hbel, hz, hc0, hc1, _⟩; subst hv)
  have HR : Hid (rowsAt W2 g all) := hrows
  have HW : Hid (Below w.heap.size w W2) := hbel
  have HC0 : Hid (W2.cell? ⟨w.heap.size, 0, none⟩ = some (.slice none 0 0)) := hc0
  have HC1 : Hid (W2.cell? ⟨w.heap.size, 1, none⟩ = some (.slice none 0 0)) := hc1
  clear hrows hbel hc0 hc1 HA
  go_loopw [8] (fun i wr => ∃ k : Nat, k ≤ N ∧ i = .int .i64 k ∧ Below W2.heap.size W2 wr) (fun i _ => N - (RowKit.intOf i).toNat)
  case atStart => exact ⟨0, Nat.zero_le _, rfl, Below.refl _ _⟩
  case round =>
    obtain ⟨k, hk, rfl, hbr⟩ := hrel
    have HB : Hid (Below W2.heap.size W2 wr) := hbr
    by_cases hlt : k < N
    · have hlt' : k < all.length := by rw [HL.out]; exact hlt
      obtain ⟨c0, c1, c2, c3, c4, c5, c6, c7, c8, c9, c10, c11⟩ := (HR.out.bel (by omega) hbr).at k hlt'
      have w0 : wr.cell? ⟨w.heap.size, 0, none⟩ = some (.slice none 0 0) := by rw [hbr.cell (p := ⟨w.heap.size, 0, none⟩) hz]; exact HC0.out
      have w1 : wr.cell? ⟨w.heap.size, 1, none⟩ = some (.slice none 0 0) := by rw [hbr.cell (p := ⟨w.heap.size, 1, none⟩) hz]; exact HC1.out
      have hzr : w.heap.size < wr.heap.size := Nat.lt_of_lt_of_le hz hbr.size
      have htk := HT.out k hlt'
      have hki : (k : Int) < (N : Int) := by omega
      generalize all[k] = r at *
      clear hbr hlt'
      by_cases hkd : r.kd ≤ 3
      · have HS : Hid (Calls Try.prog 28 #[.pointer (some ⟨w.heap.size, 0, none⟩), .agg #[.int .i64 r.kd, .int .i64 r.on, .int .i64 r.aa, .string r.t, .int .i64 r.xk, .int .i64 r.xp, .int .i64 r.xb, .int .i64 r.xs, .int .i64 r.yk, .int .i64 r.yp, .int .i64 r.yb, .int .i64 r.ys]] wr fun e w' => e = .returned (.bool true) ∧ Below wr.heap.size wr w') :=
          step_any w.heap.size r.kd r.on r.aa r.t r.xk r.xp r.xb r.xs r.yk r.yp r.yb r.ys wr hkd htk hzr w0
        clear htk
        go_wp2_with fail
        refine HS.out.mono ?_
        rintro e w3 ⟨rfl, hb3⟩
        have w3c : w3.cell? ⟨w.heap.size, 1, none⟩ = some (.slice none 0 0) := by rw [hb3.cell (p := ⟨w.heap.size, 1, none⟩) hzr]; exact w1
        have HB3 : Hid (Below W2.heap.size W2 w3) := HB.out.trans (hb3.mono HB.out.size)
        clear hb3 HS c0 c1 c2 c3 c4 c5 c6 c7 c8 c9 c10 c11 w0 w1
        go_wp2_with (go_at_call 29; refine (looks_none _ _ w3c).mono ?_; rintro e w4 ⟨rfl, rfl⟩)
        all_goals exact ⟨⟨k + 1, by omega, by go_num, HB3.out⟩, by simp [RowKit.intOf]; omega⟩
      · have hkd' : 3 < r.kd := by omega
        go_wp2
        all_goals exact ⟨⟨k + 1, by omega, by go_num, HB.out⟩, by simp [RowKit.intOf]; omega⟩
    · go_wp2
      go_ret
      exact ⟨rfl, bel_trans HW.out HB.out⟩
end Go.Proofs.Ytabahmcbhapbiaa
