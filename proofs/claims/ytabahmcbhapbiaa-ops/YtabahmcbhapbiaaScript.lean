import Derived.Test.YtabahmcbhapbiaaRows
import Derived.Test.YtabahmcbhapbiaaBase
import Derived.Lib.AppendZeros
import Derived.Deep.AppendSrc
namespace Go.Proofs.Ytabahmcbhapbiaa
open Go.RowKit Go.Lib
set_option linter.unusedVariables false

/-- A step of a script. -/
structure Rec where
  kd : Int
  on : Int
  aa : Int
  t : ByteArray
  xk : Int
  xp : Int
  xb : Int
  xs : Int
  yk : Int
  yp : Int
  yb : Int
  ys : Int

/-- Its twelve cells. -/
def Rec.cells (r : Rec) : List Value := [.int .i64 r.kd, .int .i64 r.on, .int .i64 r.aa, .string r.t, .int .i64 r.xk, .int .i64 r.xp, .int .i64 r.xb, .int .i64 r.xs, .int .i64 r.yk, .int .i64 r.yp, .int .i64 r.yb, .int .i64 r.ys]
def flat (l : List Rec) : List Value := l.flatMap Rec.cells
theorem cells_len (r : Rec) : r.cells.length = 12 := rfl
theorem flat_len : ∀ l : List Rec, (flat l).length = l.length * 12
  | [] => rfl
  | r :: l => by
    show (r.cells ++ flat l).length = _
    rw [List.length_append, cells_len, flat_len l, List.length_cons]; omega
theorem flat_one (l : List Rec) : ∀ u ∈ flat l, u.oneCell' = true := by
  intro u hu
  obtain ⟨r, _, hr⟩ := List.mem_flatMap.1 hu
  simp only [Rec.cells, List.mem_cons, List.not_mem_nil, or_false] at hr
  rcases hr with rfl | rfl | rfl | rfl | rfl | rfl | rfl | rfl | rfl | rfl | rfl | rfl <;> rfl
theorem flat_append (a b : List Rec) : flat (a ++ b) = flat a ++ flat b := List.flatMap_append
theorem flat_at : ∀ (l : List Rec) (k i : Nat) (hk : k < l.length), i < 12 → (flat l)[k * 12 + i]? = l[k].cells[i]?
  | r :: l, 0, i, _, hi => by
    show (r.cells ++ flat l)[0 * 12 + i]? = _
    rw [Nat.zero_mul, Nat.zero_add, List.getElem?_append_left (by rw [cells_len]; exact hi)]; rfl
  | r :: l, k + 1, i, hk, hi => by
    show (r.cells ++ flat l)[(k + 1) * 12 + i]? = _
    rw [List.getElem?_append_right (by rw [cells_len]; omega), cells_len, show (k + 1) * 12 + i - 12 = k * 12 + i by omega, flat_at l k i (by simpa using hk) hi]
    rfl

/-- From place 0 on block b holds the steps l. -/
def rowsAt (w : World) (b : Nat) (l : List Rec) : Prop := ∀ j v, (flat l)[j]? = some v → w.cell? ⟨b, j, none⟩ = some v
theorem rowsAt.at {w : World} {b : Nat} {l : List Rec} (h : rowsAt w b l) (k : Nat) (hk : k < l.length) :
    w.cell? ⟨b, k * 12, none⟩ = some (.int .i64 l[k].kd) ∧ w.cell? ⟨b, k * 12 + 1, none⟩ = some (.int .i64 l[k].on) ∧ w.cell? ⟨b, k * 12 + 2, none⟩ = some (.int .i64 l[k].aa) ∧ w.cell? ⟨b, k * 12 + 3, none⟩ = some (.string l[k].t) ∧
    w.cell? ⟨b, k * 12 + 4, none⟩ = some (.int .i64 l[k].xk) ∧ w.cell? ⟨b, k * 12 + 5, none⟩ = some (.int .i64 l[k].xp) ∧ w.cell? ⟨b, k * 12 + 6, none⟩ = some (.int .i64 l[k].xb) ∧ w.cell? ⟨b, k * 12 + 7, none⟩ = some (.int .i64 l[k].xs) ∧
    w.cell? ⟨b, k * 12 + 8, none⟩ = some (.int .i64 l[k].yk) ∧ w.cell? ⟨b, k * 12 + 9, none⟩ = some (.int .i64 l[k].yp) ∧ w.cell? ⟨b, k * 12 + 10, none⟩ = some (.int .i64 l[k].yb) ∧ w.cell? ⟨b, k * 12 + 11, none⟩ = some (.int .i64 l[k].ys) := by
  have g : ∀ i, i < 12 → ∀ v, l[k].cells[i]? = some v → w.cell? ⟨b, k * 12 + i, none⟩ = some v := fun i hi v hv => h _ v ((flat_at l k i hk hi).trans hv)
  exact ⟨g 0 (by omega) _ rfl, g 1 (by omega) _ rfl, g 2 (by omega) _ rfl, g 3 (by omega) _ rfl, g 4 (by omega) _ rfl, g 5 (by omega) _ rfl, g 6 (by omega) _ rfl, g 7 (by omega) _ rfl, g 8 (by omega) _ rfl, g 9 (by omega) _ rfl, g 10 (by omega) _ rfl, g 11 (by omega) _ rfl⟩
theorem rowsAt_alloc {w0 : World} {b : Nat} (l : List Rec) (C : Array Value) (t : TypeId) (hb : b = w0.heap.size) (hC : C = (flat l).toArray) : rowsAt (w0.alloc (.cells C t)) b l := by
  intro j v hj
  rw [World.cell?_alloc_at (w := w0) C t b j hb, hC]
  simpa using hj
theorem rowsAt.bel {w w' : World} {b : Nat} {l : List Rec} (h : rowsAt w b l) (hl : 0 < l.length) (hb : Below w.heap.size w w') : rowsAt w' b l := by
  have h0 := (h.at 0 hl).1
  have hlt : b < w.heap.size := block_lt_of_cell h0
  intro j v hj
  rw [hb.cell (p := ⟨b, j, none⟩) hlt]
  exact h j v hj

theorem infoOp : (Try.prog.info? 68).map (fun i => (i.zero, i.size, i.bytes)) = some (some (.agg #[.int .i64 0, .int .i64 0, .int .i64 0, .string ⟨#[]⟩, .int .i64 0, .int .i64 0, .int .i64 0, .int .i64 0, .int .i64 0, .int .i64 0, .int .i64 0, .int .i64 0]), 12, 104) := by kernel_rfl

/-- 'append(all, script...)'. -/
theorem append_ops (W : World) (b : Nat) (first ops : List Rec) (sa : Option Addr) (n c : Nat) (h6 : first.length = 6) (hn : ops.length = n) (hbig : (6 + n) * 104 ≤ 140737488355328) (hrow : rowsAt W b first)
    (hnil : sa = none → n = 0) (hsrc : ∀ a, sa = some a → ∀ j v, (flat ops)[j]? = some v → W.cell? (a.add j) = some v) :
    ∃ (g cap : Nat) (W2 : World), (∀ ty, (Builtin.append_ #[22, 22] ty #[.slice (some ⟨b, 0, none⟩) 6 6, .slice sa n c]).run Try.prog W = .ok (.slice (some ⟨g, 0, none⟩) (6 + n) cap) W2) ∧ rowsAt W2 g (first ++ ops) ∧ Below W.heap.size W W2 := by
  obtain ⟨i0, hi0, hz0, hzs, hzb⟩ := info_parts infoOp
  have hs : Src Try.prog i0.size 22 (.slice sa n c) n (flat ops) W := by
    rw [hzs]
    cases sa with
    | none =>
      have h0 := hnil rfl
      subst h0
      rw [List.length_eq_zero_iff.1 hn]
      exact Src.ofNil W Try.underlying22 c
    | some a => exact Src.ofSlice W Try.underlying22 a n c (flat ops) (by rw [flat_len, hn]) (hsrc a rfl) (flat_one ops)
  by_cases h0 : n = 0
  · subst h0
    have e0 : ops = [] := List.length_eq_zero_iff.1 hn
    subst e0
    refine ⟨b, 6, W, fun ty => ?_, by rw [List.append_nil]; exact hrow, Below.refl _ _⟩
    have h := run_append_room_src W 22 22 ty 68 i0 Try.underlying22 hi0 b 0 6 6 (.slice sa 0 c) 0 (flat []) hs (by omega) (fun j hj => by simp [flat] at hj) (fun j hj => by simp [flat] at hj)
    simpa [flat, World.setCells] using h
  · have hold : (Builtin.firstCells i0.size 6 (.slice (some ⟨b, 0, none⟩) 6 6)).run Try.prog W.drew = .ok (flat first).toArray W.drew := by
      rw [hzs]
      exact run_firstCells_some W.drew 12 6 ⟨b, 0, none⟩ 6 6 (flat first) (by rw [flat_len, h6]) (fun j v hj => by rw [Addr.add_lit, Nat.zero_add]; exact hrow j v hj)
    refine ⟨W.heap.size, _, _, fun ty => run_append_grow_src W 22 22 ty 68 i0 _ Try.underlying22 hi0 hz0 (some ⟨b, 0, none⟩) 6 6 (flat first) hold _ n (flat ops) hs (by omega) (by omega) (by rw [hzb]; exact growslice_fits (by omega) hbig), ?_, (Below.refl _ W).drew.alloc (Nat.le_refl _) _⟩
    intro j v hj
    rw [World.cell?_alloc_at (w := W.drew) _ _ W.heap.size j rfl]
    rw [flat_append] at hj
    have hjl : j < (flat first ++ flat ops).length := (List.getElem?_eq_some_iff.1 hj).1
    rw [Array.getElem?_append_left (by simpa using hjl)]
    simpa using hj
end Go.Proofs.Ytabahmcbhapbiaa
