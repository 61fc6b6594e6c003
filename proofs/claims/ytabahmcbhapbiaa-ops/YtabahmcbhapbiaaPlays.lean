import Derived.Test.YtabahmcbhapbiaaStep
import Derived.Test.YtabahmcbhapbiaaScript
import Derived.Test.YtabahmcbhapbiaaMem
namespace Go.Proofs.Ytabahmcbhapbiaa
open Go.RowKit Go.Lib
set_option linter.unusedVariables false

/-- The steps ahead of any script. -/
def first : List Rec := [⟨2, 0, 0, ⟨#[97, 98]⟩, 1, 1, 120, 0, 0, 0, 0, 0⟩, ⟨4, 0, 2, ⟨#[97, 98]⟩, 0, 0, 0, 0, 0, 0, 0, 0⟩, ⟨5, 0, 0, ⟨#[]⟩, 1, 1, 120, 0, 0, 0, 0, 0⟩, ⟨6, 0, 0, ⟨#[]⟩, 0, 0, 0, 0, 0, 0, 0, 0⟩, ⟨7, 0, 1, ⟨#[]⟩, 0, 0, 0, 0, 0, 0, 0, 0⟩, ⟨8, 0, 1, ⟨#[]⟩, 0, 0, 0, 0, 0, 0, 0, 0⟩]

/-- What lies behind the append: all steps in one row; the world without moots. -/
def Laid (w : World) (N : Nat) (all : List Rec) (v : Value) (W : World) : Prop :=
  ∃ g cap : Nat, v = .slice (some ⟨g, 0, none⟩) N cap ∧ rowsAt W g all ∧ Below w.heap.size w W ∧ w.heap.size < W.heap.size ∧ W.cell? ⟨w.heap.size, 0, none⟩ = some (.slice none 0 0) ∧ W.cell? ⟨w.heap.size, 1, none⟩ = some (.slice none 0 0)

theorem plays_append (w : World) (ops : List Rec) (sa : Option Addr) (n c N : Nat) (hn : ops.length = n) (hN : N = 6 + n) (hbig : N * 104 ≤ 140737488355328)
    (hnil : sa = none → n = 0) (hsrc : ∀ a, sa = some a → ∀ j v, (flat ops)[j]? = some v → w.cell? (a.add j) = some v) :
    ∃ v' w', (∀ ty, (Builtin.append_ #[22, 22] ty #[.slice (some ⟨w.heap.size + 1 + 1, 0, none⟩) 6 6, .slice sa n c]).run Try.prog
      (((w.alloc (.cells #[.slice none 0 0, .slice none 0 0] 66)).alloc (.cells #[.int .i64 1, .int .i64 1, .int .i64 120, .int .i64 0] 26)).alloc (.cells (flat first).toArray 68)) = .ok v' w') ∧ Laid w N (first ++ ops) v' w' := by
  subst hN
  have hB : Below w.heap.size w (((w.alloc (.cells #[.slice none 0 0, .slice none 0 0] 66)).alloc (.cells #[.int .i64 1, .int .i64 1, .int .i64 120, .int .i64 0] 26)).alloc (.cells (flat first).toArray 68)) :=
    bel_alloc (bel_alloc (bel_alloc (Below.refl _ _) _) _) _
  obtain ⟨g, cap, W2, h1, h2, h3⟩ := append_ops (((w.alloc (.cells #[.slice none 0 0, .slice none 0 0] 66)).alloc (.cells #[.int .i64 1, .int .i64 1, .int .i64 120, .int .i64 0] 26)).alloc (.cells (flat first).toArray 68))
    (w.heap.size + 1 + 1) first ops sa n c rfl hn hbig (rowsAt_alloc first _ _ (by simp) rfl) hnil (fun a ha j v hj => by
      have h := hsrc a ha j v hj
      rw [hB.cell (block_lt_of_cell h)]; exact h)
  have hz : (((w.alloc (.cells #[.slice none 0 0, .slice none 0 0] 66)).alloc (.cells #[.int .i64 1, .int .i64 1, .int .i64 120, .int .i64 0] 26)).alloc (.cells (flat first).toArray 68)).heap.size = w.heap.size + 1 + 1 + 1 := by simp
  refine ⟨_, _, h1, g, cap, rfl, h2, hB.trans (h3.mono (by omega)), by have := h3.size; omega, ?_, ?_⟩
  · rw [h3.cell (p := ⟨w.heap.size, 0, none⟩) (by show w.heap.size < _; omega)]; simp [go_sem]
  · rw [h3.cell (p := ⟨w.heap.size, 1, none⟩) (by show w.heap.size < _; omega)]; simp [go_sem]

set_option maxHeartbeats 2000000 in
set_option maxRecDepth 100000 in
theorem plays_any (sa : Option Addr) (n c : Nat) (ops : List Rec) (w : World) (hn : ops.length = n) (hbig : (6 + n) * 104 ≤ 140737488355328)
    (hnil : sa = none → n = 0) (hsrc : ∀ a, sa = some a → ∀ j v, (flat ops)[j]? = some v → w.cell? (a.add j) = some v) (ht : ∀ r ∈ ops, r.t.size + 1 ≤ 140737488355328) :
    Calls Try.prog 12 #[.slice sa n c, .int .i64 3] w fun e w' => e = .returned (.bool true) ∧ Below w.heap.size w w' := by
  obtain ⟨N, hN⟩ : ∃ N, N = 6 + n := ⟨_, rfl⟩
  rw [← hN] at hbig
  have HA : Hid (∃ v' w', (∀ ty, (Builtin.append_ #[22, 22] ty #[.slice (some ⟨w.heap.size + 1 + 1, 0, none⟩) 6 6, .slice sa n c]).run Try.prog
      (((w.alloc (.cells #[.slice none 0 0, .slice none 0 0] 66)).alloc (.cells #[.int .i64 1, .int .i64 1, .int .i64 120, .int .i64 0] 26)).alloc (.cells (flat first).toArray 68)) = .ok v' w') ∧ Laid w N (first ++ ops) v' w') :=
    plays_append w ops sa n c N hn hN hbig hnil hsrc
  have HT : Hid (∀ k (hk : k < (first ++ ops).length), (first ++ ops)[k].t.size + 1 ≤ 140737488355328) := fun k hk => by
    rcases List.mem_append.1 (List.getElem_mem hk) with h | h
    · have : ∀ r ∈ first, r.t.size + 1 ≤ 140737488355328 := by decide
      exact this _ h
    · exact ht _ h
  have HL : Hid ((first ++ ops).length = N) := by show _ = _; rw [List.length_append, hn, hN]; rfl
  generalize first ++ ops = all at *
  clear hnil hsrc ht hn hN
  go_enter Try.func12, Try.ntmps12
  go_wp2_with (at_builtin; refine wpList_append_ex _ rfl _ _ _ _ rfl _ _ rfl rfl (Laid w N all) HA.out ?_; rintro v' W2 ⟨g, cap, hv, hrows, hbel, hz, hc0, hc1⟩; subst hv)
  have HR : Hid (rowsAt W2 g all) := hrows
  have HW : Hid (Below w.heap.size w W2) := hbel
  have HC0 : Hid (W2.cell? ⟨w.heap.size, 0, none⟩ = some (.slice none 0 0)) := hc0
  have HC1 : Hid (W2.cell? ⟨w.heap.size, 1, none⟩ = some (.slice none 0 0)) := hc1
  clear hrows hbel hc0 hc1 HA
  go_loopw [8] (fun i wr => ∃ k : Nat, k ≤ N ∧ i = .int .i64 k ∧ Below W2.heap.size W2 wr) (fun i _ => N - (RowKit.intOf i).toNat)
  case atStart => exact ⟨0, Nat.zero_le _, rfl, Below.refl _ _⟩
  case round =>
    obtain ⟨k, hk, rfl, hbr⟩ := hrel
    have HB : Hid (Below W2.heap.size W2 wr) := hbr
    by_cases hlt : k < N
    · have hlt' : k < all.length := by rw [HL.out]; exact hlt
      obtain ⟨c0, c1, c2, c3, c4, c5, c6, c7, c8, c9, c10, c11⟩ := (HR.out.bel (by omega) hbr).at k hlt'
      have w0 : wr.cell? ⟨w.heap.size, 0, none⟩ = some (.slice none 0 0) := by rw [hbr.cell (p := ⟨w.heap.size, 0, none⟩) hz]; exact HC0.out
      have w1 : wr.cell? ⟨w.heap.size, 1, none⟩ = some (.slice none 0 0) := by rw [hbr.cell (p := ⟨w.heap.size, 1, none⟩) hz]; exact HC1.out
      have hzr : w.heap.size < wr.heap.size := Nat.lt_of_lt_of_le hz hbr.size
      have htk := HT.out k hlt'
      have hki : (k : Int) < (N : Int) := by omega
      generalize all[k] = r at *
      clear hbr hlt'
      by_cases hkd : r.kd ≤ 3
      · have HS : Hid (Calls Try.prog 28 #[.pointer (some ⟨w.heap.size, 0, none⟩), .agg #[.int .i64 r.kd, .int .i64 r.on, .int .i64 r.aa, .string r.t, .int .i64 r.xk, .int .i64 r.xp, .int .i64 r.xb, .int .i64 r.xs, .int .i64 r.yk, .int .i64 r.yp, .int .i64 r.yb, .int .i64 r.ys]] wr fun e w' => e = .returned (.bool true) ∧ Below wr.heap.size wr w') :=
          step_any w.heap.size r.kd r.on r.aa r.t r.xk r.xp r.xb r.xs r.yk r.yp r.yb r.ys wr hkd htk hzr w0
        clear htk
        go_wp2_with fail
        refine HS.out.mono ?_
        rintro e w3 ⟨rfl, hb3⟩
        have w3c : w3.cell? ⟨w.heap.size, 1, none⟩ = some (.slice none 0 0) := by rw [hb3.cell (p := ⟨w.heap.size, 1, none⟩) hzr]; exact w1
        have HB3 : Hid (Below W2.heap.size W2 w3) := HB.out.trans (hb3.mono HB.out.size)
        clear hb3 HS c0 c1 c2 c3 c4 c5 c6 c7 c8 c9 c10 c11 w0 w1
        go_wp2_with (go_at_call 29; refine (looks_none _ _ w3c).mono ?_; rintro e w4 ⟨rfl, rfl⟩)
        all_goals exact ⟨⟨k + 1, by omega, by go_num, HB3.out⟩, by simp [RowKit.intOf]; omega⟩
      · have hkd' : 3 < r.kd := by omega
        go_wp2
        all_goals exact ⟨⟨k + 1, by omega, by go_num, HB.out⟩, by simp [RowKit.intOf]; omega⟩
    · go_wp2
      go_ret
      exact ⟨rfl, bel_trans HW.out HB.out⟩
end Go.Proofs.Ytabahmcbhapbiaa
