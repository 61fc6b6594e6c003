import Derived.Test.YtabahmcbhapbiaaQRight
import Derived.Test.YtabahmcbhapbiaaQTurnAll
import Derived.Deep.RegionHeld3
namespace Go.Proofs.Ytabahmcbhapbiaa
open Go.RowKit
set_option linter.unusedVariables false

def okT (a b : Op4) : Bool := rightB a.k a.p a.b a.s && rightB b.k b.p b.b b.s
/-- Turn's answer. -/
def turnT (a b : Op4) : Op4 × Op4 := if okT a b then turn a b else (⟨0, 0, 0, 0⟩, ⟨0, 0, 0, 0⟩)
def turnW (x : Op4 × Op4) (e : Int) : Value := .tuple #[.agg #[.int .i64 x.1.k, .int .i64 x.1.p, .int .i64 x.1.b, .int .i64 x.1.s], .agg #[.int .i64 x.2.k, .int .i64 x.2.p, .int .i64 x.2.b, .int .i64 x.2.s], .int .i64 e]
theorem turn_no {a b : Op4} (h : okT a b = false) : turnW (turnT a b) (eno (okT a b)) = .tuple #[.agg #[.int .i64 0, .int .i64 0, .int .i64 0, .int .i64 0], .agg #[.int .i64 0, .int .i64 0, .int .i64 0, .int .i64 0], .int .i64 2] := by
  simp [turnT, h, eno, turnW]
theorem turn_yes {a b : Op4} (h : okT a b = true) : turnW (turnT a b) (eno (okT a b)) = turnW (turn a b) 0 := by
  simp [turnT, h, eno]
theorem turnV_lit (x : Op4 × Op4) : turnV x = .tuple #[.agg #[.int .i64 x.1.k, .int .i64 x.1.p, .int .i64 x.1.b, .int .i64 x.1.s], .agg #[.int .i64 x.2.k, .int .i64 x.2.p, .int .i64 x.2.b, .int .i64 x.2.s]] := rfl

theorem right_kind {k p b s : Int} (h : rightB k p b s = true) : (k = 0 ∨ k = 1 ∨ k = 2) ∧ 0 ≤ p ∧ p ≤ 1000000000000000 := by
  rw [rightB_iff] at h; omega

set_option maxHeartbeats 1000000 in
theorem mootTurn_no1 (ak ap ab as1 bk bp bb bs : Int) (ha : rightB ak ap ab as1 = false) (w : World) :
    Calls Try.prog 15 #[.agg #[.int .i64 ak, .int .i64 ap, .int .i64 ab, .int .i64 as1], .agg #[.int .i64 bk, .int .i64 bp, .int .i64 bb, .int .i64 bs]] w fun e w' =>
      e = .returned (.tuple #[.agg #[.int .i64 0, .int .i64 0, .int .i64 0, .int .i64 0], .agg #[.int .i64 0, .int .i64 0, .int .i64 0, .int .i64 0], .int .i64 2]) ∧ Below w.heap.size w w' := by
  go_enter Try.func15, Try.ntmps15
  go_wp2_with fail
  refine (opRight_any ak ap ab as1 _).mono ?_
  rintro e w1 ⟨rfl, hb1⟩
  have HB : Hid (Below w.heap.size w w1) := bel_trans (bel_alloc (bel_alloc (bel_alloc (bel_alloc (Below.refl _ _) _) _) _) _) hb1
  obtain ⟨hc1, hf1⟩ := bcell hb1
  have hz1 : w.heap.size + 1 + 1 + 1 < w1.heap.size := by have := hb1.size; simp at this; omega
  have hz1c : w.heap.size + 1 + 1 < w1.heap.size := by omega
  have hz1b : w.heap.size + 1 < w1.heap.size := by omega
  have hz1a : w.heap.size < w1.heap.size := by omega
  clear hb1
  go_wp2
  simp [bodyPost, results, Try.results15, go_sem, hc1]
  repeat (refine bel_set ?_ (by first | (simp; done) | (simp; omega)) _)
  exact HB.out

set_option maxHeartbeats 1000000 in
theorem mootTurn_no2 (ak ap ab as1 bk bp bb bs : Int) (ha : rightB ak ap ab as1 = true) (hb : rightB bk bp bb bs = false) (w : World) :
    Calls Try.prog 15 #[.agg #[.int .i64 ak, .int .i64 ap, .int .i64 ab, .int .i64 as1], .agg #[.int .i64 bk, .int .i64 bp, .int .i64 bb, .int .i64 bs]] w fun e w' =>
      e = .returned (.tuple #[.agg #[.int .i64 0, .int .i64 0, .int .i64 0, .int .i64 0], .agg #[.int .i64 0, .int .i64 0, .int .i64 0, .int .i64 0], .int .i64 2]) ∧ Below w.heap.size w w' := by
  go_enter Try.func15, Try.ntmps15
  go_wp2_with fail
  refine (opRight_any ak ap ab as1 _).mono ?_
  rintro e w1 ⟨rfl, hb1⟩
  have HB : Hid (Below w.heap.size w w1) := bel_trans (bel_alloc (bel_alloc (bel_alloc (bel_alloc (Below.refl _ _) _) _) _) _) hb1
  obtain ⟨hc1, hf1⟩ := bcell hb1
  have hz1 : w.heap.size + 1 + 1 + 1 < w1.heap.size := by have := hb1.size; simp at this; omega
  have hz1c : w.heap.size + 1 + 1 < w1.heap.size := by omega
  have hz1b : w.heap.size + 1 < w1.heap.size := by omega
  have hz1a : w.heap.size < w1.heap.size := by omega
  clear hb1
  go_wp2_with fail
  refine (opRight_any bk bp bb bs _).mono ?_
  rintro e w2 ⟨rfl, hb2⟩
  have HB2 : Hid (Below w.heap.size w w2) := bel_trans HB.out hb2
  obtain ⟨hc2, hf2⟩ := bcell hb2
  have hz2 : w.heap.size + 1 + 1 + 1 < w2.heap.size := by have := hb2.size; omega
  have hz2c : w.heap.size + 1 + 1 < w2.heap.size := by omega
  have hz2b : w.heap.size + 1 < w2.heap.size := by omega
  have hz2a : w.heap.size < w2.heap.size := by omega
  clear hb2
  go_wp2
  simp [bodyPost, results, Try.results15, go_sem, hc1, hc2, hz1, hz1c]
  repeat (refine bel_set ?_ (by first | (simp; done) | (simp; omega)) _)
  exact HB2.out

set_option maxHeartbeats 1000000 in
theorem mootTurn_yes (ak ap ab as1 bk bp bb bs xk xp xb xs yk yp yb ys : Int) (ha : rightB ak ap ab as1 = true) (hb : rightB bk bp bb bs = true)
    (HT : Hid (∀ W, Calls Try.prog 32 #[.agg #[.int .i64 ak, .int .i64 ap, .int .i64 ab, .int .i64 as1], .agg #[.int .i64 bk, .int .i64 bp, .int .i64 bb, .int .i64 bs]] W fun e w' =>
      e = .returned (.tuple #[.agg #[.int .i64 xk, .int .i64 xp, .int .i64 xb, .int .i64 xs], .agg #[.int .i64 yk, .int .i64 yp, .int .i64 yb, .int .i64 ys]]) ∧ Below W.heap.size W w')) (w : World) :
    Calls Try.prog 15 #[.agg #[.int .i64 ak, .int .i64 ap, .int .i64 ab, .int .i64 as1], .agg #[.int .i64 bk, .int .i64 bp, .int .i64 bb, .int .i64 bs]] w fun e w' =>
      e = .returned (.tuple #[.agg #[.int .i64 xk, .int .i64 xp, .int .i64 xb, .int .i64 xs], .agg #[.int .i64 yk, .int .i64 yp, .int .i64 yb, .int .i64 ys], .int .i64 0]) ∧ Below w.heap.size w w' := by
  go_enter Try.func15, Try.ntmps15
  go_wp2_with fail
  refine (opRight_any ak ap ab as1 _).mono ?_
  rintro e w1 ⟨rfl, hb1⟩
  have HB : Hid (Below w.heap.size w w1) := bel_trans (bel_alloc (bel_alloc (bel_alloc (bel_alloc (Below.refl _ _) _) _) _) _) hb1
  obtain ⟨hc1, hf1⟩ := bcell hb1
  have hz1 : w.heap.size + 1 + 1 + 1 < w1.heap.size := by have := hb1.size; simp at this; omega
  have hz1c : w.heap.size + 1 + 1 < w1.heap.size := by omega
  have hz1b : w.heap.size + 1 < w1.heap.size := by omega
  have hz1a : w.heap.size < w1.heap.size := by omega
  clear hb1
  go_wp2_with fail
  refine (opRight_any bk bp bb bs _).mono ?_
  rintro e w2 ⟨rfl, hb2⟩
  have HB2 : Hid (Below w.heap.size w w2) := bel_trans HB.out hb2
  obtain ⟨hc2, hf2⟩ := bcell hb2
  have hz2 : w.heap.size + 1 + 1 + 1 < w2.heap.size := by have := hb2.size; omega
  have hz2c : w.heap.size + 1 + 1 < w2.heap.size := by omega
  have hz2b : w.heap.size + 1 < w2.heap.size := by omega
  have hz2a : w.heap.size < w2.heap.size := by omega
  clear hb2
  go_wp2_with fail
  refine (HT.out _).mono ?_
  rintro e w3 ⟨rfl, hb3⟩
  have HB3 : Hid (Below w.heap.size w w3) := bel_trans HB2.out hb3
  obtain ⟨hc3, hf3⟩ := bcell hb3
  have hz3 : w.heap.size + 1 + 1 + 1 < w3.heap.size := by have := hb3.size; omega
  have hz3c : w.heap.size + 1 + 1 < w3.heap.size := by omega
  have hz3b : w.heap.size + 1 < w3.heap.size := by omega
  have hz3a : w.heap.size < w3.heap.size := by omega
  clear hb3
  go_wp2
  go_region
  all_goals go_wp2
  all_goals simp [bodyPost, results, Try.results15, go_sem, hc1, hc2, hc3, hz1, hz2, hz3, hz1c, hz2c, hz3c, hz3b]
  all_goals refine Below.drew (bel_alloc (bel_alloc ?_ _) _)
  all_goals repeat (refine bel_set ?_ (by first | (simp; done) | (simp; omega)) _)
  all_goals exact HB3.out

set_option maxHeartbeats 1000000 in
theorem refTurn_no1 (ak ap ab as1 bk bp bb bs : Int) (ha : eno (rightB ak ap ab as1) = 2) (hb : eno (rightB bk bp bb bs) = 0) (w : World) :
    Calls Try.prog 76 #[.agg #[.int .i64 ak, .int .i64 ap, .int .i64 ab, .int .i64 as1], .agg #[.int .i64 bk, .int .i64 bp, .int .i64 bb, .int .i64 bs]] w fun e w' =>
      e = .returned (.tuple #[.agg #[.int .i64 0, .int .i64 0, .int .i64 0, .int .i64 0], .agg #[.int .i64 0, .int .i64 0, .int .i64 0, .int .i64 0], .int .i64 2]) ∧ Below w.heap.size w w' := by
  go_enter Try.func76, Try.ntmps76
  go_wp2_with fail
  refine (refRight_any ak ap ab as1 _).mono ?_
  rintro e w1 ⟨rfl, hb1⟩
  have HB : Hid (Below w.heap.size w w1) := bel_trans (bel_alloc (bel_alloc (bel_alloc (bel_alloc (Below.refl _ _) _) _) _) _) hb1
  obtain ⟨hc1, hf1⟩ := bcell hb1
  have hz1 : w.heap.size + 1 + 1 + 1 < w1.heap.size := by have := hb1.size; simp at this; omega
  have hz1c : w.heap.size + 1 + 1 < w1.heap.size := by omega
  have hz1b : w.heap.size + 1 < w1.heap.size := by omega
  have hz1a : w.heap.size < w1.heap.size := by omega
  clear hb1
  rw [ha]
  go_wp2_with fail
  refine (refRight_any bk bp bb bs _).mono ?_
  rintro e w2 ⟨rfl, hb2⟩
  have HB2 : Hid (Below w.heap.size w w2) := bel_trans HB.out hb2
  obtain ⟨hc2, hf2⟩ := bcell hb2
  have hz2 : w.heap.size + 1 + 1 + 1 < w2.heap.size := by have := hb2.size; omega
  have hz2c : w.heap.size + 1 + 1 < w2.heap.size := by omega
  have hz2b : w.heap.size + 1 < w2.heap.size := by omega
  have hz2a : w.heap.size < w2.heap.size := by omega
  clear hb2
  rw [hb]
  go_wp2
  all_goals simp [bodyPost, results, Try.results76, go_sem, hc1, hc2, hz1, hz1c]
  all_goals repeat (refine bel_set ?_ (by first | (simp; done) | (simp; omega)) _)
  all_goals exact HB2.out

set_option maxHeartbeats 1000000 in
theorem refTurn_no2 (ak ap ab as1 bk bp bb bs : Int) (ha : eno (rightB ak ap ab as1) = 0) (hb : eno (rightB bk bp bb bs) = 2) (w : World) :
    Calls Try.prog 76 #[.agg #[.int .i64 ak, .int .i64 ap, .int .i64 ab, .int .i64 as1], .agg #[.int .i64 bk, .int .i64 bp, .int .i64 bb, .int .i64 bs]] w fun e w' =>
      e = .returned (.tuple #[.agg #[.int .i64 0, .int .i64 0, .int .i64 0, .int .i64 0], .agg #[.int .i64 0, .int .i64 0, .int .i64 0, .int .i64 0], .int .i64 2]) ∧ Below w.heap.size w w' := by
  go_enter Try.func76, Try.ntmps76
  go_wp2_with fail
  refine (refRight_any ak ap ab as1 _).mono ?_
  rintro e w1 ⟨rfl, hb1⟩
  have HB : Hid (Below w.heap.size w w1) := bel_trans (bel_alloc (bel_alloc (bel_alloc (bel_alloc (Below.refl _ _) _) _) _) _) hb1
  obtain ⟨hc1, hf1⟩ := bcell hb1
  have hz1 : w.heap.size + 1 + 1 + 1 < w1.heap.size := by have := hb1.size; simp at this; omega
  have hz1c : w.heap.size + 1 + 1 < w1.heap.size := by omega
  have hz1b : w.heap.size + 1 < w1.heap.size := by omega
  have hz1a : w.heap.size < w1.heap.size := by omega
  clear hb1
  rw [ha]
  go_wp2_with fail
  refine (refRight_any bk bp bb bs _).mono ?_
  rintro e w2 ⟨rfl, hb2⟩
  have HB2 : Hid (Below w.heap.size w w2) := bel_trans HB.out hb2
  obtain ⟨hc2, hf2⟩ := bcell hb2
  have hz2 : w.heap.size + 1 + 1 + 1 < w2.heap.size := by have := hb2.size; omega
  have hz2c : w.heap.size + 1 + 1 < w2.heap.size := by omega
  have hz2b : w.heap.size + 1 < w2.heap.size := by omega
  have hz2a : w.heap.size < w2.heap.size := by omega
  clear hb2
  rw [hb]
  go_wp2
  all_goals simp [bodyPost, results, Try.results76, go_sem, hc1, hc2, hz1, hz1c]
  all_goals repeat (refine bel_set ?_ (by first | (simp; done) | (simp; omega)) _)
  all_goals exact HB2.out

set_option maxHeartbeats 1000000 in
theorem refTurn_no3 (ak ap ab as1 bk bp bb bs : Int) (ha : eno (rightB ak ap ab as1) = 2) (hb : eno (rightB bk bp bb bs) = 2) (w : World) :
    Calls Try.prog 76 #[.agg #[.int .i64 ak, .int .i64 ap, .int .i64 ab, .int .i64 as1], .agg #[.int .i64 bk, .int .i64 bp, .int .i64 bb, .int .i64 bs]] w fun e w' =>
      e = .returned (.tuple #[.agg #[.int .i64 0, .int .i64 0, .int .i64 0, .int .i64 0], .agg #[.int .i64 0, .int .i64 0, .int .i64 0, .int .i64 0], .int .i64 2]) ∧ Below w.heap.size w w' := by
  go_enter Try.func76, Try.ntmps76
  go_wp2_with fail
  refine (refRight_any ak ap ab as1 _).mono ?_
  rintro e w1 ⟨rfl, hb1⟩
  have HB : Hid (Below w.heap.size w w1) := bel_trans (bel_alloc (bel_alloc (bel_alloc (bel_alloc (Below.refl _ _) _) _) _) _) hb1
  obtain ⟨hc1, hf1⟩ := bcell hb1
  have hz1 : w.heap.size + 1 + 1 + 1 < w1.heap.size := by have := hb1.size; simp at this; omega
  have hz1c : w.heap.size + 1 + 1 < w1.heap.size := by omega
  have hz1b : w.heap.size + 1 < w1.heap.size := by omega
  have hz1a : w.heap.size < w1.heap.size := by omega
  clear hb1
  rw [ha]
  go_wp2_with fail
  refine (refRight_any bk bp bb bs _).mono ?_
  rintro e w2 ⟨rfl, hb2⟩
  have HB2 : Hid (Below w.heap.size w w2) := bel_trans HB.out hb2
  obtain ⟨hc2, hf2⟩ := bcell hb2
  have hz2 : w.heap.size + 1 + 1 + 1 < w2.heap.size := by have := hb2.size; omega
  have hz2c : w.heap.size + 1 + 1 < w2.heap.size := by omega
  have hz2b : w.heap.size + 1 < w2.heap.size := by omega
  have hz2a : w.heap.size < w2.heap.size := by omega
  clear hb2
  rw [hb]
  go_wp2
  all_goals simp [bodyPost, results, Try.results76, go_sem, hc1, hc2, hz1, hz1c]
  all_goals repeat (refine bel_set ?_ (by first | (simp; done) | (simp; omega)) _)
  all_goals exact HB2.out

set_option maxHeartbeats 1000000 in
theorem refTurn_yes (ak ap ab as1 bk bp bb bs xk xp xb xs yk yp yb ys : Int) (ha : eno (rightB ak ap ab as1) = 0) (hb : eno (rightB bk bp bb bs) = 0)
    (HT : Hid (∀ W, Calls Try.prog 95 #[.agg #[.int .i64 ak, .int .i64 ap, .int .i64 ab, .int .i64 as1], .agg #[.int .i64 bk, .int .i64 bp, .int .i64 bb, .int .i64 bs]] W fun e w' =>
      e = .returned (.tuple #[.agg #[.int .i64 xk, .int .i64 xp, .int .i64 xb, .int .i64 xs], .agg #[.int .i64 yk, .int .i64 yp, .int .i64 yb, .int .i64 ys]]) ∧ Below W.heap.size W w')) (w : World) :
    Calls Try.prog 76 #[.agg #[.int .i64 ak, .int .i64 ap, .int .i64 ab, .int .i64 as1], .agg #[.int .i64 bk, .int .i64 bp, .int .i64 bb, .int .i64 bs]] w fun e w' =>
      e = .returned (.tuple #[.agg #[.int .i64 xk, .int .i64 xp, .int .i64 xb, .int .i64 xs], .agg #[.int .i64 yk, .int .i64 yp, .int .i64 yb, .int .i64 ys], .int .i64 0]) ∧ Below w.heap.size w w' := by
  go_enter Try.func76, Try.ntmps76
  go_wp2_with fail
  refine (refRight_any ak ap ab as1 _).mono ?_
  rintro e w1 ⟨rfl, hb1⟩
  have HB : Hid (Below w.heap.size w w1) := bel_trans (bel_alloc (bel_alloc (bel_alloc (bel_alloc (Below.refl _ _) _) _) _) _) hb1
  obtain ⟨hc1, hf1⟩ := bcell hb1
  have hz1 : w.heap.size + 1 + 1 + 1 < w1.heap.size := by have := hb1.size; simp at this; omega
  have hz1c : w.heap.size + 1 + 1 < w1.heap.size := by omega
  have hz1b : w.heap.size + 1 < w1.heap.size := by omega
  have hz1a : w.heap.size < w1.heap.size := by omega
  clear hb1
  rw [ha]
  go_wp2_with fail
  refine (refRight_any bk bp bb bs _).mono ?_
  rintro e w2 ⟨rfl, hb2⟩
  have HB2 : Hid (Below w.heap.size w w2) := bel_trans HB.out hb2
  obtain ⟨hc2, hf2⟩ := bcell hb2
  have hz2 : w.heap.size + 1 + 1 + 1 < w2.heap.size := by have := hb2.size; omega
  have hz2c : w.heap.size + 1 + 1 < w2.heap.size := by omega
  have hz2b : w.heap.size + 1 < w2.heap.size := by omega
  have hz2a : w.heap.size < w2.heap.size := by omega
  clear hb2
  rw [hb]
  go_wp2_with fail
  refine (HT.out _).mono ?_
  rintro e w3 ⟨rfl, hb3⟩
  have HB3 : Hid (Below w.heap.size w w3) := bel_trans HB2.out hb3
  obtain ⟨hc3, hf3⟩ := bcell hb3
  have hz3 : w.heap.size + 1 + 1 + 1 < w3.heap.size := by have := hb3.size; omega
  have hz3c : w.heap.size + 1 + 1 < w3.heap.size := by omega
  have hz3b : w.heap.size + 1 < w3.heap.size := by omega
  have hz3a : w.heap.size < w3.heap.size := by omega
  clear hb3
  go_wp2
  go_region
  all_goals go_wp2
  all_goals simp [bodyPost, results, Try.results76, go_sem, hc1, hc2, hc3, hz1, hz2, hz3, hz1c, hz2c, hz3c, hz3b]
  all_goals refine Below.drew (bel_alloc (bel_alloc ?_ _) _)
  all_goals repeat (refine bel_set ?_ (by first | (simp; done) | (simp; omega)) _)
  all_goals exact HB3.out

theorem mootTurn_any (a b : Op4) (w : World) :
    Calls Try.prog 15 #[.agg #[.int .i64 a.k, .int .i64 a.p, .int .i64 a.b, .int .i64 a.s], .agg #[.int .i64 b.k, .int .i64 b.p, .int .i64 b.b, .int .i64 b.s]] w fun e w' => e = .returned (turnW (turnT a b) (eno (okT a b))) ∧ Below w.heap.size w w' := by
  cases ha : rightB a.k a.p a.b a.s
  · rw [turn_no (by simp [okT, ha])]
    exact mootTurn_no1 _ _ _ _ _ _ _ _ ha w
  · cases hb : rightB b.k b.p b.b b.s
    · rw [turn_no (by simp [okT, hb])]
      exact mootTurn_no2 _ _ _ _ _ _ _ _ ha hb w
    · rw [turn_yes (by simp [okT, ha, hb])]
      exact mootTurn_yes _ _ _ _ _ _ _ _ _ _ _ _ _ _ _ _ ha hb (fun W => opTurn_any a b (right_kind ha).1 (right_kind hb).1 (right_kind ha).2.1 (right_kind ha).2.2 (right_kind hb).2.1 (right_kind hb).2.2 W) w

theorem refTurn_any (a b : Op4) (w : World) :
    Calls Try.prog 76 #[.agg #[.int .i64 a.k, .int .i64 a.p, .int .i64 a.b, .int .i64 a.s], .agg #[.int .i64 b.k, .int .i64 b.p, .int .i64 b.b, .int .i64 b.s]] w fun e w' => e = .returned (turnW (turnT a b) (eno (okT a b))) ∧ Below w.heap.size w w' := by
  cases ha : rightB a.k a.p a.b a.s
  · rw [turn_no (by simp [okT, ha])]
    cases hb : rightB b.k b.p b.b b.s
    · exact refTurn_no3 _ _ _ _ _ _ _ _ (eno_false ha) (eno_false hb) w
    · exact refTurn_no1 _ _ _ _ _ _ _ _ (eno_false ha) (eno_true hb) w
  · cases hb : rightB b.k b.p b.b b.s
    · rw [turn_no (by simp [okT, hb])]
      exact refTurn_no2 _ _ _ _ _ _ _ _ (eno_true ha) (eno_false hb) w
    · rw [turn_yes (by simp [okT, ha, hb])]
      exact refTurn_yes _ _ _ _ _ _ _ _ _ _ _ _ _ _ _ _ (eno_true ha) (eno_true hb) (fun W => refTurned_any a b (right_kind ha).1 (right_kind hb).1 (right_kind ha).2.1 (right_kind ha).2.2 (right_kind hb).2.1 (right_kind hb).2.2 W) w
end Go.Proofs.Ytabahmcbhapbiaa
