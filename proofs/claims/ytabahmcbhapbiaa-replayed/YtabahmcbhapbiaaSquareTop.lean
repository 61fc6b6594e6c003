import Derived.Test.YtabahmcbhapbiaaAwake
import Derived.Test.YtabahmcbhapbiaaKOpen
namespace Go.Proofs.Ytabahmcbhapbiaa
open Go.RowKit Go.Lib
set_option linter.unusedVariables false
theorem doneS_app {t u : List UInt8} {o : Op4} (hw : Wf o) (ha : app t o = some u) : (⟨u.toArray⟩ : ByteArray) = doneS ⟨t.toArray⟩ o.k o.p o.b ∧ fitsB t.length o.k o.p = true := by
  obtain ⟨w0, w1, w2, w3⟩ := hw
  unfold app at ha
  have hfit : (o.k = 1 → o.p ≤ t.length) ∧ (o.k = 2 → o.p < t.length) := by
    refine ⟨fun e => ?_, fun e => ?_⟩
    · rw [if_pos e] at ha
      split at ha
      · omega
      · cases ha
    · rw [if_neg (by omega), if_pos e] at ha
      split at ha
      · omega
      · cases ha
  refine ⟨?_, by rw [fitsB_iff]; exact hfit⟩
  unfold doneS
  by_cases e1 : o.k = 1
  · rw [if_pos e1] at ha ⊢
    rw [if_pos (by have := hfit.1 e1; omega)] at ha
    cases ha
    simp [ins]
  · rw [if_neg e1] at ha ⊢
    by_cases e2 : o.k = 2
    · rw [if_pos e2] at ha ⊢
      rw [if_pos (by have := hfit.2 e2; omega)] at ha
      cases ha
      simp [del]
    · rw [if_neg e2] at ha ⊢
      cases ha
      rfl
theorem right_wf {o : Op4} (h : rightB o.k o.p o.b o.s = true) : Wf o := by
  rw [rightB_iff] at h
  exact ⟨by omega, by omega, by omega, by omega⟩
theorem wf_right {o : Op4} (h : Wf o) (hp : o.p ≤ 1000) : rightB o.k o.p o.b o.s = true := by
  rw [rightB_iff]
  obtain ⟨w0, w1, w2, w3⟩ := h
  omega
/-- Apply, on an op that fits. -/
theorem apply_app {t u : List UInt8} {o : Op4} (hr : rightB o.k o.p o.b o.s = true) (ha : app t o = some u) (ht : t.length ≤ 100000000000000) (w : World) :
    Calls Try.prog 16 #[dstr t, .agg #[.int .i64 o.k, .int .i64 o.p, .int .i64 o.b, .int .i64 o.s]] w fun e w' => e = .returned (.tuple #[dstr u, .int .i64 0]) ∧ Below w.heap.size w w' := by
  have hsz := dstr_size t
  obtain ⟨hd, hf⟩ := doneS_app (right_wf hr) ha
  have h := mootApply_any ⟨t.toArray⟩ o.k o.p o.b o.s (by rw [hsz]; omega) w
  rw [apply_yes (by unfold okA; rw [hr, hsz, hf]; rfl), ← hd] at h
  exact h
/-- Turn, on two that are right. -/
theorem turn_right {a b : Op4} (ha : rightB a.k a.p a.b a.s = true) (hb : rightB b.k b.p b.b b.s = true) (w : World) :
    Calls Try.prog 15 #[.agg #[.int .i64 a.k, .int .i64 a.p, .int .i64 a.b, .int .i64 a.s], .agg #[.int .i64 b.k, .int .i64 b.p, .int .i64 b.b, .int .i64 b.s]] w fun e w' => e = .returned (.tuple #[.agg #[.int .i64 (turn a b).1.k, .int .i64 (turn a b).1.p, .int .i64 (turn a b).1.b, .int .i64 (turn a b).1.s], .agg #[.int .i64 (turn a b).2.k, .int .i64 (turn a b).2.p, .int .i64 (turn a b).2.b, .int .i64 (turn a b).2.s], .int .i64 0]) ∧ Below w.heap.size w w' := by
  have h := mootTurn_any a b w
  rw [turn_yes (by unfold okT; rw [ha, hb]; rfl)] at h
  exact h
/-- What 'op' gives is right, and fits. -/
theorem keepOp_ok (k p b s : Int) (n : Nat) (hn : n ≤ 1000) (hi : keepIs k n = true) : rightB (keepOp k p b s n).k (keepOp k p b s n).p (keepOp k p b s n).b (keepOp k p b s n).s = true ∧ fitsB n (keepOp k p b s n).k (keepOp k p b s n).p = true ∧ (keepOp k p b s n).p ≤ n ∧ (keepOp k p b s n).s = pickN s 4 ∧ (keepOp k p b s n).k ≠ 0 := by
  have h4 := pickN_lt s (n := 4) (by omega)
  unfold keepIs at hi
  unfold keepOp
  by_cases e : pickN k 2 = 0
  · rw [if_pos e]
    have h1 := pickN_lt p (n := n + 1) (by omega)
    have h2 := pickN_lt b (n := 256) (by omega)
    refine ⟨?_, ?_, ?_, rfl, by simp⟩
    · show rightB 1 (pickN p (n + 1)) (pickN b 256) (pickN s 4) = true
      rw [rightB_iff]; omega
    · show fitsB n 1 (pickN p (n + 1)) = true
      rw [fitsB_iff]; omega
    · show (pickN p (n + 1) : Int) ≤ n
      omega
  · rw [if_neg e]
    have h0 : 0 < n := by
      rw [decide_eq_false e, Bool.false_or] at hi
      simpa using hi
    rw [if_neg (by omega)]
    have h1 := pickN_lt p (n := n) h0
    refine ⟨?_, ?_, ?_, rfl, by simp⟩
    · show rightB 2 (pickN p n) 0 (pickN s 4) = true
      rw [rightB_iff]; omega
    · show fitsB n 2 (pickN p n) = true
      rw [fitsB_iff]; omega
    · show (pickN p n : Int) ≤ n
      omega
theorem fits_app {t : List UInt8} {o : Op4} (hr : rightB o.k o.p o.b o.s = true) (hf : fitsB t.length o.k o.p = true) : ∃ u, app t o = some u := by
  rw [rightB_iff] at hr
  rw [fitsB_iff] at hf
  unfold app
  by_cases e1 : o.k = 1
  · rw [if_pos e1, if_pos (by have := hf.1 e1; omega)]; exact ⟨_, rfl⟩
  · rw [if_neg e1]
    by_cases e2 : o.k = 2
    · rw [if_pos e2, if_pos (by have := hf.2 e2; omega)]; exact ⟨_, rfl⟩
    · rw [if_neg e2]; exact ⟨_, rfl⟩
section
variable (t : List UInt8) (xk xp xb xs yk yp yb ys : Int)
set_option maxHeartbeats 2000000 in
theorem square_no1 (a b : Op4) (j : Bool) (hl : t.length ≤ 200000000000000) 
    (HX : Hid (∀ W, Calls Try.prog 14 #[.agg #[.int .i64 xk, .int .i64 xp, .int .i64 xb, .int .i64 xs], .int .i64 (t.length : Int)] W fun e w' => e = .returned (.tuple #[.agg #[.int .i64 a.k, .int .i64 a.p, .int .i64 a.b, .int .i64 a.s], .bool false]) ∧ Below W.heap.size W w'))
    (HY : Hid (∀ W, Calls Try.prog 14 #[.agg #[.int .i64 yk, .int .i64 yp, .int .i64 yb, .int .i64 ys], .int .i64 (t.length : Int)] W fun e w' => e = .returned (.tuple #[.agg #[.int .i64 b.k, .int .i64 b.p, .int .i64 b.b, .int .i64 b.s], .bool j]) ∧ Below W.heap.size W w')) (w : World) :
    Calls Try.prog 4 #[dstr t, .agg #[.int .i64 xk, .int .i64 xp, .int .i64 xb, .int .i64 xs], .agg #[.int .i64 yk, .int .i64 yp, .int .i64 yb, .int .i64 ys]] w fun e w' => e = .returned (.bool true) ∧ Below w.heap.size w w' := by
  have HA : Hid (∀ W, Calls Try.prog 13 #[] W fun e w' => e = .returned (.bool true) ∧ Below W.heap.size W w') := fun W => awake_any W
  have hsz := dstr_size t
  go_enter Try.func4, Try.ntmps4
  go_wp2_with fail
  refine (HA.out _).mono ?_
  rintro e w1 ⟨rfl, hb1⟩
  have HB1 : Hid (Below w.heap.size w w1) := bel_trans (bel_alloc (bel_alloc (Below.refl _ _) _) _) hb1
  obtain ⟨hc1, hf1⟩ := bcell hb1
  have x0 := hc1 w.heap.size 0 (by simp; omega)
  have x1 := hc1 w.heap.size 1 (by simp; omega)
  have x2 := hc1 w.heap.size 2 (by simp; omega)
  have x3 := hc1 w.heap.size 3 (by simp; omega)
  have y0 := hc1 (w.heap.size + 1) 0 (by simp)
  have y1 := hc1 (w.heap.size + 1) 1 (by simp)
  have y2 := hc1 (w.heap.size + 1) 2 (by simp)
  have y3 := hc1 (w.heap.size + 1) 3 (by simp)
  simp [go_sem] at x0 x1 x2 x3 y0 y1 y2 y3
  have l1 : w.heap.size + 1 < w1.heap.size := by have := hb1.size; simp at this; omega
  have l0 : w.heap.size < w1.heap.size := by omega
  clear hc1 hf1 hb1 HA
  go_wp2_with fail
  refine (HX.out _).mono ?_
  rintro e w2 ⟨rfl, hb2⟩
  have HB2 : Hid (Below w.heap.size w w2) := bel_trans HB1.out hb2
  obtain ⟨hc2, hf2⟩ := bcell hb2
  have z0 := (hc2 (w.heap.size + 1) 0 l1).trans y0
  have z1 := (hc2 (w.heap.size + 1) 1 l1).trans y1
  have z2 := (hc2 (w.heap.size + 1) 2 l1).trans y2
  have z3 := (hc2 (w.heap.size + 1) 3 l1).trans y3
  have l2 : w.heap.size + 1 < w2.heap.size := by have := hb2.size; omega
  clear hc2 hf2 hb2 HX x0 x1 x2 x3 y0 y1 y2 y3
  go_wp2_with fail
  refine (HY.out _).mono ?_
  rintro e w3 ⟨rfl, hb3⟩
  have HB3 : Hid (Below w.heap.size w w3) := bel_trans (bel_trans HB2.out (by repeat (first | exact Below.refl _ _ | apply Below.drew | refine bel_alloc ?_ _))) hb3
  clear hb3 HY
  go_wp2
  go_ret
  exact ⟨rfl, by refine bel_trans HB3.out ?_; repeat (first | exact Below.refl _ _ | apply Below.drew | refine bel_alloc ?_ _)⟩
set_option maxHeartbeats 2000000 in
theorem square_no2 (a b : Op4) (hl : t.length ≤ 200000000000000) 
    (HX : Hid (∀ W, Calls Try.prog 14 #[.agg #[.int .i64 xk, .int .i64 xp, .int .i64 xb, .int .i64 xs], .int .i64 (t.length : Int)] W fun e w' => e = .returned (.tuple #[.agg #[.int .i64 a.k, .int .i64 a.p, .int .i64 a.b, .int .i64 a.s], .bool true]) ∧ Below W.heap.size W w'))
    (HY : Hid (∀ W, Calls Try.prog 14 #[.agg #[.int .i64 yk, .int .i64 yp, .int .i64 yb, .int .i64 ys], .int .i64 (t.length : Int)] W fun e w' => e = .returned (.tuple #[.agg #[.int .i64 b.k, .int .i64 b.p, .int .i64 b.b, .int .i64 b.s], .bool false]) ∧ Below W.heap.size W w')) (w : World) :
    Calls Try.prog 4 #[dstr t, .agg #[.int .i64 xk, .int .i64 xp, .int .i64 xb, .int .i64 xs], .agg #[.int .i64 yk, .int .i64 yp, .int .i64 yb, .int .i64 ys]] w fun e w' => e = .returned (.bool true) ∧ Below w.heap.size w w' := by
  have HA : Hid (∀ W, Calls Try.prog 13 #[] W fun e w' => e = .returned (.bool true) ∧ Below W.heap.size W w') := fun W => awake_any W
  have hsz := dstr_size t
  go_enter Try.func4, Try.ntmps4
  go_wp2_with fail
  refine (HA.out _).mono ?_
  rintro e w1 ⟨rfl, hb1⟩
  have HB1 : Hid (Below w.heap.size w w1) := bel_trans (bel_alloc (bel_alloc (Below.refl _ _) _) _) hb1
  obtain ⟨hc1, hf1⟩ := bcell hb1
  have x0 := hc1 w.heap.size 0 (by simp; omega)
  have x1 := hc1 w.heap.size 1 (by simp; omega)
  have x2 := hc1 w.heap.size 2 (by simp; omega)
  have x3 := hc1 w.heap.size 3 (by simp; omega)
  have y0 := hc1 (w.heap.size + 1) 0 (by simp)
  have y1 := hc1 (w.heap.size + 1) 1 (by simp)
  have y2 := hc1 (w.heap.size + 1) 2 (by simp)
  have y3 := hc1 (w.heap.size + 1) 3 (by simp)
  simp [go_sem] at x0 x1 x2 x3 y0 y1 y2 y3
  have l1 : w.heap.size + 1 < w1.heap.size := by have := hb1.size; simp at this; omega
  have l0 : w.heap.size < w1.heap.size := by omega
  clear hc1 hf1 hb1 HA
  go_wp2_with fail
  refine (HX.out _).mono ?_
  rintro e w2 ⟨rfl, hb2⟩
  have HB2 : Hid (Below w.heap.size w w2) := bel_trans HB1.out hb2
  obtain ⟨hc2, hf2⟩ := bcell hb2
  have z0 := (hc2 (w.heap.size + 1) 0 l1).trans y0
  have z1 := (hc2 (w.heap.size + 1) 1 l1).trans y1
  have z2 := (hc2 (w.heap.size + 1) 2 l1).trans y2
  have z3 := (hc2 (w.heap.size + 1) 3 l1).trans y3
  have l2 : w.heap.size + 1 < w2.heap.size := by have := hb2.size; omega
  clear hc2 hf2 hb2 HX x0 x1 x2 x3 y0 y1 y2 y3
  go_wp2_with fail
  refine (HY.out _).mono ?_
  rintro e w3 ⟨rfl, hb3⟩
  have HB3 : Hid (Below w.heap.size w w3) := bel_trans (bel_trans HB2.out (by repeat (first | exact Below.refl _ _ | apply Below.drew | refine bel_alloc ?_ _))) hb3
  clear hb3 HY
  go_wp2
  go_ret
  exact ⟨rfl, by refine bel_trans HB3.out ?_; repeat (first | exact Below.refl _ _ | apply Below.drew | refine bel_alloc ?_ _)⟩
set_option maxHeartbeats 2000000 in
theorem square_no3 (a b : Op4) (hl : t.length ≤ 200000000000000) (h5 : (500 : Int) < (t.length : Int))
    (HX : Hid (∀ W, Calls Try.prog 14 #[.agg #[.int .i64 xk, .int .i64 xp, .int .i64 xb, .int .i64 xs], .int .i64 (t.length : Int)] W fun e w' => e = .returned (.tuple #[.agg #[.int .i64 a.k, .int .i64 a.p, .int .i64 a.b, .int .i64 a.s], .bool true]) ∧ Below W.heap.size W w'))
    (HY : Hid (∀ W, Calls Try.prog 14 #[.agg #[.int .i64 yk, .int .i64 yp, .int .i64 yb, .int .i64 ys], .int .i64 (t.length : Int)] W fun e w' => e = .returned (.tuple #[.agg #[.int .i64 b.k, .int .i64 b.p, .int .i64 b.b, .int .i64 b.s], .bool true]) ∧ Below W.heap.size W w')) (w : World) :
    Calls Try.prog 4 #[dstr t, .agg #[.int .i64 xk, .int .i64 xp, .int .i64 xb, .int .i64 xs], .agg #[.int .i64 yk, .int .i64 yp, .int .i64 yb, .int .i64 ys]] w fun e w' => e = .returned (.bool true) ∧ Below w.heap.size w w' := by
  have HA : Hid (∀ W, Calls Try.prog 13 #[] W fun e w' => e = .returned (.bool true) ∧ Below W.heap.size W w') := fun W => awake_any W
  have hsz := dstr_size t
  go_enter Try.func4, Try.ntmps4
  go_wp2_with fail
  refine (HA.out _).mono ?_
  rintro e w1 ⟨rfl, hb1⟩
  have HB1 : Hid (Below w.heap.size w w1) := bel_trans (bel_alloc (bel_alloc (Below.refl _ _) _) _) hb1
  obtain ⟨hc1, hf1⟩ := bcell hb1
  have x0 := hc1 w.heap.size 0 (by simp; omega)
  have x1 := hc1 w.heap.size 1 (by simp; omega)
  have x2 := hc1 w.heap.size 2 (by simp; omega)
  have x3 := hc1 w.heap.size 3 (by simp; omega)
  have y0 := hc1 (w.heap.size + 1) 0 (by simp)
  have y1 := hc1 (w.heap.size + 1) 1 (by simp)
  have y2 := hc1 (w.heap.size + 1) 2 (by simp)
  have y3 := hc1 (w.heap.size + 1) 3 (by simp)
  simp [go_sem] at x0 x1 x2 x3 y0 y1 y2 y3
  have l1 : w.heap.size + 1 < w1.heap.size := by have := hb1.size; simp at this; omega
  have l0 : w.heap.size < w1.heap.size := by omega
  clear hc1 hf1 hb1 HA
  go_wp2_with fail
  refine (HX.out _).mono ?_
  rintro e w2 ⟨rfl, hb2⟩
  have HB2 : Hid (Below w.heap.size w w2) := bel_trans HB1.out hb2
  obtain ⟨hc2, hf2⟩ := bcell hb2
  have z0 := (hc2 (w.heap.size + 1) 0 l1).trans y0
  have z1 := (hc2 (w.heap.size + 1) 1 l1).trans y1
  have z2 := (hc2 (w.heap.size + 1) 2 l1).trans y2
  have z3 := (hc2 (w.heap.size + 1) 3 l1).trans y3
  have l2 : w.heap.size + 1 < w2.heap.size := by have := hb2.size; omega
  clear hc2 hf2 hb2 HX x0 x1 x2 x3 y0 y1 y2 y3
  go_wp2_with fail
  refine (HY.out _).mono ?_
  rintro e w3 ⟨rfl, hb3⟩
  have HB3 : Hid (Below w.heap.size w w3) := bel_trans (bel_trans HB2.out (by repeat (first | exact Below.refl _ _ | apply Below.drew | refine bel_alloc ?_ _))) hb3
  clear hb3 HY
  go_wp2
  go_ret
  exact ⟨rfl, by refine bel_trans HB3.out ?_; repeat (first | exact Below.refl _ _ | apply Below.drew | refine bel_alloc ?_ _)⟩
end
end Go.Proofs.Ytabahmcbhapbiaa
namespace Go.Proofs.Ytabahmcbhapbiaa
open Go.RowKit Go.Lib
set_option linter.unusedVariables false
section
variable (t : List UInt8) (xk xp xb xs yk yp yb ys : Int)
set_option maxHeartbeats 2000000 in
theorem square_same (a b c d : Op4) (s1 s2 u : List UInt8) (hl : t.length ≤ 200000000000000) (h5 : (t.length : Int) ≤ 500)
    (HX : Hid (∀ W, Calls Try.prog 14 #[.agg #[.int .i64 xk, .int .i64 xp, .int .i64 xb, .int .i64 xs], .int .i64 (t.length : Int)] W fun e w' => e = .returned (.tuple #[.agg #[.int .i64 a.k, .int .i64 a.p, .int .i64 a.b, .int .i64 a.s], .bool true]) ∧ Below W.heap.size W w'))
    (HY : Hid (∀ W, Calls Try.prog 14 #[.agg #[.int .i64 yk, .int .i64 yp, .int .i64 yb, .int .i64 ys], .int .i64 (t.length : Int)] W fun e w' => e = .returned (.tuple #[.agg #[.int .i64 b.k, .int .i64 b.p, .int .i64 b.b, .int .i64 b.s], .bool true]) ∧ Below W.heap.size W w'))
    (HT : Hid (∀ W, Calls Try.prog 15 #[.agg #[.int .i64 a.k, .int .i64 a.p, .int .i64 a.b, .int .i64 a.s], .agg #[.int .i64 b.k, .int .i64 b.p, .int .i64 b.b, .int .i64 b.s]] W fun e w' => e = .returned (.tuple #[.agg #[.int .i64 c.k, .int .i64 c.p, .int .i64 c.b, .int .i64 c.s], .agg #[.int .i64 d.k, .int .i64 d.p, .int .i64 d.b, .int .i64 d.s], .int .i64 0]) ∧ Below W.heap.size W w'))
    (HP1 : Hid (∀ W, Calls Try.prog 16 #[dstr t, .agg #[.int .i64 a.k, .int .i64 a.p, .int .i64 a.b, .int .i64 a.s]] W fun e w' => e = .returned (.tuple #[dstr s1, .int .i64 0]) ∧ Below W.heap.size W w'))
    (HP2 : Hid (∀ W, Calls Try.prog 16 #[dstr t, .agg #[.int .i64 b.k, .int .i64 b.p, .int .i64 b.b, .int .i64 b.s]] W fun e w' => e = .returned (.tuple #[dstr s2, .int .i64 0]) ∧ Below W.heap.size W w'))
    (HP3 : Hid (∀ W, Calls Try.prog 16 #[dstr s1, .agg #[.int .i64 d.k, .int .i64 d.p, .int .i64 d.b, .int .i64 d.s]] W fun e w' => e = .returned (.tuple #[dstr u, .int .i64 0]) ∧ Below W.heap.size W w'))
    (HP4 : Hid (∀ W, Calls Try.prog 16 #[dstr s2, .agg #[.int .i64 c.k, .int .i64 c.p, .int .i64 c.b, .int .i64 c.s]] W fun e w' => e = .returned (.tuple #[dstr u, .int .i64 0]) ∧ Below W.heap.size W w'))
    (hse : (a.s == b.s) = true) (w : World) :
    Calls Try.prog 4 #[dstr t, .agg #[.int .i64 xk, .int .i64 xp, .int .i64 xb, .int .i64 xs], .agg #[.int .i64 yk, .int .i64 yp, .int .i64 yb, .int .i64 ys]] w fun e w' => e = .returned (.bool true) ∧ Below w.heap.size w w' := by
  have HA : Hid (∀ W, Calls Try.prog 13 #[] W fun e w' => e = .returned (.bool true) ∧ Below W.heap.size W w') := fun W => awake_any W
  have hsz := dstr_size t
  go_enter Try.func4, Try.ntmps4
  go_wp2_with fail
  refine (HA.out _).mono ?_
  rintro e w1 ⟨rfl, hb1⟩
  have HB1 : Hid (Below w.heap.size w w1) := bel_trans (bel_alloc (bel_alloc (Below.refl _ _) _) _) hb1
  obtain ⟨hc1, hf1⟩ := bcell hb1
  have x0 := hc1 w.heap.size 0 (by simp; omega)
  have x1 := hc1 w.heap.size 1 (by simp; omega)
  have x2 := hc1 w.heap.size 2 (by simp; omega)
  have x3 := hc1 w.heap.size 3 (by simp; omega)
  have y0 := hc1 (w.heap.size + 1) 0 (by simp)
  have y1 := hc1 (w.heap.size + 1) 1 (by simp)
  have y2 := hc1 (w.heap.size + 1) 2 (by simp)
  have y3 := hc1 (w.heap.size + 1) 3 (by simp)
  simp [go_sem] at x0 x1 x2 x3 y0 y1 y2 y3
  have l1 : w.heap.size + 1 < w1.heap.size := by have := hb1.size; simp at this; omega
  have l0 : w.heap.size < w1.heap.size := by omega
  clear hc1 hf1 hb1 HA
  go_wp2_with fail
  refine (HX.out _).mono ?_
  rintro e w2 ⟨rfl, hb2⟩
  have HB2 : Hid (Below w.heap.size w w2) := bel_trans HB1.out hb2
  obtain ⟨hc2, hf2⟩ := bcell hb2
  have z0 := (hc2 (w.heap.size + 1) 0 l1).trans y0
  have z1 := (hc2 (w.heap.size + 1) 1 l1).trans y1
  have z2 := (hc2 (w.heap.size + 1) 2 l1).trans y2
  have z3 := (hc2 (w.heap.size + 1) 3 l1).trans y3
  have l2 : w.heap.size + 1 < w2.heap.size := by have := hb2.size; omega
  clear hc2 hf2 hb2 HX x0 x1 x2 x3 y0 y1 y2 y3
  go_wp2_with fail
  refine (HY.out _).mono ?_
  rintro e w3 ⟨rfl, hb3⟩
  have HB3 : Hid (Below w.heap.size w w3) := bel_trans (bel_trans HB2.out (by repeat (first | exact Below.refl _ _ | apply Below.drew | refine bel_alloc ?_ _))) hb3
  have la3 : w2.heap.size < w3.heap.size := by have := hb3.size; simp at this; omega
  obtain ⟨hc3, hf3⟩ := bcell hb3
  have A0_3 := hc3 w2.heap.size 0 (by simp)
  have A1_3 := hc3 w2.heap.size 1 (by simp)
  have A2_3 := hc3 w2.heap.size 2 (by simp)
  have A3_3 := hc3 w2.heap.size 3 (by simp)
  simp [go_sem] at A0_3 A1_3 A2_3 A3_3
  clear hb3 hc3 hf3 HY z0 z1 z2 z3
  have la31 : w2.heap.size < w3.heap.size + 1 := by omega
  go_wp2_with fail
  refine (HT.out _).mono ?_
  rintro e w4 ⟨rfl, hb4⟩
  have HB4 : Hid (Below w.heap.size w w4) := bel_trans (bel_trans HB3.out (by repeat (first | exact Below.refl _ _ | apply Below.drew | refine bel_alloc ?_ _))) hb4
  have lb4 : w3.heap.size < w4.heap.size := by have := hb4.size; simp at this; omega
  have la4 : w2.heap.size < w4.heap.size := by omega
  obtain ⟨hc4, hf4⟩ := bcell hb4
  have A0_4 := hc4 w2.heap.size 0 (by simp; omega)
  have B0_4 := hc4 w3.heap.size 0 (by simp)
  have A1_4 := hc4 w2.heap.size 1 (by simp; omega)
  have B1_4 := hc4 w3.heap.size 1 (by simp)
  have A2_4 := hc4 w2.heap.size 2 (by simp; omega)
  have B2_4 := hc4 w3.heap.size 2 (by simp)
  have A3_4 := hc4 w2.heap.size 3 (by simp; omega)
  have B3_4 := hc4 w3.heap.size 3 (by simp)
  simp [go_sem, la3, A0_3, A1_3, A2_3, A3_3] at A0_4 A1_4 A2_4 A3_4 B0_4 B1_4 B2_4 B3_4
  clear hb4 hc4 hf4 HT A0_3 A1_3 A2_3 A3_3
  have la41 : w2.heap.size < w4.heap.size + 1 := by omega
  have la42 : w2.heap.size < w4.heap.size + 1 + 1 := by omega
  have lb41 : w3.heap.size < w4.heap.size + 1 := by omega
  have lb42 : w3.heap.size < w4.heap.size + 1 + 1 := by omega
  go_wp2_with fail
  refine (HP1.out _).mono ?_
  rintro e w5 ⟨rfl, hb5⟩
  have HB5 : Hid (Below w.heap.size w w5) := bel_trans (bel_trans HB4.out (by repeat (first | exact Below.refl _ _ | apply Below.drew | refine bel_alloc ?_ _))) hb5
  have lz5 : w4.heap.size + 1 < w5.heap.size := by have := hb5.size; simp at this; omega
  have ly5 : w4.heap.size < w5.heap.size := by omega
  have la5 : w2.heap.size < w5.heap.size := by omega
  have lb5 : w3.heap.size < w5.heap.size := by omega
  obtain ⟨hc5, hf5⟩ := bcell hb5
  have A0_5 := hc5 w2.heap.size 0 (by simp; omega)
  have B0_5 := hc5 w3.heap.size 0 (by simp; omega)
  have C0_5 := hc5 w4.heap.size 0 (by simp; omega)
  have D0_5 := hc5 (w4.heap.size + 1) 0 (by simp)
  have A1_5 := hc5 w2.heap.size 1 (by simp; omega)
  have B1_5 := hc5 w3.heap.size 1 (by simp; omega)
  have C1_5 := hc5 w4.heap.size 1 (by simp; omega)
  have D1_5 := hc5 (w4.heap.size + 1) 1 (by simp)
  have A2_5 := hc5 w2.heap.size 2 (by simp; omega)
  have B2_5 := hc5 w3.heap.size 2 (by simp; omega)
  have C2_5 := hc5 w4.heap.size 2 (by simp; omega)
  have D2_5 := hc5 (w4.heap.size + 1) 2 (by simp)
  have A3_5 := hc5 w2.heap.size 3 (by simp; omega)
  have B3_5 := hc5 w3.heap.size 3 (by simp; omega)
  have C3_5 := hc5 w4.heap.size 3 (by simp; omega)
  have D3_5 := hc5 (w4.heap.size + 1) 3 (by simp)
  simp [go_sem, la4, lb4, la41, lb41, A0_4, A1_4, A2_4, A3_4, B0_4, B1_4, B2_4, B3_4] at A0_5 A1_5 A2_5 A3_5 B0_5 B1_5 B2_5 B3_5 C0_5 C1_5 C2_5 C3_5 D0_5 D1_5 D2_5 D3_5
  clear A0_4 A1_4 A2_4 A3_4 B0_4 B1_4 B2_4 B3_4
  clear hb5 hc5 hf5 HP1
  go_wp2_with fail
  refine (HP2.out _).mono ?_
  rintro e w6 ⟨rfl, hb6⟩
  have HB6 : Hid (Below w.heap.size w w6) := bel_trans (bel_trans HB5.out (by repeat (first | exact Below.refl _ _ | apply Below.drew | refine bel_alloc ?_ _))) hb6
  have lz6 : w4.heap.size + 1 < w6.heap.size := by have := hb6.size; omega
  have ly6 : w4.heap.size < w6.heap.size := by omega
  have la6 : w2.heap.size < w6.heap.size := by omega
  have lb6 : w3.heap.size < w6.heap.size := by omega
  obtain ⟨hc6, hf6⟩ := bcell hb6
  have A0_6 := (hc6 w2.heap.size 0 la5).trans A0_5
  have B0_6 := (hc6 w3.heap.size 0 lb5).trans B0_5
  have C0_6 := (hc6 w4.heap.size 0 ly5).trans C0_5
  have D0_6 := (hc6 (w4.heap.size + 1) 0 lz5).trans D0_5
  have A1_6 := (hc6 w2.heap.size 1 la5).trans A1_5
  have B1_6 := (hc6 w3.heap.size 1 lb5).trans B1_5
  have C1_6 := (hc6 w4.heap.size 1 ly5).trans C1_5
  have D1_6 := (hc6 (w4.heap.size + 1) 1 lz5).trans D1_5
  have A2_6 := (hc6 w2.heap.size 2 la5).trans A2_5
  have B2_6 := (hc6 w3.heap.size 2 lb5).trans B2_5
  have C2_6 := (hc6 w4.heap.size 2 ly5).trans C2_5
  have D2_6 := (hc6 (w4.heap.size + 1) 2 lz5).trans D2_5
  have A3_6 := (hc6 w2.heap.size 3 la5).trans A3_5
  have B3_6 := (hc6 w3.heap.size 3 lb5).trans B3_5
  have C3_6 := (hc6 w4.heap.size 3 ly5).trans C3_5
  have D3_6 := (hc6 (w4.heap.size + 1) 3 lz5).trans D3_5
  clear A0_5 A1_5 A2_5 A3_5 B0_5 B1_5 B2_5 B3_5 C0_5 C1_5 C2_5 C3_5 D0_5 D1_5 D2_5 D3_5
  clear hb6 hc6 hf6 HP2
  go_wp2_with fail
  refine (HP3.out _).mono ?_
  rintro e w7 ⟨rfl, hb7⟩
  have HB7 : Hid (Below w.heap.size w w7) := bel_trans (bel_trans HB6.out (by repeat (first | exact Below.refl _ _ | apply Below.drew | refine bel_alloc ?_ _))) hb7
  have lz7 : w4.heap.size + 1 < w7.heap.size := by have := hb7.size; omega
  have ly7 : w4.heap.size < w7.heap.size := by omega
  have la7 : w2.heap.size < w7.heap.size := by omega
  have lb7 : w3.heap.size < w7.heap.size := by omega
  obtain ⟨hc7, hf7⟩ := bcell hb7
  have A0_7 := (hc7 w2.heap.size 0 la6).trans A0_6
  have B0_7 := (hc7 w3.heap.size 0 lb6).trans B0_6
  have C0_7 := (hc7 w4.heap.size 0 ly6).trans C0_6
  have D0_7 := (hc7 (w4.heap.size + 1) 0 lz6).trans D0_6
  have A1_7 := (hc7 w2.heap.size 1 la6).trans A1_6
  have B1_7 := (hc7 w3.heap.size 1 lb6).trans B1_6
  have C1_7 := (hc7 w4.heap.size 1 ly6).trans C1_6
  have D1_7 := (hc7 (w4.heap.size + 1) 1 lz6).trans D1_6
  have A2_7 := (hc7 w2.heap.size 2 la6).trans A2_6
  have B2_7 := (hc7 w3.heap.size 2 lb6).trans B2_6
  have C2_7 := (hc7 w4.heap.size 2 ly6).trans C2_6
  have D2_7 := (hc7 (w4.heap.size + 1) 2 lz6).trans D2_6
  have A3_7 := (hc7 w2.heap.size 3 la6).trans A3_6
  have B3_7 := (hc7 w3.heap.size 3 lb6).trans B3_6
  have C3_7 := (hc7 w4.heap.size 3 ly6).trans C3_6
  have D3_7 := (hc7 (w4.heap.size + 1) 3 lz6).trans D3_6
  clear A0_6 A1_6 A2_6 A3_6 B0_6 B1_6 B2_6 B3_6 C0_6 C1_6 C2_6 C3_6 D0_6 D1_6 D2_6 D3_6
  clear hb7 hc7 hf7 HP3
  go_wp2_with fail
  refine (HP4.out _).mono ?_
  rintro e w8 ⟨rfl, hb8⟩
  have HB8 : Hid (Below w.heap.size w w8) := bel_trans (bel_trans HB7.out (by repeat (first | exact Below.refl _ _ | apply Below.drew | refine bel_alloc ?_ _))) hb8
  have lz8 : w4.heap.size + 1 < w8.heap.size := by have := hb8.size; omega
  have ly8 : w4.heap.size < w8.heap.size := by omega
  have la8 : w2.heap.size < w8.heap.size := by omega
  have lb8 : w3.heap.size < w8.heap.size := by omega
  obtain ⟨hc8, hf8⟩ := bcell hb8
  have A0_8 := (hc8 w2.heap.size 0 la7).trans A0_7
  have B0_8 := (hc8 w3.heap.size 0 lb7).trans B0_7
  have C0_8 := (hc8 w4.heap.size 0 ly7).trans C0_7
  have D0_8 := (hc8 (w4.heap.size + 1) 0 lz7).trans D0_7
  have A1_8 := (hc8 w2.heap.size 1 la7).trans A1_7
  have B1_8 := (hc8 w3.heap.size 1 lb7).trans B1_7
  have C1_8 := (hc8 w4.heap.size 1 ly7).trans C1_7
  have D1_8 := (hc8 (w4.heap.size + 1) 1 lz7).trans D1_7
  have A2_8 := (hc8 w2.heap.size 2 la7).trans A2_7
  have B2_8 := (hc8 w3.heap.size 2 lb7).trans B2_7
  have C2_8 := (hc8 w4.heap.size 2 ly7).trans C2_7
  have D2_8 := (hc8 (w4.heap.size + 1) 2 lz7).trans D2_7
  have A3_8 := (hc8 w2.heap.size 3 la7).trans A3_7
  have B3_8 := (hc8 w3.heap.size 3 lb7).trans B3_7
  have C3_8 := (hc8 w4.heap.size 3 ly7).trans C3_7
  have D3_8 := (hc8 (w4.heap.size + 1) 3 lz7).trans D3_7
  clear A0_7 A1_7 A2_7 A3_7 B0_7 B1_7 B2_7 B3_7 C0_7 C1_7 C2_7 C3_7 D0_7 D1_7 D2_7 D3_7
  clear hb8 hc8 hf8 HP4
  go_wp2
  go_ret
  exact ⟨rfl, by refine bel_trans HB8.out ?_; repeat (first | exact Below.refl _ _ | apply Below.drew | refine bel_alloc ?_ _)⟩
set_option maxHeartbeats 2000000 in
theorem square_other (a b c d : Op4) (s1 s2 u : List UInt8) (hl : t.length ≤ 200000000000000) (h5 : (t.length : Int) ≤ 500)
    (HX : Hid (∀ W, Calls Try.prog 14 #[.agg #[.int .i64 xk, .int .i64 xp, .int .i64 xb, .int .i64 xs], .int .i64 (t.length : Int)] W fun e w' => e = .returned (.tuple #[.agg #[.int .i64 a.k, .int .i64 a.p, .int .i64 a.b, .int .i64 a.s], .bool true]) ∧ Below W.heap.size W w'))
    (HY : Hid (∀ W, Calls Try.prog 14 #[.agg #[.int .i64 yk, .int .i64 yp, .int .i64 yb, .int .i64 ys], .int .i64 (t.length : Int)] W fun e w' => e = .returned (.tuple #[.agg #[.int .i64 b.k, .int .i64 b.p, .int .i64 b.b, .int .i64 b.s], .bool true]) ∧ Below W.heap.size W w'))
    (HT : Hid (∀ W, Calls Try.prog 15 #[.agg #[.int .i64 a.k, .int .i64 a.p, .int .i64 a.b, .int .i64 a.s], .agg #[.int .i64 b.k, .int .i64 b.p, .int .i64 b.b, .int .i64 b.s]] W fun e w' => e = .returned (.tuple #[.agg #[.int .i64 c.k, .int .i64 c.p, .int .i64 c.b, .int .i64 c.s], .agg #[.int .i64 d.k, .int .i64 d.p, .int .i64 d.b, .int .i64 d.s], .int .i64 0]) ∧ Below W.heap.size W w'))
    (HP1 : Hid (∀ W, Calls Try.prog 16 #[dstr t, .agg #[.int .i64 a.k, .int .i64 a.p, .int .i64 a.b, .int .i64 a.s]] W fun e w' => e = .returned (.tuple #[dstr s1, .int .i64 0]) ∧ Below W.heap.size W w'))
    (HP2 : Hid (∀ W, Calls Try.prog 16 #[dstr t, .agg #[.int .i64 b.k, .int .i64 b.p, .int .i64 b.b, .int .i64 b.s]] W fun e w' => e = .returned (.tuple #[dstr s2, .int .i64 0]) ∧ Below W.heap.size W w'))
    (HP3 : Hid (∀ W, Calls Try.prog 16 #[dstr s1, .agg #[.int .i64 d.k, .int .i64 d.p, .int .i64 d.b, .int .i64 d.s]] W fun e w' => e = .returned (.tuple #[dstr u, .int .i64 0]) ∧ Below W.heap.size W w'))
    (HP4 : Hid (∀ W, Calls Try.prog 16 #[dstr s2, .agg #[.int .i64 c.k, .int .i64 c.p, .int .i64 c.b, .int .i64 c.s]] W fun e w' => e = .returned (.tuple #[dstr u, .int .i64 0]) ∧ Below W.heap.size W w'))
    (hne : (a.s == b.s) = false)
    (HT2 : Hid (∀ W, Calls Try.prog 15 #[.agg #[.int .i64 b.k, .int .i64 b.p, .int .i64 b.b, .int .i64 b.s], .agg #[.int .i64 a.k, .int .i64 a.p, .int .i64 a.b, .int .i64 a.s]] W fun e w' => e = .returned (.tuple #[.agg #[.int .i64 d.k, .int .i64 d.p, .int .i64 d.b, .int .i64 d.s], .agg #[.int .i64 c.k, .int .i64 c.p, .int .i64 c.b, .int .i64 c.s], .int .i64 0]) ∧ Below W.heap.size W w')) (w : World) :
    Calls Try.prog 4 #[dstr t, .agg #[.int .i64 xk, .int .i64 xp, .int .i64 xb, .int .i64 xs], .agg #[.int .i64 yk, .int .i64 yp, .int .i64 yb, .int .i64 ys]] w fun e w' => e = .returned (.bool true) ∧ Below w.heap.size w w' := by
  have HA : Hid (∀ W, Calls Try.prog 13 #[] W fun e w' => e = .returned (.bool true) ∧ Below W.heap.size W w') := fun W => awake_any W
  have hsz := dstr_size t
  go_enter Try.func4, Try.ntmps4
  go_wp2_with fail
  refine (HA.out _).mono ?_
  rintro e w1 ⟨rfl, hb1⟩
  have HB1 : Hid (Below w.heap.size w w1) := bel_trans (bel_alloc (bel_alloc (Below.refl _ _) _) _) hb1
  obtain ⟨hc1, hf1⟩ := bcell hb1
  have x0 := hc1 w.heap.size 0 (by simp; omega)
  have x1 := hc1 w.heap.size 1 (by simp; omega)
  have x2 := hc1 w.heap.size 2 (by simp; omega)
  have x3 := hc1 w.heap.size 3 (by simp; omega)
  have y0 := hc1 (w.heap.size + 1) 0 (by simp)
  have y1 := hc1 (w.heap.size + 1) 1 (by simp)
  have y2 := hc1 (w.heap.size + 1) 2 (by simp)
  have y3 := hc1 (w.heap.size + 1) 3 (by simp)
  simp [go_sem] at x0 x1 x2 x3 y0 y1 y2 y3
  have l1 : w.heap.size + 1 < w1.heap.size := by have := hb1.size; simp at this; omega
  have l0 : w.heap.size < w1.heap.size := by omega
  clear hc1 hf1 hb1 HA
  go_wp2_with fail
  refine (HX.out _).mono ?_
  rintro e w2 ⟨rfl, hb2⟩
  have HB2 : Hid (Below w.heap.size w w2) := bel_trans HB1.out hb2
  obtain ⟨hc2, hf2⟩ := bcell hb2
  have z0 := (hc2 (w.heap.size + 1) 0 l1).trans y0
  have z1 := (hc2 (w.heap.size + 1) 1 l1).trans y1
  have z2 := (hc2 (w.heap.size + 1) 2 l1).trans y2
  have z3 := (hc2 (w.heap.size + 1) 3 l1).trans y3
  have l2 : w.heap.size + 1 < w2.heap.size := by have := hb2.size; omega
  clear hc2 hf2 hb2 HX x0 x1 x2 x3 y0 y1 y2 y3
  go_wp2_with fail
  refine (HY.out _).mono ?_
  rintro e w3 ⟨rfl, hb3⟩
  have HB3 : Hid (Below w.heap.size w w3) := bel_trans (bel_trans HB2.out (by repeat (first | exact Below.refl _ _ | apply Below.drew | refine bel_alloc ?_ _))) hb3
  have la3 : w2.heap.size < w3.heap.size := by have := hb3.size; simp at this; omega
  obtain ⟨hc3, hf3⟩ := bcell hb3
  have A0_3 := hc3 w2.heap.size 0 (by simp)
  have A1_3 := hc3 w2.heap.size 1 (by simp)
  have A2_3 := hc3 w2.heap.size 2 (by simp)
  have A3_3 := hc3 w2.heap.size 3 (by simp)
  simp [go_sem] at A0_3 A1_3 A2_3 A3_3
  clear hb3 hc3 hf3 HY z0 z1 z2 z3
  have la31 : w2.heap.size < w3.heap.size + 1 := by omega
  go_wp2_with fail
  refine (HT.out _).mono ?_
  rintro e w4 ⟨rfl, hb4⟩
  have HB4 : Hid (Below w.heap.size w w4) := bel_trans (bel_trans HB3.out (by repeat (first | exact Below.refl _ _ | apply Below.drew | refine bel_alloc ?_ _))) hb4
  have lb4 : w3.heap.size < w4.heap.size := by have := hb4.size; simp at this; omega
  have la4 : w2.heap.size < w4.heap.size := by omega
  obtain ⟨hc4, hf4⟩ := bcell hb4
  have A0_4 := hc4 w2.heap.size 0 (by simp; omega)
  have B0_4 := hc4 w3.heap.size 0 (by simp)
  have A1_4 := hc4 w2.heap.size 1 (by simp; omega)
  have B1_4 := hc4 w3.heap.size 1 (by simp)
  have A2_4 := hc4 w2.heap.size 2 (by simp; omega)
  have B2_4 := hc4 w3.heap.size 2 (by simp)
  have A3_4 := hc4 w2.heap.size 3 (by simp; omega)
  have B3_4 := hc4 w3.heap.size 3 (by simp)
  simp [go_sem, la3, A0_3, A1_3, A2_3, A3_3] at A0_4 A1_4 A2_4 A3_4 B0_4 B1_4 B2_4 B3_4
  clear hb4 hc4 hf4 HT A0_3 A1_3 A2_3 A3_3
  have la41 : w2.heap.size < w4.heap.size + 1 := by omega
  have la42 : w2.heap.size < w4.heap.size + 1 + 1 := by omega
  have lb41 : w3.heap.size < w4.heap.size + 1 := by omega
  have lb42 : w3.heap.size < w4.heap.size + 1 + 1 := by omega
  go_wp2_with fail
  refine (HP1.out _).mono ?_
  rintro e w5 ⟨rfl, hb5⟩
  have HB5 : Hid (Below w.heap.size w w5) := bel_trans (bel_trans HB4.out (by repeat (first | exact Below.refl _ _ | apply Below.drew | refine bel_alloc ?_ _))) hb5
  have lz5 : w4.heap.size + 1 < w5.heap.size := by have := hb5.size; simp at this; omega
  have ly5 : w4.heap.size < w5.heap.size := by omega
  have la5 : w2.heap.size < w5.heap.size := by omega
  have lb5 : w3.heap.size < w5.heap.size := by omega
  obtain ⟨hc5, hf5⟩ := bcell hb5
  have A0_5 := hc5 w2.heap.size 0 (by simp; omega)
  have B0_5 := hc5 w3.heap.size 0 (by simp; omega)
  have C0_5 := hc5 w4.heap.size 0 (by simp; omega)
  have D0_5 := hc5 (w4.heap.size + 1) 0 (by simp)
  have A1_5 := hc5 w2.heap.size 1 (by simp; omega)
  have B1_5 := hc5 w3.heap.size 1 (by simp; omega)
  have C1_5 := hc5 w4.heap.size 1 (by simp; omega)
  have D1_5 := hc5 (w4.heap.size + 1) 1 (by simp)
  have A2_5 := hc5 w2.heap.size 2 (by simp; omega)
  have B2_5 := hc5 w3.heap.size 2 (by simp; omega)
  have C2_5 := hc5 w4.heap.size 2 (by simp; omega)
  have D2_5 := hc5 (w4.heap.size + 1) 2 (by simp)
  have A3_5 := hc5 w2.heap.size 3 (by simp; omega)
  have B3_5 := hc5 w3.heap.size 3 (by simp; omega)
  have C3_5 := hc5 w4.heap.size 3 (by simp; omega)
  have D3_5 := hc5 (w4.heap.size + 1) 3 (by simp)
  simp [go_sem, la4, lb4, la41, lb41, A0_4, A1_4, A2_4, A3_4, B0_4, B1_4, B2_4, B3_4] at A0_5 A1_5 A2_5 A3_5 B0_5 B1_5 B2_5 B3_5 C0_5 C1_5 C2_5 C3_5 D0_5 D1_5 D2_5 D3_5
  clear A0_4 A1_4 A2_4 A3_4 B0_4 B1_4 B2_4 B3_4
  clear hb5 hc5 hf5 HP1
  go_wp2_with fail
  refine (HP2.out _).mono ?_
  rintro e w6 ⟨rfl, hb6⟩
  have HB6 : Hid (Below w.heap.size w w6) := bel_trans (bel_trans HB5.out (by repeat (first | exact Below.refl _ _ | apply Below.drew | refine bel_alloc ?_ _))) hb6
  have lz6 : w4.heap.size + 1 < w6.heap.size := by have := hb6.size; omega
  have ly6 : w4.heap.size < w6.heap.size := by omega
  have la6 : w2.heap.size < w6.heap.size := by omega
  have lb6 : w3.heap.size < w6.heap.size := by omega
  obtain ⟨hc6, hf6⟩ := bcell hb6
  have A0_6 := (hc6 w2.heap.size 0 la5).trans A0_5
  have B0_6 := (hc6 w3.heap.size 0 lb5).trans B0_5
  have C0_6 := (hc6 w4.heap.size 0 ly5).trans C0_5
  have D0_6 := (hc6 (w4.heap.size + 1) 0 lz5).trans D0_5
  have A1_6 := (hc6 w2.heap.size 1 la5).trans A1_5
  have B1_6 := (hc6 w3.heap.size 1 lb5).trans B1_5
  have C1_6 := (hc6 w4.heap.size 1 ly5).trans C1_5
  have D1_6 := (hc6 (w4.heap.size + 1) 1 lz5).trans D1_5
  have A2_6 := (hc6 w2.heap.size 2 la5).trans A2_5
  have B2_6 := (hc6 w3.heap.size 2 lb5).trans B2_5
  have C2_6 := (hc6 w4.heap.size 2 ly5).trans C2_5
  have D2_6 := (hc6 (w4.heap.size + 1) 2 lz5).trans D2_5
  have A3_6 := (hc6 w2.heap.size 3 la5).trans A3_5
  have B3_6 := (hc6 w3.heap.size 3 lb5).trans B3_5
  have C3_6 := (hc6 w4.heap.size 3 ly5).trans C3_5
  have D3_6 := (hc6 (w4.heap.size + 1) 3 lz5).trans D3_5
  clear A0_5 A1_5 A2_5 A3_5 B0_5 B1_5 B2_5 B3_5 C0_5 C1_5 C2_5 C3_5 D0_5 D1_5 D2_5 D3_5
  clear hb6 hc6 hf6 HP2
  go_wp2_with fail
  refine (HP3.out _).mono ?_
  rintro e w7 ⟨rfl, hb7⟩
  have HB7 : Hid (Below w.heap.size w w7) := bel_trans (bel_trans HB6.out (by repeat (first | exact Below.refl _ _ | apply Below.drew | refine bel_alloc ?_ _))) hb7
  have lz7 : w4.heap.size + 1 < w7.heap.size := by have := hb7.size; omega
  have ly7 : w4.heap.size < w7.heap.size := by omega
  have la7 : w2.heap.size < w7.heap.size := by omega
  have lb7 : w3.heap.size < w7.heap.size := by omega
  obtain ⟨hc7, hf7⟩ := bcell hb7
  have A0_7 := (hc7 w2.heap.size 0 la6).trans A0_6
  have B0_7 := (hc7 w3.heap.size 0 lb6).trans B0_6
  have C0_7 := (hc7 w4.heap.size 0 ly6).trans C0_6
  have D0_7 := (hc7 (w4.heap.size + 1) 0 lz6).trans D0_6
  have A1_7 := (hc7 w2.heap.size 1 la6).trans A1_6
  have B1_7 := (hc7 w3.heap.size 1 lb6).trans B1_6
  have C1_7 := (hc7 w4.heap.size 1 ly6).trans C1_6
  have D1_7 := (hc7 (w4.heap.size + 1) 1 lz6).trans D1_6
  have A2_7 := (hc7 w2.heap.size 2 la6).trans A2_6
  have B2_7 := (hc7 w3.heap.size 2 lb6).trans B2_6
  have C2_7 := (hc7 w4.heap.size 2 ly6).trans C2_6
  have D2_7 := (hc7 (w4.heap.size + 1) 2 lz6).trans D2_6
  have A3_7 := (hc7 w2.heap.size 3 la6).trans A3_6
  have B3_7 := (hc7 w3.heap.size 3 lb6).trans B3_6
  have C3_7 := (hc7 w4.heap.size 3 ly6).trans C3_6
  have D3_7 := (hc7 (w4.heap.size + 1) 3 lz6).trans D3_6
  clear A0_6 A1_6 A2_6 A3_6 B0_6 B1_6 B2_6 B3_6 C0_6 C1_6 C2_6 C3_6 D0_6 D1_6 D2_6 D3_6
  clear hb7 hc7 hf7 HP3
  go_wp2_with fail
  refine (HP4.out _).mono ?_
  rintro e w8 ⟨rfl, hb8⟩
  have HB8 : Hid (Below w.heap.size w w8) := bel_trans (bel_trans HB7.out (by repeat (first | exact Below.refl _ _ | apply Below.drew | refine bel_alloc ?_ _))) hb8
  have lz8 : w4.heap.size + 1 < w8.heap.size := by have := hb8.size; omega
  have ly8 : w4.heap.size < w8.heap.size := by omega
  have la8 : w2.heap.size < w8.heap.size := by omega
  have lb8 : w3.heap.size < w8.heap.size := by omega
  obtain ⟨hc8, hf8⟩ := bcell hb8
  have A0_8 := (hc8 w2.heap.size 0 la7).trans A0_7
  have B0_8 := (hc8 w3.heap.size 0 lb7).trans B0_7
  have C0_8 := (hc8 w4.heap.size 0 ly7).trans C0_7
  have D0_8 := (hc8 (w4.heap.size + 1) 0 lz7).trans D0_7
  have A1_8 := (hc8 w2.heap.size 1 la7).trans A1_7
  have B1_8 := (hc8 w3.heap.size 1 lb7).trans B1_7
  have C1_8 := (hc8 w4.heap.size 1 ly7).trans C1_7
  have D1_8 := (hc8 (w4.heap.size + 1) 1 lz7).trans D1_7
  have A2_8 := (hc8 w2.heap.size 2 la7).trans A2_7
  have B2_8 := (hc8 w3.heap.size 2 lb7).trans B2_7
  have C2_8 := (hc8 w4.heap.size 2 ly7).trans C2_7
  have D2_8 := (hc8 (w4.heap.size + 1) 2 lz7).trans D2_7
  have A3_8 := (hc8 w2.heap.size 3 la7).trans A3_7
  have B3_8 := (hc8 w3.heap.size 3 lb7).trans B3_7
  have C3_8 := (hc8 w4.heap.size 3 ly7).trans C3_7
  have D3_8 := (hc8 (w4.heap.size + 1) 3 lz7).trans D3_7
  clear A0_7 A1_7 A2_7 A3_7 B0_7 B1_7 B2_7 B3_7 C0_7 C1_7 C2_7 C3_7 D0_7 D1_7 D2_7 D3_7
  clear hb8 hc8 hf8 HP4
  go_wp2_with fail
  refine (HT2.out _).mono ?_
  rintro e w9 ⟨rfl, hb9⟩
  have HB9 : Hid (Below w.heap.size w w9) := bel_trans (bel_trans HB8.out (by repeat (first | exact Below.refl _ _ | apply Below.drew | refine bel_alloc ?_ _))) hb9
  have lz9 : w4.heap.size + 1 < w9.heap.size := by have := hb9.size; omega
  have ly9 : w4.heap.size < w9.heap.size := by omega
  have lz91 : w4.heap.size + 1 < w9.heap.size + 1 := by omega
  have ly91 : w4.heap.size < w9.heap.size + 1 := by omega
  obtain ⟨hc9, hf9⟩ := bcell hb9
  have C0_9 := (hc9 w4.heap.size 0 ly8).trans C0_8
  have D0_9 := (hc9 (w4.heap.size + 1) 0 lz8).trans D0_8
  have C1_9 := (hc9 w4.heap.size 1 ly8).trans C1_8
  have D1_9 := (hc9 (w4.heap.size + 1) 1 lz8).trans D1_8
  have C2_9 := (hc9 w4.heap.size 2 ly8).trans C2_8
  have D2_9 := (hc9 (w4.heap.size + 1) 2 lz8).trans D2_8
  have C3_9 := (hc9 w4.heap.size 3 ly8).trans C3_8
  have D3_9 := (hc9 (w4.heap.size + 1) 3 lz8).trans D3_8
  clear hb9 hc9 hf9 HT2 A0_8 A1_8 A2_8 A3_8 B0_8 B1_8 B2_8 B3_8 C0_8 C1_8 C2_8 C3_8 D0_8 D1_8 D2_8 D3_8
  go_wp2
  all_goals go_ret
  all_goals exact ⟨rfl, by refine bel_trans HB9.out ?_; repeat (first | exact Below.refl _ _ | apply Below.drew | refine bel_alloc ?_ _)⟩
end
end Go.Proofs.Ytabahmcbhapbiaa
namespace Go.Proofs.Ytabahmcbhapbiaa
open Go.ChangeShapes Go.WideShapes Go.ChangeAt Go.RowKit
set_option linter.unusedVariables false
/-- Square, whatever it is given. -/
theorem square_any (t : List UInt8) (xk xp xb xs yk yp yb ys : Int) (hx : I64 xk ∧ I64 xp ∧ I64 xb ∧ I64 xs) (hy : I64 yk ∧ I64 yp ∧ I64 yb ∧ I64 ys) (ht : t.length ≤ 200000000000000) (w : World) :
    Calls Try.prog 4 #[dstr t, .agg #[.int .i64 xk, .int .i64 xp, .int .i64 xb, .int .i64 xs], .agg #[.int .i64 yk, .int .i64 yp, .int .i64 yb, .int .i64 ys]] w fun e w' => e = .returned (.bool true) ∧ Below w.heap.size w w' := by
  have HX := hidP (fun W => keepOp_any xk xp xb xs hx.1 hx.2.1 hx.2.2.1 hx.2.2.2 t.length ht W)
  have HY := hidP (fun W => keepOp_any yk yp yb ys hy.1 hy.2.1 hy.2.2.1 hy.2.2.2 t.length ht W)
  cases ei : keepIs xk t.length
  · rw [ei] at HX
    exact square_no1 t xk xp xb xs yk yp yb ys _ _ _ ht HX HY w
  · rw [ei] at HX
    cases ej : keepIs yk t.length
    · rw [ej] at HY
      exact square_no2 t xk xp xb xs yk yp yb ys _ _ ht HX HY w
    · rw [ej] at HY
      by_cases h5 : 500 < t.length
      · exact square_no3 t xk xp xb xs yk yp yb ys _ _ ht (by omega) HX HY w
      · have h1000 : t.length ≤ 1000 := by omega
        obtain ⟨ra, fa, pa, sa, _⟩ := keepOp_ok xk xp xb xs t.length h1000 ei
        obtain ⟨rb, fb, pb, sb, _⟩ := keepOp_ok yk yp yb ys t.length h1000 ej
        generalize keepOp xk xp xb xs t.length = a at *
        generalize keepOp yk yp yb ys t.length = b at *
        obtain ⟨s1, h1⟩ := fits_app ra fa
        obtain ⟨s2, h2⟩ := fits_app rb fb
        have wa := right_wf ra
        have wb := right_wf rb
        obtain ⟨wc, wd⟩ := turn_wf wa wb
        obtain ⟨pc, pd⟩ := turn_p wa wb
        obtain ⟨u, u1, u2⟩ := square wa wb h1 h2
        have l1 := app_grow h1
        have l2 := app_grow h2
        have g1 := grow_le [a]
        have g2 := grow_le [b]
        simp only [List.length_cons, List.length_nil] at g1 g2
        have HT := hidP (fun W => turn_right ra rb W)
        have HP1 := hidP (fun W => apply_app ra h1 (by omega) W)
        have HP2 := hidP (fun W => apply_app rb h2 (by omega) W)
        have HP3 := hidP (fun W => apply_app (wf_right wd (by omega)) u1 (by omega) W)
        have HP4 := hidP (fun W => apply_app (wf_right wc (by omega)) u2 (by omega) W)
        by_cases es : a.s = b.s
        · exact square_same t xk xp xb xs yk yp yb ys a b _ _ s1 s2 u ht (by omega) HX HY HT HP1 HP2 HP3 HP4 (by simp [es]) w
        · have HT2 : Hid _ := hidP (fun W => turn_right rb ra W)
          rw [turn_swap wa wb (Or.inl es)] at HT2
          exact square_other t xk xp xb xs yk yp yb ys a b _ _ s1 s2 u ht (by omega) HX HY HT HP1 HP2 HP3 HP4 (by simp [es]) HT2 w
theorem str_list (s : ByteArray) : Value.string s = dstr s.data.toList := by
  show Value.string s = Value.string ⟨s.data.toList.toArray⟩
  simp
set_option maxRecDepth 100000 in
theorem square_lifted (os : Os) (started : os.Started) (H : Type) (enc : TypeId × Value → H) :
    ReturnsInHanded {} Try.checked os 4 .any (Rows.squareSpec.pre6 enc Try.prog Try.f4 Rows.squareRow.domain false) (Rows.squareSpec.post enc Try.prog Try.f4 false true false false) := by
  refine returnsInHanded_of_change_sized (C := Try.checked) kown started (by kernel_rfl) Try.func4
    (ChangeSpec.witness6 (enc := enc) (C := Try.checked) false ⟨#[], #[.string ⟨#[]⟩, .agg #[.int .i64 0, .int .i64 0, .int .i64 0, .int .i64 0], .agg #[.int .i64 0, .int .i64 0, .int .i64 0, .int .i64 0]], []⟩ 8 (by kernel_rfl) (by kernel_rfl) (by kernel_rfl) (by kernel_rfl)) ?_
  intro W base args ds gs before hval0 hW hcnd hsz0 _
  have hval : ∀ (j : Nat) t v, Try.f4.params[j]? = some t → args[j]? = some v → Value.okWide Try.prog W .any base t v := hval0
  have hW' := hW
  obtain ⟨p, q, hA0, hV, rfl, hfz, hnd⟩ := hW
  have hA : DataW.TrodAll enc Try.prog W 0 (fun _ => true) true Try.f4.params.toList args.toList ds p := hA0
  have hsz : (DataW.weightsEach Try.prog (Try.f4.params.toList ++ Rows.squareSpec.plain.varTypes Try.prog) (ds ++ gs)).all (· ≤ reachBytes) = true := hsz0
  rw [Try.params4] at hA hval hsz
  obtain ⟨v0, vs0, d0, ds0, p0, q0, hargs, rfl, rfl, h0, r0⟩ := trodAll_cons hA
  obtain ⟨v1, vs1, d1, ds1, p1, q1, e1, rfl, rfl, h1, r1⟩ := trodAll_cons r0
  obtain ⟨v2, vs2, d2, ds2, p2, q2, e2, rfl, rfl, h2, r2⟩ := trodAll_cons r1
  obtain ⟨rfl, rfl, rfl⟩ := trodAll_nil r2
  subst e2
  subst e1
  obtain rfl : args = #[v0, v1, v2] := by cases args; simp_all
  obtain ⟨rfl, rfl⟩ := trodVars_none hV
  have k0 := h0
  have k1 := h1
  have k2 := h2
  have lt0 : ∀ x ∈ p0, x.block < W.heap.size := by obtain ⟨m, hm⟩ := k0; exact DataW.trod_lt m _ _ _ hm
  have lt1 : ∀ x ∈ p1, x.block < W.heap.size := by obtain ⟨m, hm⟩ := k1; exact DataW.trod_lt m _ _ _ hm
  have lt2 : ∀ x ∈ p2, x.block < W.heap.size := by obtain ⟨m, hm⟩ := k2; exact DataW.trod_lt m _ _ _ hm
  obtain ⟨s, rfl⟩ := okWide_string Try.underlying9 (hval 0 9 v0 rfl rfl)
  obtain ⟨c1, rfl, z1⟩ := okWide_struct Try.underlying26 (hval 1 26 v1 rfl rfl)
  obtain ⟨c2, rfl, z2⟩ := okWide_struct Try.underlying26 (hval 2 26 v2 rfl rfl)
  have hwt : ∀ m ∈ d0.weights Try.prog 9, m ≤ reachBytes := fun m hm => by
    have := List.all_eq_true.1 hsz _ (DataW.weights_mem_each (j := 0) (t := 9) (d := d0) rfl rfl m hm)
    simpa using this
  have hlen : s.data.toList.length ≤ 200000000000000 := by
    obtain ⟨fuel, hf⟩ := h0
    obtain ⟨t, ht, hd, _⟩ := DataW.trod_string Try.underlying9 (by simpa [Value.cells] using hf)
    have e : d0 = .lit (.string t.data.toList) := congrArg Prod.fst hd
    have hle := hwt t.data.toList.length (by rw [e]; simp [DataW.weights])
    simp at ht
    subst ht
    rw [kreach] at hle
    omega
  obtain ⟨xk, xp, xb, xs, hx, hx2⟩ : ∃ k p b s : Int, c1.toList = [.int .i64 k, .int .i64 p, .int .i64 b, .int .i64 s] ∧ I64 k ∧ I64 p ∧ I64 b ∧ I64 s := by
    obtain ⟨fuel, hf⟩ := h1
    exact kopen_op4 (by simpa [Value.cells] using hf)
  obtain ⟨yk, yp, yb, ys, hy, hy2⟩ : ∃ k p b s : Int, c2.toList = [.int .i64 k, .int .i64 p, .int .i64 b, .int .i64 s] ∧ I64 k ∧ I64 p ∧ I64 b ∧ I64 s := by
    obtain ⟨fuel, hf⟩ := h2
    exact kopen_op4 (by simpa [Value.cells] using hf)
  obtain rfl : c1 = #[.int .i64 xk, .int .i64 xp, .int .i64 xb, .int .i64 xs] := by cases c1; simp at hx; rw [hx]
  obtain rfl : c2 = #[.int .i64 yk, .int .i64 yp, .int .i64 yb, .int .i64 ys] := by cases c2; simp at hy; rw [hy]
  clear hA0 hval0 hsz0
  have hsq := square_any s.data.toList xk xp xb xs yk yp yb ys hx2 hy2 hlen W
  rw [← str_list] at hsq
  refine hsq.mono fun e W' ⟨he, bel⟩ => ?_
  subst he
  exact ⟨_, rfl, _, _, _, [], _, [], hW', trodAll_mk1 (shut_bool Try.underlying4 _), (trodAll_cons_mk (Below.trod klaid (by kernel_rfl) (of_decide_eq_true (by kernel_rfl)) k0 bel lt0) (trodAll_cons_mk (Below.trod klaid (by kernel_rfl) (of_decide_eq_true (by kernel_rfl)) k1 bel lt1) (trodAll_cons_mk (Below.trod klaid (by kernel_rfl) (of_decide_eq_true (by kernel_rfl)) k2 bel lt2) trodAll_mk0))), rfl, bel.frame _, fun h => by cases h⟩
theorem square_holds : Rows.SquareSaid :=
  OpenClaim.holds_of_wide 4 Try.f4 rfl rfl rfl rfl rfl rfl rfl ⟨rfl, rfl, rfl, rfl, rfl⟩ rfl rfl rfl rfl rfl (by kernel_rfl) Try.func4 (by kernel_rfl)
    (of_decide_eq_true (by kernel_rfl)) (by unfold Func.isWrapper; first | (rw [if_pos (by decide +kernel)]; kernel_rfl) | (rw [if_neg (by decide +kernel)]; exact ⟨rfl, rfl⟩))
    (fun os started H enc _ => square_lifted os started H enc)
end Go.Proofs.Ytabahmcbhapbiaa
