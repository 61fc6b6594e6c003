import Derived.Test.YtabahmcbhapbiaaQApply
import Derived.Test.YtabahmcbhapbiaaQTurn
namespace Go.Proofs.Ytabahmcbhapbiaa
open Go.RowKit
set_option linter.unusedVariables false

set_option maxHeartbeats 400000 in
theorem num_any (n : Int) (w : World) : Calls Try.prog 52 #[.int .i64 n] w fun e w' => e = .returned (.int .i64 n) ∧ w' = w := by
  go_enter Try.func52, Try.ntmps52
  go_wp2
  go_ret
  exact ⟨rfl, rfl⟩

set_option maxHeartbeats 1000000 in
theorem plain_right (on aa : Int) (t : ByteArray) (xk xp xb xs yk yp yb ys : Int) (w : World) :
    Calls Try.prog 48 #[.agg #[.int .i64 1, .int .i64 on, .int .i64 aa, .string t, .int .i64 xk, .int .i64 xp, .int .i64 xb, .int .i64 xs, .int .i64 yk, .int .i64 yp, .int .i64 yb, .int .i64 ys]] w fun e w' => e = .returned (.bool true) ∧ Below w.heap.size w w' := by
  obtain ⟨n, h1, h2⟩ : ∃ n : Int, Hid (∀ W, Calls Try.prog 73 #[.agg #[.int .i64 xk, .int .i64 xp, .int .i64 xb, .int .i64 xs]] W fun e w' => e = .returned (.int .i64 n) ∧ Below W.heap.size W w') ∧ Hid (∀ W, Calls Try.prog 74 #[.agg #[.int .i64 xk, .int .i64 xp, .int .i64 xb, .int .i64 xs]] W fun e w' => e = .returned (.int .i64 n) ∧ Below W.heap.size W w') :=
    ⟨_, fun W => mootRight_any xk xp xb xs W, fun W => refRight_any xk xp xb xs W⟩
  go_enter Try.func48, Try.ntmps48
  go_wp2_with fail
  refine (h1.out _).mono ?_
  rintro e w1 ⟨rfl, hb1⟩
  have HB : Hid (Below w.heap.size w w1) := bel_trans (bel_alloc (Below.refl _ _) _) hb1
  obtain ⟨hc1, hf1⟩ := bcell hb1
  clear hb1 hf1
  go_wp2_with fail
  refine (h2.out _).mono ?_
  rintro e w2 ⟨rfl, hb2⟩
  have HB2 : Hid (Below w.heap.size w w2) := bel_trans HB.out hb2
  clear hb2 hc1
  go_wp2_with (go_at_call 52; refine (num_any _ _).mono ?_; rintro e w' ⟨rfl, rfl⟩)
  go_ret
  exact ⟨by simp, HB2.out⟩

set_option maxHeartbeats 1000000 in
theorem plain_apply (on aa : Int) (t : ByteArray) (xk xp xb xs yk yp yb ys : Int) (ht : t.size + 1 ≤ 140737488355328) (w : World) :
    Calls Try.prog 48 #[.agg #[.int .i64 2, .int .i64 on, .int .i64 aa, .string t, .int .i64 xk, .int .i64 xp, .int .i64 xb, .int .i64 xs, .int .i64 yk, .int .i64 yp, .int .i64 yb, .int .i64 ys]] w fun e w' => e = .returned (.bool true) ∧ Below w.heap.size w w' := by
  obtain ⟨r, n, h1, h2⟩ : ∃ (r : ByteArray) (n : Int), Hid (∀ W, Calls Try.prog 16 #[.string t, .agg #[.int .i64 xk, .int .i64 xp, .int .i64 xb, .int .i64 xs]] W fun e w' => e = .returned (.tuple #[.string r, .int .i64 n]) ∧ Below W.heap.size W w') ∧ Hid (∀ W, Calls Try.prog 75 #[.string t, .agg #[.int .i64 xk, .int .i64 xp, .int .i64 xb, .int .i64 xs]] W fun e w' => e = .returned (.tuple #[.string r, .int .i64 n]) ∧ Below W.heap.size W w') :=
    ⟨_, _, fun W => mootApply_any t xk xp xb xs ht W, fun W => refApply_any t xk xp xb xs ht W⟩
  go_enter Try.func48, Try.ntmps48
  go_wp2_with fail
  refine (h1.out _).mono ?_
  rintro e w1 ⟨rfl, hb1⟩
  have HB : Hid (Below w.heap.size w w1) := bel_trans (bel_alloc (Below.refl _ _) _) hb1
  obtain ⟨hc1, hf1⟩ := bcell hb1
  clear hb1 hf1
  go_wp2_with fail
  refine (h2.out _).mono ?_
  rintro e w2 ⟨rfl, hb2⟩
  have HB2 : Hid (Below w.heap.size w w2) := bel_trans HB.out hb2
  clear hb2 hc1
  go_wp2_with (go_at_call 52; refine (num_any _ _).mono ?_; rintro e w' ⟨rfl, rfl⟩)
  all_goals go_ret
  all_goals exact ⟨by simp, HB2.out⟩

set_option maxHeartbeats 1000000 in
theorem plain_turn (kd on aa : Int) (t : ByteArray) (xk xp xb xs yk yp yb ys : Int) (k1 : (kd == 1) = false) (k2 : (kd == 2) = false) (w : World) :
    Calls Try.prog 48 #[.agg #[.int .i64 kd, .int .i64 on, .int .i64 aa, .string t, .int .i64 xk, .int .i64 xp, .int .i64 xb, .int .i64 xs, .int .i64 yk, .int .i64 yp, .int .i64 yb, .int .i64 ys]] w fun e w' => e = .returned (.bool true) ∧ Below w.heap.size w w' := by
  obtain ⟨ak, ap, ab, as1, bk, bp, bb, bs, n, h1, h2⟩ : ∃ ak ap ab as1 bk bp bb bs n : Int, Hid (∀ W, Calls Try.prog 15 #[.agg #[.int .i64 xk, .int .i64 xp, .int .i64 xb, .int .i64 xs], .agg #[.int .i64 yk, .int .i64 yp, .int .i64 yb, .int .i64 ys]] W fun e w' => e = .returned (.tuple #[.agg #[.int .i64 ak, .int .i64 ap, .int .i64 ab, .int .i64 as1], .agg #[.int .i64 bk, .int .i64 bp, .int .i64 bb, .int .i64 bs], .int .i64 n]) ∧ Below W.heap.size W w') ∧ Hid (∀ W, Calls Try.prog 76 #[.agg #[.int .i64 xk, .int .i64 xp, .int .i64 xb, .int .i64 xs], .agg #[.int .i64 yk, .int .i64 yp, .int .i64 yb, .int .i64 ys]] W fun e w' => e = .returned (.tuple #[.agg #[.int .i64 ak, .int .i64 ap, .int .i64 ab, .int .i64 as1], .agg #[.int .i64 bk, .int .i64 bp, .int .i64 bb, .int .i64 bs], .int .i64 n]) ∧ Below W.heap.size W w') :=
    ⟨_, _, _, _, _, _, _, _, _, fun W => mootTurn_any ⟨xk, xp, xb, xs⟩ ⟨yk, yp, yb, ys⟩ W, fun W => refTurn_any ⟨xk, xp, xb, xs⟩ ⟨yk, yp, yb, ys⟩ W⟩
  go_enter Try.func48, Try.ntmps48
  go_wp2_with fail
  refine (h1.out _).mono ?_
  rintro e w1 ⟨rfl, hb1⟩
  have HB : Hid (Below w.heap.size w w1) := bel_trans (bel_alloc (Below.refl _ _) _) hb1
  obtain ⟨hc1, hf1⟩ := bcell hb1
  have hz1 : w.heap.size < w1.heap.size := by have := hb1.size; simp at this; omega
  have hz1b : w.heap.size < w1.heap.size + 1 := by omega
  clear hb1 hf1
  go_wp2_with fail
  refine (h2.out _).mono ?_
  rintro e w2 ⟨rfl, hb2⟩
  have HB2 : Hid (Below w.heap.size w w2) := bel_trans (bel_alloc (bel_alloc HB.out _) _) hb2
  obtain ⟨hc2, hf2⟩ := bcell hb2
  have hz2 : w1.heap.size + 1 < w2.heap.size := by have := hb2.size; simp at this; omega
  have hz2a : w1.heap.size < w2.heap.size := by omega
  have hz2b : w1.heap.size < w2.heap.size + 1 := by omega
  have hz2c : w1.heap.size + 1 < w2.heap.size + 1 := by omega
  clear hb2 hf2
  go_wp2_with (go_at_call 52; refine (num_any _ _).mono ?_; rintro e w' ⟨rfl, rfl⟩)
  all_goals go_ret
  all_goals exact ⟨by simp, by repeat (first | exact HB2.out | apply Below.drew | refine bel_drewN ?_ _ | refine bel_alloc ?_ _)⟩
end Go.Proofs.Ytabahmcbhapbiaa
