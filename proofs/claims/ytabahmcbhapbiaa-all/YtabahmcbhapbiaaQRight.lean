import Derived.Test.YtabahmcbhapbiaaRows
import Derived.Test.YtabahmcbhapbiaaQBase
namespace Go.Proofs.Ytabahmcbhapbiaa
open Go.RowKit

set_option maxHeartbeats 400000 in
theorem within_any (n m : Int) (w : World) :
    Calls Try.prog 62 #[.int .i64 n, .int .i64 m] w fun e w' => e = .returned (.bool (decide (0 ≤ n ∧ n ≤ m))) ∧ w' = w := by
  go_enter Try.func62, Try.ntmps62
  go_wp2
  all_goals go_ret
  all_goals go_light
  all_goals refine ⟨ret_bool ?_, rfl⟩
  all_goals (rw [Bool.eq_iff_iff]; simp; try omega)

set_option maxHeartbeats 800000 in
theorem opRight_any (k a b s : Int) (w : World) :
    Calls Try.prog 31 #[.agg #[.int .i64 k, .int .i64 a, .int .i64 b, .int .i64 s]] w fun e w' => e = .returned (.bool (rightB k a b s)) ∧ Below w.heap.size w w' := by
  go_enter Try.func31, Try.ntmps31
  go_wp2
  all_goals go_ret
  all_goals go_light
  all_goals refine ⟨ret_bool ?_, (Below.refl _ _).alloc (Nat.le_refl _) _⟩
  all_goals rw [Bool.eq_iff_iff, rightB_iff]
  all_goals simp at *
  all_goals omega

set_option maxHeartbeats 1600000 in
theorem refRight_any (k a b s : Int) (w : World) :
    Calls Try.prog 74 #[.agg #[.int .i64 k, .int .i64 a, .int .i64 b, .int .i64 s]] w fun e w' => e = .returned (.int .i64 (eno (rightB k a b s))) ∧ Below w.heap.size w w' := by
  go_enter Try.func74, Try.ntmps74
  go_wp2
  all_goals go_ret
  all_goals go_light
  all_goals refine ⟨ret_int (eno_eq ?_), (Below.refl _ _).alloc (Nat.le_refl _) _⟩
  all_goals rw [rightB_iff]
  all_goals simp at *
  all_goals omega

set_option maxHeartbeats 800000 in
theorem mootRight_any (k a b s : Int) (w : World) :
    Calls Try.prog 73 #[.agg #[.int .i64 k, .int .i64 a, .int .i64 b, .int .i64 s]] w fun e w' => e = .returned (.int .i64 (eno (rightB k a b s))) ∧ Below w.heap.size w w' := by
  go_enter Try.func73, Try.ntmps73
  go_wp2_with (go_at_call 31; refine (opRight_any _ _ _ _ _).mono ?_; rintro e w1 ⟨rfl, hb⟩)
  all_goals go_ret
  all_goals go_light
  all_goals refine ⟨ret_int (eno_eq ?_), bel_trans (bel_alloc (Below.refl _ _) _) hb⟩
  all_goals simp_all

set_option maxHeartbeats 800000 in
theorem opFits_any (n k a b s : Int) (w : World) :
    Calls Try.prog 33 #[.int .i64 n, .agg #[.int .i64 k, .int .i64 a, .int .i64 b, .int .i64 s]] w fun e w' => e = .returned (.bool (fitsB n k a)) ∧ Below w.heap.size w w' := by
  go_enter Try.func33, Try.ntmps33
  go_wp2
  all_goals go_ret
  all_goals go_light
  all_goals refine ⟨ret_bool ?_, (Below.refl _ _).alloc (Nat.le_refl _) _⟩
  all_goals rw [Bool.eq_iff_iff, fitsB_iff]
  all_goals simp at *
  all_goals omega

set_option maxHeartbeats 800000 in
theorem refFits_any (t : ByteArray) (k a b s : Int) (hk : k = 0 ∨ k = 1 ∨ k = 2) (w : World) :
    Calls Try.prog 79 #[.string t, .agg #[.int .i64 k, .int .i64 a, .int .i64 b, .int .i64 s]] w fun e w' => e = .returned (.bool (fitsB t.size k a)) ∧ Below w.heap.size w w' := by
  go_enter Try.func79, Try.ntmps79
  go_wp2
  all_goals go_ret
  all_goals go_light
  all_goals refine ⟨ret_bool ?_, (Below.refl _ _).alloc (Nat.le_refl _) _⟩
  all_goals rw [Bool.eq_iff_iff, fitsB_iff]
  all_goals simp at *
  all_goals omega
end Go.Proofs.Ytabahmcbhapbiaa
