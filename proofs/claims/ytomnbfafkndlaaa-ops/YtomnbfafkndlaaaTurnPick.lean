import Derived.Test.YtomnbfafkndlaaaTurnOp
namespace Go.Proofs.Ytomnbfafkndlaaa
open Go.RowKit
set_option linter.unusedVariables false

/-- A function of the program, as a value. -/
abbrev fv (n : Nat) : Value := .func (.func n) #[] #[]

set_option maxHeartbeats 400000 in
theorem allRules_any (w : World) :
    Calls Try.prog 47 #[] w fun e w' => e = .returned (.agg #[fv 53, fv 53, fv 53, fv 53, fv 54, fv 55, fv 53, fv 56, fv 57]) ∧ ∃ c1, w' = w.alloc (.cells c1 99) := by
  go_enter Try.func47, Try.ntmps47
  go_wp2
  simp [bodyPost, results, Try.results47, go_sem]
  exact ⟨_, rfl⟩

set_option maxHeartbeats 400000 in
theorem pick_0x (b : Int)  (w : World) :
    Calls Try.prog 48 #[.agg #[fv 53, fv 53, fv 53, fv 53, fv 54, fv 55, fv 53, fv 56, fv 57], .int .i64 0, .int .i64 b] w fun e w' => e = .returned (fv 53) ∧ ∃ c1, w' = w.alloc (.cells c1 99) := by
  go_enter Try.func48, Try.ntmps48
  go_wp2
  all_goals go_ret
  all_goals exact ⟨rfl, _, rfl⟩

set_option maxHeartbeats 400000 in
theorem pick_10   (w : World) :
    Calls Try.prog 48 #[.agg #[fv 53, fv 53, fv 53, fv 53, fv 54, fv 55, fv 53, fv 56, fv 57], .int .i64 1, .int .i64 0] w fun e w' => e = .returned (fv 53) ∧ ∃ c1, w' = w.alloc (.cells c1 99) := by
  go_enter Try.func48, Try.ntmps48
  go_wp2
  all_goals go_ret
  all_goals exact ⟨rfl, _, rfl⟩

set_option maxHeartbeats 400000 in
theorem pick_20   (w : World) :
    Calls Try.prog 48 #[.agg #[fv 53, fv 53, fv 53, fv 53, fv 54, fv 55, fv 53, fv 56, fv 57], .int .i64 2, .int .i64 0] w fun e w' => e = .returned (fv 53) ∧ ∃ c1, w' = w.alloc (.cells c1 99) := by
  go_enter Try.func48, Try.ntmps48
  go_wp2
  all_goals go_ret
  all_goals exact ⟨rfl, _, rfl⟩

set_option maxHeartbeats 400000 in
theorem pick_11   (w : World) :
    Calls Try.prog 48 #[.agg #[fv 53, fv 53, fv 53, fv 53, fv 54, fv 55, fv 53, fv 56, fv 57], .int .i64 1, .int .i64 1] w fun e w' => e = .returned (fv 54) ∧ ∃ c1, w' = w.alloc (.cells c1 99) := by
  go_enter Try.func48, Try.ntmps48
  go_wp2
  all_goals go_ret
  all_goals exact ⟨rfl, _, rfl⟩

set_option maxHeartbeats 400000 in
theorem pick_12   (w : World) :
    Calls Try.prog 48 #[.agg #[fv 53, fv 53, fv 53, fv 53, fv 54, fv 55, fv 53, fv 56, fv 57], .int .i64 1, .int .i64 2] w fun e w' => e = .returned (fv 55) ∧ ∃ c1, w' = w.alloc (.cells c1 99) := by
  go_enter Try.func48, Try.ntmps48
  go_wp2
  all_goals go_ret
  all_goals exact ⟨rfl, _, rfl⟩

set_option maxHeartbeats 400000 in
theorem pick_21   (w : World) :
    Calls Try.prog 48 #[.agg #[fv 53, fv 53, fv 53, fv 53, fv 54, fv 55, fv 53, fv 56, fv 57], .int .i64 2, .int .i64 1] w fun e w' => e = .returned (fv 56) ∧ ∃ c1, w' = w.alloc (.cells c1 99) := by
  go_enter Try.func48, Try.ntmps48
  go_wp2
  all_goals go_ret
  all_goals exact ⟨rfl, _, rfl⟩

set_option maxHeartbeats 400000 in
theorem pick_22   (w : World) :
    Calls Try.prog 48 #[.agg #[fv 53, fv 53, fv 53, fv 53, fv 54, fv 55, fv 53, fv 56, fv 57], .int .i64 2, .int .i64 2] w fun e w' => e = .returned (fv 57) ∧ ∃ c1, w' = w.alloc (.cells c1 99) := by
  go_enter Try.func48, Try.ntmps48
  go_wp2
  all_goals go_ret
  all_goals exact ⟨rfl, _, rfl⟩

end Go.Proofs.Ytomnbfafkndlaaa
