import Derived.Test.YtomeaiffpeibhaaTurnOp
namespace Go.Proofs.Ytomeaiffpeibhaa
open Go.RowKit
set_option linter.unusedVariables false

/-- A function of the program, as a value. -/
abbrev fv (n : Nat) : Value := .func (.func n) #[] #[]

set_option maxHeartbeats 400000 in
theorem allRules_any (w : World) :
    Calls Try.prog 57 #[] w fun e w' => e = .returned (.agg #[fv 79, fv 79, fv 79, fv 79, fv 80, fv 81, fv 79, fv 82, fv 83]) ∧ ∃ c1, w' = w.alloc (.cells c1 111) := by
  go_enter Try.func57, Try.ntmps57
  go_wp2
  simp [bodyPost, results, Try.results57, go_sem]
  exact ⟨_, rfl⟩

set_option maxHeartbeats 400000 in
theorem pick_0x (b : Int)  (w : World) :
    Calls Try.prog 58 #[.agg #[fv 79, fv 79, fv 79, fv 79, fv 80, fv 81, fv 79, fv 82, fv 83], .int .i64 0, .int .i64 b] w fun e w' => e = .returned (fv 79) ∧ ∃ c1, w' = w.alloc (.cells c1 111) := by
  go_enter Try.func58, Try.ntmps58
  go_wp2
  all_goals go_ret
  all_goals exact ⟨rfl, _, rfl⟩

set_option maxHeartbeats 400000 in
theorem pick_10   (w : World) :
    Calls Try.prog 58 #[.agg #[fv 79, fv 79, fv 79, fv 79, fv 80, fv 81, fv 79, fv 82, fv 83], .int .i64 1, .int .i64 0] w fun e w' => e = .returned (fv 79) ∧ ∃ c1, w' = w.alloc (.cells c1 111) := by
  go_enter Try.func58, Try.ntmps58
  go_wp2
  all_goals go_ret
  all_goals exact ⟨rfl, _, rfl⟩

set_option maxHeartbeats 400000 in
theorem pick_20   (w : World) :
    Calls Try.prog 58 #[.agg #[fv 79, fv 79, fv 79, fv 79, fv 80, fv 81, fv 79, fv 82, fv 83], .int .i64 2, .int .i64 0] w fun e w' => e = .returned (fv 79) ∧ ∃ c1, w' = w.alloc (.cells c1 111) := by
  go_enter Try.func58, Try.ntmps58
  go_wp2
  all_goals go_ret
  all_goals exact ⟨rfl, _, rfl⟩

set_option maxHeartbeats 400000 in
theorem pick_11   (w : World) :
    Calls Try.prog 58 #[.agg #[fv 79, fv 79, fv 79, fv 79, fv 80, fv 81, fv 79, fv 82, fv 83], .int .i64 1, .int .i64 1] w fun e w' => e = .returned (fv 80) ∧ ∃ c1, w' = w.alloc (.cells c1 111) := by
  go_enter Try.func58, Try.ntmps58
  go_wp2
  all_goals go_ret
  all_goals exact ⟨rfl, _, rfl⟩

set_option maxHeartbeats 400000 in
theorem pick_12   (w : World) :
    Calls Try.prog 58 #[.agg #[fv 79, fv 79, fv 79, fv 79, fv 80, fv 81, fv 79, fv 82, fv 83], .int .i64 1, .int .i64 2] w fun e w' => e = .returned (fv 81) ∧ ∃ c1, w' = w.alloc (.cells c1 111) := by
  go_enter Try.func58, Try.ntmps58
  go_wp2
  all_goals go_ret
  all_goals exact ⟨rfl, _, rfl⟩

set_option maxHeartbeats 400000 in
theorem pick_21   (w : World) :
    Calls Try.prog 58 #[.agg #[fv 79, fv 79, fv 79, fv 79, fv 80, fv 81, fv 79, fv 82, fv 83], .int .i64 2, .int .i64 1] w fun e w' => e = .returned (fv 82) ∧ ∃ c1, w' = w.alloc (.cells c1 111) := by
  go_enter Try.func58, Try.ntmps58
  go_wp2
  all_goals go_ret
  all_goals exact ⟨rfl, _, rfl⟩

set_option maxHeartbeats 400000 in
theorem pick_22   (w : World) :
    Calls Try.prog 58 #[.agg #[fv 79, fv 79, fv 79, fv 79, fv 80, fv 81, fv 79, fv 82, fv 83], .int .i64 2, .int .i64 2] w fun e w' => e = .returned (fv 83) ∧ ∃ c1, w' = w.alloc (.cells c1 111) := by
  go_enter Try.func58, Try.ntmps58
  go_wp2
  all_goals go_ret
  all_goals exact ⟨rfl, _, rfl⟩

end Go.Proofs.Ytomeaiffpeibhaa
