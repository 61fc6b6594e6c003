import Derived.Test.YtabahmcbhapbiaaQTurnOp
namespace Go.Proofs.Ytabahmcbhapbiaa
open Go.RowKit
set_option linter.unusedVariables false

/-- A function of the program, as a value. -/
abbrev fv (n : Nat) : Value := .func (.func n) #[] #[]

set_option maxHeartbeats 400000 in
theorem allRules_any (w : World) :
    Calls Try.prog 63 #[] w fun e w' => e = .returned (.agg #[fv 85, fv 85, fv 85, fv 85, fv 86, fv 87, fv 85, fv 88, fv 89]) ∧ ∃ c1, w' = w.alloc (.cells c1 116) := by
  go_enter Try.func63, Try.ntmps63
  go_wp2
  simp [bodyPost, results, Try.results63, go_sem]
  exact ⟨_, rfl⟩

set_option maxHeartbeats 400000 in
theorem pick_0x (b : Int)  (w : World) :
    Calls Try.prog 64 #[.agg #[fv 85, fv 85, fv 85, fv 85, fv 86, fv 87, fv 85, fv 88, fv 89], .int .i64 0, .int .i64 b] w fun e w' => e = .returned (fv 85) ∧ ∃ c1, w' = w.alloc (.cells c1 116) := by
  go_enter Try.func64, Try.ntmps64
  go_wp2
  all_goals go_ret
  all_goals exact ⟨rfl, _, rfl⟩

set_option maxHeartbeats 400000 in
theorem pick_10   (w : World) :
    Calls Try.prog 64 #[.agg #[fv 85, fv 85, fv 85, fv 85, fv 86, fv 87, fv 85, fv 88, fv 89], .int .i64 1, .int .i64 0] w fun e w' => e = .returned (fv 85) ∧ ∃ c1, w' = w.alloc (.cells c1 116) := by
  go_enter Try.func64, Try.ntmps64
  go_wp2
  all_goals go_ret
  all_goals exact ⟨rfl, _, rfl⟩

set_option maxHeartbeats 400000 in
theorem pick_20   (w : World) :
    Calls Try.prog 64 #[.agg #[fv 85, fv 85, fv 85, fv 85, fv 86, fv 87, fv 85, fv 88, fv 89], .int .i64 2, .int .i64 0] w fun e w' => e = .returned (fv 85) ∧ ∃ c1, w' = w.alloc (.cells c1 116) := by
  go_enter Try.func64, Try.ntmps64
  go_wp2
  all_goals go_ret
  all_goals exact ⟨rfl, _, rfl⟩

set_option maxHeartbeats 400000 in
theorem pick_11   (w : World) :
    Calls Try.prog 64 #[.agg #[fv 85, fv 85, fv 85, fv 85, fv 86, fv 87, fv 85, fv 88, fv 89], .int .i64 1, .int .i64 1] w fun e w' => e = .returned (fv 86) ∧ ∃ c1, w' = w.alloc (.cells c1 116) := by
  go_enter Try.func64, Try.ntmps64
  go_wp2
  all_goals go_ret
  all_goals exact ⟨rfl, _, rfl⟩

set_option maxHeartbeats 400000 in
theorem pick_12   (w : World) :
    Calls Try.prog 64 #[.agg #[fv 85, fv 85, fv 85, fv 85, fv 86, fv 87, fv 85, fv 88, fv 89], .int .i64 1, .int .i64 2] w fun e w' => e = .returned (fv 87) ∧ ∃ c1, w' = w.alloc (.cells c1 116) := by
  go_enter Try.func64, Try.ntmps64
  go_wp2
  all_goals go_ret
  all_goals exact ⟨rfl, _, rfl⟩

set_option maxHeartbeats 400000 in
theorem pick_21   (w : World) :
    Calls Try.prog 64 #[.agg #[fv 85, fv 85, fv 85, fv 85, fv 86, fv 87, fv 85, fv 88, fv 89], .int .i64 2, .int .i64 1] w fun e w' => e = .returned (fv 88) ∧ ∃ c1, w' = w.alloc (.cells c1 116) := by
  go_enter Try.func64, Try.ntmps64
  go_wp2
  all_goals go_ret
  all_goals exact ⟨rfl, _, rfl⟩

set_option maxHeartbeats 400000 in
theorem pick_22   (w : World) :
    Calls Try.prog 64 #[.agg #[fv 85, fv 85, fv 85, fv 85, fv 86, fv 87, fv 85, fv 88, fv 89], .int .i64 2, .int .i64 2] w fun e w' => e = .returned (fv 89) ∧ ∃ c1, w' = w.alloc (.cells c1 116) := by
  go_enter Try.func64, Try.ntmps64
  go_wp2
  all_goals go_ret
  all_goals exact ⟨rfl, _, rfl⟩

end Go.Proofs.Ytabahmcbhapbiaa
