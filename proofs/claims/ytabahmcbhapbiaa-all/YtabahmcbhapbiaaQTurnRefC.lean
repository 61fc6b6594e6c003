import Derived.Test.YtabahmcbhapbiaaQTurnRef
namespace Go.Proofs.Ytabahmcbhapbiaa
open Go.RowKit
set_option linter.unusedVariables false

set_option maxHeartbeats 1000000 in
theorem turned_di_le (ap ab as1 bp bb bs : Int) (a0 : 0 ≤ ap) (a1 : ap ≤ 1000000000000000) (b0 : 0 ≤ bp) (b1 : bp ≤ 1000000000000000) (h : bp ≤ ap) (V : Value) (HV : Hid (.tuple #[.agg #[.int .i64 2, .int .i64 (ap + 1), .int .i64 ab, .int .i64 as1], .agg #[.int .i64 1, .int .i64 (bp), .int .i64 bb, .int .i64 bs]] = V)) (w : World) :
    Calls Try.prog 95 #[.agg #[.int .i64 2, .int .i64 (ap), .int .i64 ab, .int .i64 as1], .agg #[.int .i64 1, .int .i64 (bp), .int .i64 bb, .int .i64 bs]] w fun e w' => e = .returned V ∧ Below w.heap.size w w' := by
  go_enter Try.func95, Try.ntmps95
  go_wp2
  all_goals go_region_with (go_at_call 97; go_must (refine (moved_any _ _ ab as1 (1) (by omega) (by omega) (by omega) (by omega) _).mono ?_; rintro e w1 ⟨rfl, c1, c2, rfl⟩))
  all_goals go_wp2
  all_goals simp [bodyPost, results, Try.results95, go_sem]
  all_goals exact ⟨HV.out, by repeat (first | exact Below.refl _ _ | apply Below.drew | refine bel_alloc ?_ _)⟩

set_option maxHeartbeats 1000000 in
theorem turned_di_gt (ap ab as1 bp bb bs : Int) (a0 : 0 ≤ ap) (a1 : ap ≤ 1000000000000000) (b0 : 0 ≤ bp) (b1 : bp ≤ 1000000000000000) (h : ap < bp) (V : Value) (HV : Hid (.tuple #[.agg #[.int .i64 2, .int .i64 (ap), .int .i64 ab, .int .i64 as1], .agg #[.int .i64 1, .int .i64 (bp + -1), .int .i64 bb, .int .i64 bs]] = V)) (w : World) :
    Calls Try.prog 95 #[.agg #[.int .i64 2, .int .i64 (ap), .int .i64 ab, .int .i64 as1], .agg #[.int .i64 1, .int .i64 (bp), .int .i64 bb, .int .i64 bs]] w fun e w' => e = .returned V ∧ Below w.heap.size w w' := by
  go_enter Try.func95, Try.ntmps95
  go_wp2
  all_goals go_region_with (go_at_call 97; go_must (refine (moved_any _ _ bb bs (-1) (by omega) (by omega) (by omega) (by omega) _).mono ?_; rintro e w1 ⟨rfl, c1, c2, rfl⟩))
  all_goals go_wp2
  all_goals simp [bodyPost, results, Try.results95, go_sem]
  all_goals exact ⟨HV.out, by repeat (first | exact Below.refl _ _ | apply Below.drew | refine bel_alloc ?_ _)⟩

end Go.Proofs.Ytabahmcbhapbiaa
