import Derived.Test.YtabahmcbhapbiaaRows
import Derived.Test.YtabahmcbhapbiaaQMath
import Derived.Deep.RegionWith
import Derived.Laws.EntriesVeiled
namespace Go.Proofs.Ytabahmcbhapbiaa
open Go.RowKit
set_option linter.unusedVariables false

set_option maxHeartbeats 400000 in
theorem opnothing_any (s : Int) (w : World) :
    Calls Try.prog 94 #[.int .i64 s] w fun e w' => e = .returned (.agg #[.int .i64 0, .int .i64 0, .int .i64 0, .int .i64 s]) ∧ ∃ c1, w' = w.alloc (.cells c1 26) := by
  go_enter Try.func94, Try.ntmps94
  go_wp2
  refine bodyPost_ret (v := .agg #[.int .i64 0, .int .i64 0, .int .i64 0, .int .i64 s]) (by simp [results, Try.results94, go_sem]) rfl ⟨rfl, _, rfl⟩

set_option maxHeartbeats 400000 in
theorem stay_any (ak ap ab as1 bk bp bb bs : Int) (V : Value) (HV : Hid (.tuple #[.agg #[.int .i64 ak, .int .i64 ap, .int .i64 ab, .int .i64 as1], .agg #[.int .i64 bk, .int .i64 bp, .int .i64 bb, .int .i64 bs]] = V)) (w : World) :
    Calls Try.prog 85 #[.agg #[.int .i64 ak, .int .i64 ap, .int .i64 ab, .int .i64 as1], .agg #[.int .i64 bk, .int .i64 bp, .int .i64 bb, .int .i64 bs]] w fun e w' => e = .returned V ∧ Below w.heap.size w w' := by
  go_enter Try.func85, Try.ntmps85
  go_wp2
  all_goals go_region
  all_goals go_wp2
  all_goals simp [bodyPost, results, Try.results85, go_sem]
  all_goals exact ⟨HV.out, by repeat (first | exact Below.refl _ _ | apply Below.drew | refine bel_alloc ?_ _)⟩
end Go.Proofs.Ytabahmcbhapbiaa
