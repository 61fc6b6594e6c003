import Derived.Test.YtomnbfafkndlaaaRows
import Derived.Test.YtomnbfafkndlaaaTurnBase
import Derived.Deep.RegionWith
namespace Go.Proofs.Ytomnbfafkndlaaa
open Go.RowKit

set_option maxHeartbeats 400000 in
theorem moved_any (k p b s d : Int) (h0 : -1000000 ≤ p) (h1 : p ≤ 1000000000000) (hd : -1 ≤ d) (hd' : d ≤ 1) (w : World) :
    Calls Try.prog 49 #[.agg #[.int .i64 k, .int .i64 p, .int .i64 b, .int .i64 s], .int .i64 d] w fun e w' => e = .returned (.agg #[.int .i64 k, .int .i64 (p + d), .int .i64 b, .int .i64 s]) ∧ ∃ c1 c2, w' = (w.alloc (.cells c1 31)).alloc (.cells c2 31) := by
  go_enter Try.func49, Try.ntmps49
  go_wp2
  refine bodyPost_ret (v := .agg #[.int .i64 k, .int .i64 (p + d), .int .i64 b, .int .i64 s]) (by simp [results, Try.results49, go_sem]) rfl ⟨rfl, _, _, rfl⟩

set_option maxHeartbeats 400000 in
theorem nothing_any (k p b s : Int) (w : World) :
    Calls Try.prog 50 #[.agg #[.int .i64 k, .int .i64 p, .int .i64 b, .int .i64 s]] w fun e w' => e = .returned (.agg #[.int .i64 0, .int .i64 0, .int .i64 0, .int .i64 s]) ∧ ∃ c1 c2, w' = (w.alloc (.cells c1 31)).alloc (.cells c2 31) := by
  go_enter Try.func50, Try.ntmps50
  go_wp2
  refine bodyPost_ret (v := .agg #[.int .i64 0, .int .i64 0, .int .i64 0, .int .i64 s]) (by simp [results, Try.results50, go_sem]) rfl ⟨rfl, _, _, rfl⟩

end Go.Proofs.Ytomnbfafkndlaaa
