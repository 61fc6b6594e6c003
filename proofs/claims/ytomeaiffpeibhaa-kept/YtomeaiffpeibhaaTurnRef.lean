import Derived.Test.YtomeaiffpeibhaaRows
import Derived.Test.YtomeaiffpeibhaaTurnBase
import Derived.Deep.RegionWith
namespace Go.Proofs.Ytomeaiffpeibhaa
open Go.RowKit

set_option maxHeartbeats 400000 in
theorem moved_any (k p b s d : Int) (h0 : -1000000 ≤ p) (h1 : p ≤ 10000000000000000) (hd : -1 ≤ d) (hd' : d ≤ 1) (w : World) :
    Calls Try.prog 92 #[.agg #[.int .i64 k, .int .i64 p, .int .i64 b, .int .i64 s], .int .i64 d] w fun e w' => e = .returned (.agg #[.int .i64 k, .int .i64 (p + d), .int .i64 b, .int .i64 s]) ∧ ∃ c1 c2, w' = (w.alloc (.cells c1 26)).alloc (.cells c2 26) := by
  go_enter Try.func92, Try.ntmps92
  go_wp2
  refine bodyPost_ret (v := .agg #[.int .i64 k, .int .i64 (p + d), .int .i64 b, .int .i64 s]) (by simp [results, Try.results92, go_sem]) rfl ⟨rfl, _, _, rfl⟩

set_option maxHeartbeats 400000 in
theorem nothing_any (k p b s : Int) (w : World) :
    Calls Try.prog 93 #[.agg #[.int .i64 k, .int .i64 p, .int .i64 b, .int .i64 s]] w fun e w' => e = .returned (.agg #[.int .i64 0, .int .i64 0, .int .i64 0, .int .i64 s]) ∧ ∃ c1 c2, w' = (w.alloc (.cells c1 26)).alloc (.cells c2 26) := by
  go_enter Try.func93, Try.ntmps93
  go_wp2
  refine bodyPost_ret (v := .agg #[.int .i64 0, .int .i64 0, .int .i64 0, .int .i64 s]) (by simp [results, Try.results93, go_sem]) rfl ⟨rfl, _, _, rfl⟩

end Go.Proofs.Ytomeaiffpeibhaa
