import Derived.Test.YtabahmcbhapbiaaRows
import Derived.Test.YtabahmcbhapbiaaQMath
import Derived.Deep.RegionWith
namespace Go.Proofs.Ytabahmcbhapbiaa
open Go.RowKit

set_option maxHeartbeats 400000 in
theorem moved_any (k p b s d : Int) (h0 : -1000000 ≤ p) (h1 : p ≤ 10000000000000000) (hd : -1 ≤ d) (hd' : d ≤ 1) (w : World) :
    Calls Try.prog 97 #[.agg #[.int .i64 k, .int .i64 p, .int .i64 b, .int .i64 s], .int .i64 d] w fun e w' => e = .returned (.agg #[.int .i64 k, .int .i64 (p + d), .int .i64 b, .int .i64 s]) ∧ ∃ c1 c2, w' = (w.alloc (.cells c1 26)).alloc (.cells c2 26) := by
  go_enter Try.func97, Try.ntmps97
  go_wp2
  refine bodyPost_ret (v := .agg #[.int .i64 k, .int .i64 (p + d), .int .i64 b, .int .i64 s]) (by simp [results, Try.results97, go_sem]) rfl ⟨rfl, _, _, rfl⟩

set_option maxHeartbeats 400000 in
theorem nothing_any (k p b s : Int) (w : World) :
    Calls Try.prog 98 #[.agg #[.int .i64 k, .int .i64 p, .int .i64 b, .int .i64 s]] w fun e w' => e = .returned (.agg #[.int .i64 0, .int .i64 0, .int .i64 0, .int .i64 s]) ∧ ∃ c1 c2, w' = (w.alloc (.cells c1 26)).alloc (.cells c2 26) := by
  go_enter Try.func98, Try.ntmps98
  go_wp2
  refine bodyPost_ret (v := .agg #[.int .i64 0, .int .i64 0, .int .i64 0, .int .i64 s]) (by simp [results, Try.results98, go_sem]) rfl ⟨rfl, _, _, rfl⟩

end Go.Proofs.Ytabahmcbhapbiaa
