import Derived.Test.YtomeaiffpeibhaaRows
import Derived.Test.YtomeaiffpeibhaaTurnBase
import Derived.Deep.RegionWith
namespace Go.Proofs.Ytomeaiffpeibhaa
open Go.RowKit

set_option maxHeartbeats 400000 in
theorem moved_any (k p b s d : Int) (h0 : -1000000 ≤ p) (h1 : p ≤ 10000000000000000) (hd : -1 ≤ d) (hd' : d ≤ 1) (w : World) :
    Calls Try.prog 92 #[.agg #[.int .i64 k, .int .i64 p, .int .i64 b, .int .i64 s], .int .i64 d] w fun e w' => e = .returned (.agg #[.int .i64 k, .int .i64 (p + d), .int .i64 b, .int .i64 s]) ∧ ∃ c1 c2, w' = (w.alloc (.cells c1 26)).alloc (.cells c2 26) := by
  go_enter Try.func92, Try.ntmps92
  go_wp2
  refine bodyPost_ret (v := .agg #[.int .i64 k, .int .i64 (p + d), .int .i64 b, .int .i64 s]) (by simp [results, Try.results92, go_sem]) rfl ⟨rfl, _, _, rfl⟩

set_option maxHeartbeats 400000 in
theorem nothing_any (k p b s : Int) (w : World) :
    Calls Try.prog 93 #[.agg #[.int .i64 k, .int .i64 p, .int .i64 b, .int .i64 s]] w fun e w' => e = .returned (.agg #[.int .i64 0, .int .i64 0, .int .i64 0, .int .i64 s]) ∧ ∃ c1 c2, w' = (w.alloc (.cells c1 26)).alloc (.cells c2 26) := by
  go_enter Try.func93, Try.ntmps93
  go_wp2
  refine bodyPost_ret (v := .agg #[.int .i64 0, .int .i64 0, .int .i64 0, .int .i64 s]) (by simp [results, Try.results93, go_sem]) rfl ⟨rfl, _, _, rfl⟩

end Go.Proofs.Ytomeaiffpeibhaa

namespace Go.Proofs.Ytomeaiffpeibhaa
open Go.RowKit
set_option linter.unusedVariables false

set_option maxHeartbeats 1000000 in
theorem turned_0x (bk ap ab as1 bp bb bs : Int) (a0 : 0 ≤ ap) (a1 : ap ≤ 1000000000000000) (b0 : 0 ≤ bp) (b1 : bp ≤ 1000000000000000)  (V : Value) (HV : Hid (.tuple #[.agg #[.int .i64 0, .int .i64 (ap), .int .i64 ab, .int .i64 as1], .agg #[.int .i64 bk, .int .i64 (bp), .int .i64 bb, .int .i64 bs]] = V)) (w : World) :
    Calls Try.prog 87 #[.agg #[.int .i64 0, .int .i64 (ap), .int .i64 ab, .int .i64 as1], .agg #[.int .i64 bk, .int .i64 (bp), .int .i64 bb, .int .i64 bs]] w fun e w' => e = .returned V ∧ Below w.heap.size w w' := by
  go_enter Try.func87, Try.ntmps87
  go_wp2
  all_goals go_region
  all_goals go_wp2
  all_goals simp [bodyPost, results, Try.results87, go_sem]
  all_goals exact ⟨HV.out, by repeat (first | exact Below.refl _ _ | apply Below.drew | refine bel_alloc ?_ _)⟩

set_option maxHeartbeats 1000000 in
theorem turned_x0 (ak ap ab as1 bp bb bs : Int) (a0 : 0 ≤ ap) (a1 : ap ≤ 1000000000000000) (b0 : 0 ≤ bp) (b1 : bp ≤ 1000000000000000) (hk : (ak == 0) = false) (V : Value) (HV : Hid (.tuple #[.agg #[.int .i64 ak, .int .i64 (ap), .int .i64 ab, .int .i64 as1], .agg #[.int .i64 0, .int .i64 (bp), .int .i64 bb, .int .i64 bs]] = V)) (w : World) :
    Calls Try.prog 87 #[.agg #[.int .i64 ak, .int .i64 (ap), .int .i64 ab, .int .i64 as1], .agg #[.int .i64 0, .int .i64 (bp), .int .i64 bb, .int .i64 bs]] w fun e w' => e = .returned V ∧ Below w.heap.size w w' := by
  go_enter Try.func87, Try.ntmps87
  go_wp2
  all_goals go_region
  all_goals go_wp2
  all_goals simp [bodyPost, results, Try.results87, go_sem]
  all_goals exact ⟨HV.out, by repeat (first | exact Below.refl _ _ | apply Below.drew | refine bel_alloc ?_ _)⟩

set_option maxHeartbeats 1000000 in
theorem turned_ii_lt (ap ab as1 bp bb bs : Int) (a0 : 0 ≤ ap) (a1 : ap ≤ 1000000000000000) (b0 : 0 ≤ bp) (b1 : bp ≤ 1000000000000000) (h : ap < bp) (V : Value) (HV : Hid (.tuple #[.agg #[.int .i64 1, .int .i64 (ap), .int .i64 ab, .int .i64 as1], .agg #[.int .i64 1, .int .i64 (bp + 1), .int .i64 bb, .int .i64 bs]] = V)) (w : World) :
    Calls Try.prog 87 #[.agg #[.int .i64 1, .int .i64 (ap), .int .i64 ab, .int .i64 as1], .agg #[.int .i64 1, .int .i64 (bp), .int .i64 bb, .int .i64 bs]] w fun e w' => e = .returned V ∧ Below w.heap.size w w' := by
  go_enter Try.func87, Try.ntmps87
  go_wp2
  all_goals go_region_with (go_at_call 92; go_must (refine (moved_any _ _ bb bs (1) (by omega) (by omega) (by omega) (by omega) _).mono ?_; rintro e w1 ⟨rfl, c1, c2, rfl⟩))
  all_goals go_wp2
  all_goals simp [bodyPost, results, Try.results87, go_sem]
  all_goals exact ⟨HV.out, by repeat (first | exact Below.refl _ _ | apply Below.drew | refine bel_alloc ?_ _)⟩

set_option maxHeartbeats 1000000 in
theorem turned_ii_eq (ab as1 bp bb bs : Int)  (b0 : 0 ≤ bp) (b1 : bp ≤ 1000000000000000) (h : as1 ≤ bs) (V : Value) (HV : Hid (.tuple #[.agg #[.int .i64 1, .int .i64 (bp), .int .i64 ab, .int .i64 as1], .agg #[.int .i64 1, .int .i64 (bp + 1), .int .i64 bb, .int .i64 bs]] = V)) (w : World) :
    Calls Try.prog 87 #[.agg #[.int .i64 1, .int .i64 (bp), .int .i64 ab, .int .i64 as1], .agg #[.int .i64 1, .int .i64 (bp), .int .i64 bb, .int .i64 bs]] w fun e w' => e = .returned V ∧ Below w.heap.size w w' := by
  go_enter Try.func87, Try.ntmps87
  go_wp2
  all_goals go_region_with (go_at_call 92; go_must (refine (moved_any _ _ bb bs (1) (by omega) (by omega) (by omega) (by omega) _).mono ?_; rintro e w1 ⟨rfl, c1, c2, rfl⟩))
  all_goals go_wp2
  all_goals simp [bodyPost, results, Try.results87, go_sem]
  all_goals exact ⟨HV.out, by repeat (first | exact Below.refl _ _ | apply Below.drew | refine bel_alloc ?_ _)⟩

end Go.Proofs.Ytomeaiffpeibhaa

namespace Go.Proofs.Ytomeaiffpeibhaa
open Go.RowKit
set_option linter.unusedVariables false

set_option maxHeartbeats 1000000 in
theorem turned_ii_eq2 (ab as1 bp bb bs : Int)  (b0 : 0 ≤ bp) (b1 : bp ≤ 1000000000000000) (h : bs < as1) (V : Value) (HV : Hid (.tuple #[.agg #[.int .i64 1, .int .i64 (bp + 1), .int .i64 ab, .int .i64 as1], .agg #[.int .i64 1, .int .i64 (bp), .int .i64 bb, .int .i64 bs]] = V)) (w : World) :
    Calls Try.prog 87 #[.agg #[.int .i64 1, .int .i64 (bp), .int .i64 ab, .int .i64 as1], .agg #[.int .i64 1, .int .i64 (bp), .int .i64 bb, .int .i64 bs]] w fun e w' => e = .returned V ∧ Below w.heap.size w w' := by
  go_enter Try.func87, Try.ntmps87
  go_wp2
  all_goals go_region_with (go_at_call 92; go_must (refine (moved_any _ _ ab as1 (1) (by omega) (by omega) (by omega) (by omega) _).mono ?_; rintro e w1 ⟨rfl, c1, c2, rfl⟩))
  all_goals go_wp2
  all_goals simp [bodyPost, results, Try.results87, go_sem]
  all_goals exact ⟨HV.out, by repeat (first | exact Below.refl _ _ | apply Below.drew | refine bel_alloc ?_ _)⟩

set_option maxHeartbeats 1000000 in
theorem turned_ii_gt (ap ab as1 bp bb bs : Int) (a0 : 0 ≤ ap) (a1 : ap ≤ 1000000000000000) (b0 : 0 ≤ bp) (b1 : bp ≤ 1000000000000000) (h : bp < ap) (V : Value) (HV : Hid (.tuple #[.agg #[.int .i64 1, .int .i64 (ap + 1), .int .i64 ab, .int .i64 as1], .agg #[.int .i64 1, .int .i64 (bp), .int .i64 bb, .int .i64 bs]] = V)) (w : World) :
    Calls Try.prog 87 #[.agg #[.int .i64 1, .int .i64 (ap), .int .i64 ab, .int .i64 as1], .agg #[.int .i64 1, .int .i64 (bp), .int .i64 bb, .int .i64 bs]] w fun e w' => e = .returned V ∧ Below w.heap.size w w' := by
  go_enter Try.func87, Try.ntmps87
  go_wp2
  all_goals go_region_with (go_at_call 92; go_must (refine (moved_any _ _ ab as1 (1) (by omega) (by omega) (by omega) (by omega) _).mono ?_; rintro e w1 ⟨rfl, c1, c2, rfl⟩))
  all_goals go_wp2
  all_goals simp [bodyPost, results, Try.results87, go_sem]
  all_goals exact ⟨HV.out, by repeat (first | exact Below.refl _ _ | apply Below.drew | refine bel_alloc ?_ _)⟩

set_option maxHeartbeats 1000000 in
theorem turned_id_le (ap ab as1 bp bb bs : Int) (a0 : 0 ≤ ap) (a1 : ap ≤ 1000000000000000) (b0 : 0 ≤ bp) (b1 : bp ≤ 1000000000000000) (h : ap ≤ bp) (V : Value) (HV : Hid (.tuple #[.agg #[.int .i64 1, .int .i64 (ap), .int .i64 ab, .int .i64 as1], .agg #[.int .i64 2, .int .i64 (bp + 1), .int .i64 bb, .int .i64 bs]] = V)) (w : World) :
    Calls Try.prog 87 #[.agg #[.int .i64 1, .int .i64 (ap), .int .i64 ab, .int .i64 as1], .agg #[.int .i64 2, .int .i64 (bp), .int .i64 bb, .int .i64 bs]] w fun e w' => e = .returned V ∧ Below w.heap.size w w' := by
  go_enter Try.func87, Try.ntmps87
  go_wp2
  all_goals go_region_with (go_at_call 92; go_must (refine (moved_any _ _ bb bs (1) (by omega) (by omega) (by omega) (by omega) _).mono ?_; rintro e w1 ⟨rfl, c1, c2, rfl⟩))
  all_goals go_wp2
  all_goals simp [bodyPost, results, Try.results87, go_sem]
  all_goals exact ⟨HV.out, by repeat (first | exact Below.refl _ _ | apply Below.drew | refine bel_alloc ?_ _)⟩

set_option maxHeartbeats 1000000 in
theorem turned_id_gt (ap ab as1 bp bb bs : Int) (a0 : 0 ≤ ap) (a1 : ap ≤ 1000000000000000) (b0 : 0 ≤ bp) (b1 : bp ≤ 1000000000000000) (h : bp < ap) (V : Value) (HV : Hid (.tuple #[.agg #[.int .i64 1, .int .i64 (ap + -1), .int .i64 ab, .int .i64 as1], .agg #[.int .i64 2, .int .i64 (bp), .int .i64 bb, .int .i64 bs]] = V)) (w : World) :
    Calls Try.prog 87 #[.agg #[.int .i64 1, .int .i64 (ap), .int .i64 ab, .int .i64 as1], .agg #[.int .i64 2, .int .i64 (bp), .int .i64 bb, .int .i64 bs]] w fun e w' => e = .returned V ∧ Below w.heap.size w w' := by
  go_enter Try.func87, Try.ntmps87
  go_wp2
  all_goals go_region_with (go_at_call 92; go_must (refine (moved_any _ _ ab as1 (-1) (by omega) (by omega) (by omega) (by omega) _).mono ?_; rintro e w1 ⟨rfl, c1, c2, rfl⟩))
  all_goals go_wp2
  all_goals simp [bodyPost, results, Try.results87, go_sem]
  all_goals exact ⟨HV.out, by repeat (first | exact Below.refl _ _ | apply Below.drew | refine bel_alloc ?_ _)⟩

end Go.Proofs.Ytomeaiffpeibhaa

namespace Go.Proofs.Ytomeaiffpeibhaa
open Go.RowKit
set_option linter.unusedVariables false

set_option maxHeartbeats 1000000 in
theorem turned_di_le (ap ab as1 bp bb bs : Int) (a0 : 0 ≤ ap) (a1 : ap ≤ 1000000000000000) (b0 : 0 ≤ bp) (b1 : bp ≤ 1000000000000000) (h : bp ≤ ap) (V : Value) (HV : Hid (.tuple #[.agg #[.int .i64 2, .int .i64 (ap + 1), .int .i64 ab, .int .i64 as1], .agg #[.int .i64 1, .int .i64 (bp), .int .i64 bb, .int .i64 bs]] = V)) (w : World) :
    Calls Try.prog 87 #[.agg #[.int .i64 2, .int .i64 (ap), .int .i64 ab, .int .i64 as1], .agg #[.int .i64 1, .int .i64 (bp), .int .i64 bb, .int .i64 bs]] w fun e w' => e = .returned V ∧ Below w.heap.size w w' := by
  go_enter Try.func87, Try.ntmps87
  go_wp2
  all_goals go_region_with (go_at_call 92; go_must (refine (moved_any _ _ ab as1 (1) (by omega) (by omega) (by omega) (by omega) _).mono ?_; rintro e w1 ⟨rfl, c1, c2, rfl⟩))
  all_goals go_wp2
  all_goals simp [bodyPost, results, Try.results87, go_sem]
  all_goals exact ⟨HV.out, by repeat (first | exact Below.refl _ _ | apply Below.drew | refine bel_alloc ?_ _)⟩

set_option maxHeartbeats 1000000 in
theorem turned_di_gt (ap ab as1 bp bb bs : Int) (a0 : 0 ≤ ap) (a1 : ap ≤ 1000000000000000) (b0 : 0 ≤ bp) (b1 : bp ≤ 1000000000000000) (h : ap < bp) (V : Value) (HV : Hid (.tuple #[.agg #[.int .i64 2, .int .i64 (ap), .int .i64 ab, .int .i64 as1], .agg #[.int .i64 1, .int .i64 (bp + -1), .int .i64 bb, .int .i64 bs]] = V)) (w : World) :
    Calls Try.prog 87 #[.agg #[.int .i64 2, .int .i64 (ap), .int .i64 ab, .int .i64 as1], .agg #[.int .i64 1, .int .i64 (bp), .int .i64 bb, .int .i64 bs]] w fun e w' => e = .returned V ∧ Below w.heap.size w w' := by
  go_enter Try.func87, Try.ntmps87
  go_wp2
  all_goals go_region_with (go_at_call 92; go_must (refine (moved_any _ _ bb bs (-1) (by omega) (by omega) (by omega) (by omega) _).mono ?_; rintro e w1 ⟨rfl, c1, c2, rfl⟩))
  all_goals go_wp2
  all_goals simp [bodyPost, results, Try.results87, go_sem]
  all_goals exact ⟨HV.out, by repeat (first | exact Below.refl _ _ | apply Below.drew | refine bel_alloc ?_ _)⟩

end Go.Proofs.Ytomeaiffpeibhaa

namespace Go.Proofs.Ytomeaiffpeibhaa
open Go.RowKit
set_option linter.unusedVariables false

set_option maxHeartbeats 1000000 in
theorem turned_dd_eq (ab as1 bp bb bs : Int)  (b0 : 0 ≤ bp) (b1 : bp ≤ 1000000000000000)  (V : Value) (HV : Hid (.tuple #[.agg #[.int .i64 0, .int .i64 (0), .int .i64 0, .int .i64 as1], .agg #[.int .i64 0, .int .i64 (0), .int .i64 0, .int .i64 bs]] = V)) (w : World) :
    Calls Try.prog 87 #[.agg #[.int .i64 2, .int .i64 (bp), .int .i64 ab, .int .i64 as1], .agg #[.int .i64 2, .int .i64 (bp), .int .i64 bb, .int .i64 bs]] w fun e w' => e = .returned V ∧ Below w.heap.size w w' := by
  go_enter Try.func87, Try.ntmps87
  go_wp2
  all_goals go_region_with (first | (go_at_call_of 93 (Value.agg #[Value.int IntKind.i64 2, Value.int IntKind.i64 bp, Value.int IntKind.i64 ab, Value.int IntKind.i64 as1]); refine (nothing_any _ _ ab as1 _).mono ?_; rintro e w1 ⟨rfl, c1, c2, rfl⟩) | (go_at_call_of 93 (Value.agg #[Value.int IntKind.i64 2, Value.int IntKind.i64 bp, Value.int IntKind.i64 bb, Value.int IntKind.i64 bs]); refine (nothing_any _ _ bb bs _).mono ?_; rintro e w1 ⟨rfl, c3, c4, rfl⟩))
  all_goals go_wp2
  all_goals simp [bodyPost, results, Try.results87, go_sem]
  all_goals exact ⟨HV.out, by repeat (first | exact Below.refl _ _ | apply Below.drew | refine bel_alloc ?_ _)⟩

set_option maxHeartbeats 1000000 in
theorem turned_dd_lt (ap ab as1 bp bb bs : Int) (a0 : 0 ≤ ap) (a1 : ap ≤ 1000000000000000) (b0 : 0 ≤ bp) (b1 : bp ≤ 1000000000000000) (h : ap < bp) (V : Value) (HV : Hid (.tuple #[.agg #[.int .i64 2, .int .i64 (ap), .int .i64 ab, .int .i64 as1], .agg #[.int .i64 2, .int .i64 (bp + -1), .int .i64 bb, .int .i64 bs]] = V)) (w : World) :
    Calls Try.prog 87 #[.agg #[.int .i64 2, .int .i64 (ap), .int .i64 ab, .int .i64 as1], .agg #[.int .i64 2, .int .i64 (bp), .int .i64 bb, .int .i64 bs]] w fun e w' => e = .returned V ∧ Below w.heap.size w w' := by
  go_enter Try.func87, Try.ntmps87
  go_wp2
  all_goals go_region_with (go_at_call 92; go_must (refine (moved_any _ _ bb bs (-1) (by omega) (by omega) (by omega) (by omega) _).mono ?_; rintro e w1 ⟨rfl, c1, c2, rfl⟩))
  all_goals go_wp2
  all_goals simp [bodyPost, results, Try.results87, go_sem]
  all_goals exact ⟨HV.out, by repeat (first | exact Below.refl _ _ | apply Below.drew | refine bel_alloc ?_ _)⟩

set_option maxHeartbeats 1000000 in
theorem turned_dd_gt (ap ab as1 bp bb bs : Int) (a0 : 0 ≤ ap) (a1 : ap ≤ 1000000000000000) (b0 : 0 ≤ bp) (b1 : bp ≤ 1000000000000000) (h : bp < ap) (V : Value) (HV : Hid (.tuple #[.agg #[.int .i64 2, .int .i64 (ap + -1), .int .i64 ab, .int .i64 as1], .agg #[.int .i64 2, .int .i64 (bp), .int .i64 bb, .int .i64 bs]] = V)) (w : World) :
    Calls Try.prog 87 #[.agg #[.int .i64 2, .int .i64 (ap), .int .i64 ab, .int .i64 as1], .agg #[.int .i64 2, .int .i64 (bp), .int .i64 bb, .int .i64 bs]] w fun e w' => e = .returned V ∧ Below w.heap.size w w' := by
  go_enter Try.func87, Try.ntmps87
  go_wp2
  all_goals go_region_with (go_at_call 92; go_must (refine (moved_any _ _ ab as1 (-1) (by omega) (by omega) (by omega) (by omega) _).mono ?_; rintro e w1 ⟨rfl, c1, c2, rfl⟩))
  all_goals go_wp2
  all_goals simp [bodyPost, results, Try.results87, go_sem]
  all_goals exact ⟨HV.out, by repeat (first | exact Below.refl _ _ | apply Below.drew | refine bel_alloc ?_ _)⟩

end Go.Proofs.Ytomeaiffpeibhaa
