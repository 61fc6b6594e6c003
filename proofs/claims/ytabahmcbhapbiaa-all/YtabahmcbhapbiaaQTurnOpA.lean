import Derived.Test.YtabahmcbhapbiaaQTurnOp
namespace Go.Proofs.Ytabahmcbhapbiaa
open Go.RowKit
set_option linter.unusedVariables false

set_option maxHeartbeats 1000000 in
theorem tii_lt (ap ab as1 bp bb bs : Int) (a0 : 0 ≤ ap) (a1 : ap ≤ 1000000000000000) (b0 : 0 ≤ bp) (b1 : bp ≤ 1000000000000000) (h : ap < bp) (V : Value) (HV : Hid (.tuple #[.agg #[.int .i64 1, .int .i64 (ap), .int .i64 ab, .int .i64 as1], .agg #[.int .i64 1, .int .i64 (bp + 1), .int .i64 bb, .int .i64 bs]] = V)) (w : World) :
    Calls Try.prog 86 #[.agg #[.int .i64 1, .int .i64 (ap), .int .i64 ab, .int .i64 as1], .agg #[.int .i64 1, .int .i64 (bp), .int .i64 bb, .int .i64 bs]] w fun e w' => e = .returned V ∧ Below w.heap.size w w' := by
  go_enter Try.func86, Try.ntmps86
  go_wp2
  all_goals go_region
  all_goals go_wp2
  all_goals simp [bodyPost, results, Try.results86, go_sem]
  all_goals exact ⟨HV.out, by repeat (first | exact Below.refl _ _ | apply Below.drew | refine bel_alloc ?_ _)⟩

set_option maxHeartbeats 1000000 in
theorem tii_eq (ab as1 bp bb bs : Int)  (b0 : 0 ≤ bp) (b1 : bp ≤ 1000000000000000) (h : as1 ≤ bs) (V : Value) (HV : Hid (.tuple #[.agg #[.int .i64 1, .int .i64 (bp), .int .i64 ab, .int .i64 as1], .agg #[.int .i64 1, .int .i64 (bp + 1), .int .i64 bb, .int .i64 bs]] = V)) (w : World) :
    Calls Try.prog 86 #[.agg #[.int .i64 1, .int .i64 (bp), .int .i64 ab, .int .i64 as1], .agg #[.int .i64 1, .int .i64 (bp), .int .i64 bb, .int .i64 bs]] w fun e w' => e = .returned V ∧ Below w.heap.size w w' := by
  go_enter Try.func86, Try.ntmps86
  go_wp2
  all_goals go_region
  all_goals go_wp2
  all_goals simp [bodyPost, results, Try.results86, go_sem]
  all_goals exact ⟨HV.out, by repeat (first | exact Below.refl _ _ | apply Below.drew | refine bel_alloc ?_ _)⟩

set_option maxHeartbeats 1000000 in
theorem tii_eq2 (ab as1 bp bb bs : Int)  (b0 : 0 ≤ bp) (b1 : bp ≤ 1000000000000000) (h : bs < as1) (V : Value) (HV : Hid (.tuple #[.agg #[.int .i64 1, .int .i64 (bp + 1), .int .i64 ab, .int .i64 as1], .agg #[.int .i64 1, .int .i64 (bp), .int .i64 bb, .int .i64 bs]] = V)) (w : World) :
    Calls Try.prog 86 #[.agg #[.int .i64 1, .int .i64 (bp), .int .i64 ab, .int .i64 as1], .agg #[.int .i64 1, .int .i64 (bp), .int .i64 bb, .int .i64 bs]] w fun e w' => e = .returned V ∧ Below w.heap.size w w' := by
  go_enter Try.func86, Try.ntmps86
  go_wp2
  all_goals go_region
  all_goals go_wp2
  all_goals simp [bodyPost, results, Try.results86, go_sem]
  all_goals exact ⟨HV.out, by repeat (first | exact Below.refl _ _ | apply Below.drew | refine bel_alloc ?_ _)⟩

set_option maxHeartbeats 1000000 in
theorem tii_gt (ap ab as1 bp bb bs : Int) (a0 : 0 ≤ ap) (a1 : ap ≤ 1000000000000000) (b0 : 0 ≤ bp) (b1 : bp ≤ 1000000000000000) (h : bp < ap) (V : Value) (HV : Hid (.tuple #[.agg #[.int .i64 1, .int .i64 (ap + 1), .int .i64 ab, .int .i64 as1], .agg #[.int .i64 1, .int .i64 (bp), .int .i64 bb, .int .i64 bs]] = V)) (w : World) :
    Calls Try.prog 86 #[.agg #[.int .i64 1, .int .i64 (ap), .int .i64 ab, .int .i64 as1], .agg #[.int .i64 1, .int .i64 (bp), .int .i64 bb, .int .i64 bs]] w fun e w' => e = .returned V ∧ Below w.heap.size w w' := by
  go_enter Try.func86, Try.ntmps86
  go_wp2
  all_goals go_region
  all_goals go_wp2
  all_goals simp [bodyPost, results, Try.results86, go_sem]
  all_goals exact ⟨HV.out, by repeat (first | exact Below.refl _ _ | apply Below.drew | refine bel_alloc ?_ _)⟩

set_option maxHeartbeats 1000000 in
theorem tid_le (ap ab as1 bp bb bs : Int) (a0 : 0 ≤ ap) (a1 : ap ≤ 1000000000000000) (b0 : 0 ≤ bp) (b1 : bp ≤ 1000000000000000) (h : ap ≤ bp) (V : Value) (HV : Hid (.tuple #[.agg #[.int .i64 1, .int .i64 (ap), .int .i64 ab, .int .i64 as1], .agg #[.int .i64 2, .int .i64 (bp + 1), .int .i64 bb, .int .i64 bs]] = V)) (w : World) :
    Calls Try.prog 87 #[.agg #[.int .i64 1, .int .i64 (ap), .int .i64 ab, .int .i64 as1], .agg #[.int .i64 2, .int .i64 (bp), .int .i64 bb, .int .i64 bs]] w fun e w' => e = .returned V ∧ Below w.heap.size w w' := by
  go_enter Try.func87, Try.ntmps87
  go_wp2
  all_goals go_region
  all_goals go_wp2
  all_goals simp [bodyPost, results, Try.results87, go_sem]
  all_goals exact ⟨HV.out, by repeat (first | exact Below.refl _ _ | apply Below.drew | refine bel_alloc ?_ _)⟩

set_option maxHeartbeats 1000000 in
theorem tid_gt (ap ab as1 bp bb bs : Int) (a0 : 0 ≤ ap) (a1 : ap ≤ 1000000000000000) (b0 : 0 ≤ bp) (b1 : bp ≤ 1000000000000000) (h : bp < ap) (V : Value) (HV : Hid (.tuple #[.agg #[.int .i64 1, .int .i64 (ap - 1), .int .i64 ab, .int .i64 as1], .agg #[.int .i64 2, .int .i64 (bp), .int .i64 bb, .int .i64 bs]] = V)) (w : World) :
    Calls Try.prog 87 #[.agg #[.int .i64 1, .int .i64 (ap), .int .i64 ab, .int .i64 as1], .agg #[.int .i64 2, .int .i64 (bp), .int .i64 bb, .int .i64 bs]] w fun e w' => e = .returned V ∧ Below w.heap.size w w' := by
  go_enter Try.func87, Try.ntmps87
  go_wp2
  all_goals go_region
  all_goals go_wp2
  all_goals simp [bodyPost, results, Try.results87, go_sem]
  all_goals exact ⟨HV.out, by repeat (first | exact Below.refl _ _ | apply Below.drew | refine bel_alloc ?_ _)⟩

set_option maxHeartbeats 1000000 in
theorem tidx_le (ap ab as1 bp bb bs : Int) (a0 : 0 ≤ ap) (a1 : ap ≤ 1000000000000000) (b0 : 0 ≤ bp) (b1 : bp ≤ 1000000000000000) (h : ap ≤ bp) (V : Value) (HV : Hid (.tuple #[.agg #[.int .i64 1, .int .i64 (ap), .int .i64 ab, .int .i64 as1], .agg #[.int .i64 2, .int .i64 (bp + 1), .int .i64 bb, .int .i64 bs]] = V)) (w : World) :
    Calls Try.prog 87 #[.agg #[.int .i64 1, .int .i64 (ap), .int .i64 ab, .int .i64 as1], .agg #[.int .i64 2, .int .i64 (bp), .int .i64 bb, .int .i64 bs]] w fun e w' => e = .returned V ∧ ∃ c1 c2 c3 c4 : Array Value, w' = ((((w.alloc (.cells c1 26)).alloc (.cells c2 26)).alloc (.cells c3 26)).alloc (.cells c4 26)).drew := by
  go_enter Try.func87, Try.ntmps87
  go_wp2
  all_goals go_region
  all_goals go_wp2
  all_goals simp [bodyPost, results, Try.results87, go_sem]
  all_goals exact ⟨HV.out, _, _, _, _, rfl⟩

set_option maxHeartbeats 1000000 in
theorem tidx_gt (ap ab as1 bp bb bs : Int) (a0 : 0 ≤ ap) (a1 : ap ≤ 1000000000000000) (b0 : 0 ≤ bp) (b1 : bp ≤ 1000000000000000) (h : bp < ap) (V : Value) (HV : Hid (.tuple #[.agg #[.int .i64 1, .int .i64 (ap - 1), .int .i64 ab, .int .i64 as1], .agg #[.int .i64 2, .int .i64 (bp), .int .i64 bb, .int .i64 bs]] = V)) (w : World) :
    Calls Try.prog 87 #[.agg #[.int .i64 1, .int .i64 (ap), .int .i64 ab, .int .i64 as1], .agg #[.int .i64 2, .int .i64 (bp), .int .i64 bb, .int .i64 bs]] w fun e w' => e = .returned V ∧ ∃ c1 c2 c3 c4 : Array Value, w' = ((((w.alloc (.cells c1 26)).alloc (.cells c2 26)).alloc (.cells c3 26)).alloc (.cells c4 26)).drew := by
  go_enter Try.func87, Try.ntmps87
  go_wp2
  all_goals go_region
  all_goals go_wp2
  all_goals simp [bodyPost, results, Try.results87, go_sem]
  all_goals exact ⟨HV.out, _, _, _, _, rfl⟩

set_option maxHeartbeats 1000000 in
theorem tdi_le (ap ab as1 bp bb bs : Int) (a0 : 0 ≤ ap) (a1 : ap ≤ 1000000000000000) (b0 : 0 ≤ bp) (b1 : bp ≤ 1000000000000000) (h : bp ≤ ap) (V : Value) (HV : Hid (.tuple #[.agg #[.int .i64 2, .int .i64 (ap + 1), .int .i64 ab, .int .i64 as1], .agg #[.int .i64 1, .int .i64 (bp), .int .i64 bb, .int .i64 bs]] = V)) (w : World) :
    Calls Try.prog 88 #[.agg #[.int .i64 2, .int .i64 (ap), .int .i64 ab, .int .i64 as1], .agg #[.int .i64 1, .int .i64 (bp), .int .i64 bb, .int .i64 bs]] w fun e w' => e = .returned V ∧ Below w.heap.size w w' := by
  go_enter Try.func88, Try.ntmps88
  go_wp2_with (go_at_call 87; refine (tidx_le bp bb bs ap ab as1 b0 b1 a0 a1 h _ rfl _).mono ?_; rintro e w1 ⟨rfl, c1, c2, c3, c4, rfl⟩)
  all_goals go_region
  all_goals go_wp2
  all_goals simp [bodyPost, results, Try.results88, go_sem]
  all_goals exact ⟨HV.out, by repeat (first | exact Below.refl _ _ | apply Below.drew | refine bel_alloc ?_ _)⟩

set_option maxHeartbeats 1000000 in
theorem tdi_gt (ap ab as1 bp bb bs : Int) (a0 : 0 ≤ ap) (a1 : ap ≤ 1000000000000000) (b0 : 0 ≤ bp) (b1 : bp ≤ 1000000000000000) (h : ap < bp) (V : Value) (HV : Hid (.tuple #[.agg #[.int .i64 2, .int .i64 (ap), .int .i64 ab, .int .i64 as1], .agg #[.int .i64 1, .int .i64 (bp - 1), .int .i64 bb, .int .i64 bs]] = V)) (w : World) :
    Calls Try.prog 88 #[.agg #[.int .i64 2, .int .i64 (ap), .int .i64 ab, .int .i64 as1], .agg #[.int .i64 1, .int .i64 (bp), .int .i64 bb, .int .i64 bs]] w fun e w' => e = .returned V ∧ Below w.heap.size w w' := by
  go_enter Try.func88, Try.ntmps88
  go_wp2_with (go_at_call 87; refine (tidx_gt bp bb bs ap ab as1 b0 b1 a0 a1 h _ rfl _).mono ?_; rintro e w1 ⟨rfl, c1, c2, c3, c4, rfl⟩)
  all_goals go_region
  all_goals go_wp2
  all_goals simp [bodyPost, results, Try.results88, go_sem]
  all_goals exact ⟨HV.out, by repeat (first | exact Below.refl _ _ | apply Below.drew | refine bel_alloc ?_ _)⟩

set_option maxHeartbeats 1000000 in
theorem tdd_eq (ab as1 bp bb bs : Int)  (b0 : 0 ≤ bp) (b1 : bp ≤ 1000000000000000)  (V : Value) (HV : Hid (.tuple #[.agg #[.int .i64 0, .int .i64 (0), .int .i64 0, .int .i64 as1], .agg #[.int .i64 0, .int .i64 (0), .int .i64 0, .int .i64 bs]] = V)) (w : World) :
    Calls Try.prog 89 #[.agg #[.int .i64 2, .int .i64 (bp), .int .i64 ab, .int .i64 as1], .agg #[.int .i64 2, .int .i64 (bp), .int .i64 bb, .int .i64 bs]] w fun e w' => e = .returned V ∧ Below w.heap.size w w' := by
  go_enter Try.func89, Try.ntmps89
  go_wp2
  all_goals go_region_with (first | (go_at_call_of 94 (Value.int IntKind.i64 as1); refine (opnothing_any as1 _).mono ?_; rintro e w1 ⟨rfl, c1, rfl⟩) | (go_at_call_of 94 (Value.int IntKind.i64 bs); refine (opnothing_any bs _).mono ?_; rintro e w1 ⟨rfl, c2, rfl⟩))
  all_goals go_wp2
  all_goals simp [bodyPost, results, Try.results89, go_sem]
  all_goals exact ⟨HV.out, by repeat (first | exact Below.refl _ _ | apply Below.drew | refine bel_alloc ?_ _)⟩

set_option maxHeartbeats 1000000 in
theorem tdd_lt (ap ab as1 bp bb bs : Int) (a0 : 0 ≤ ap) (a1 : ap ≤ 1000000000000000) (b0 : 0 ≤ bp) (b1 : bp ≤ 1000000000000000) (h : ap < bp) (V : Value) (HV : Hid (.tuple #[.agg #[.int .i64 2, .int .i64 (ap), .int .i64 ab, .int .i64 as1], .agg #[.int .i64 2, .int .i64 (bp - 1), .int .i64 bb, .int .i64 bs]] = V)) (w : World) :
    Calls Try.prog 89 #[.agg #[.int .i64 2, .int .i64 (ap), .int .i64 ab, .int .i64 as1], .agg #[.int .i64 2, .int .i64 (bp), .int .i64 bb, .int .i64 bs]] w fun e w' => e = .returned V ∧ Below w.heap.size w w' := by
  go_enter Try.func89, Try.ntmps89
  go_wp2
  all_goals go_region
  all_goals go_wp2
  all_goals simp [bodyPost, results, Try.results89, go_sem]
  all_goals exact ⟨HV.out, by repeat (first | exact Below.refl _ _ | apply Below.drew | refine bel_alloc ?_ _)⟩

set_option maxHeartbeats 1000000 in
theorem tdd_gt (ap ab as1 bp bb bs : Int) (a0 : 0 ≤ ap) (a1 : ap ≤ 1000000000000000) (b0 : 0 ≤ bp) (b1 : bp ≤ 1000000000000000) (h : bp < ap) (V : Value) (HV : Hid (.tuple #[.agg #[.int .i64 2, .int .i64 (ap - 1), .int .i64 ab, .int .i64 as1], .agg #[.int .i64 2, .int .i64 (bp), .int .i64 bb, .int .i64 bs]] = V)) (w : World) :
    Calls Try.prog 89 #[.agg #[.int .i64 2, .int .i64 (ap), .int .i64 ab, .int .i64 as1], .agg #[.int .i64 2, .int .i64 (bp), .int .i64 bb, .int .i64 bs]] w fun e w' => e = .returned V ∧ Below w.heap.size w w' := by
  go_enter Try.func89, Try.ntmps89
  go_wp2
  all_goals go_region
  all_goals go_wp2
  all_goals simp [bodyPost, results, Try.results89, go_sem]
  all_goals exact ⟨HV.out, by repeat (first | exact Below.refl _ _ | apply Below.drew | refine bel_alloc ?_ _)⟩

end Go.Proofs.Ytabahmcbhapbiaa
