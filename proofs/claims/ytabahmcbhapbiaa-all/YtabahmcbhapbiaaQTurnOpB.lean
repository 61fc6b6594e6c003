import Derived.Test.YtabahmcbhapbiaaQTurnPick
import Derived.Test.YtabahmcbhapbiaaQTurnOpA
import Derived.Deep.RegionHeld3
namespace Go.Proofs.Ytabahmcbhapbiaa
open Go.RowKit
set_option linter.unusedVariables false

set_option maxHeartbeats 1000000 in
theorem opTurn_0x (bk ap ab as1 bp bb bs xk xp xb xs yk yp yb ys : Int)
    (HF : Hid (∀ w : World, Calls Try.prog 85 #[.agg #[.int .i64 0, .int .i64 ap, .int .i64 ab, .int .i64 as1], .agg #[.int .i64 bk, .int .i64 bp, .int .i64 bb, .int .i64 bs]] w fun e w' => e = .returned (.tuple #[.agg #[.int .i64 xk, .int .i64 xp, .int .i64 xb, .int .i64 xs], .agg #[.int .i64 yk, .int .i64 yp, .int .i64 yb, .int .i64 ys]]) ∧ Below w.heap.size w w')) (V : Value) (HV : Hid (.tuple #[.agg #[.int .i64 xk, .int .i64 xp, .int .i64 xb, .int .i64 xs], .agg #[.int .i64 yk, .int .i64 yp, .int .i64 yb, .int .i64 ys]] = V)) (w : World) :
    Calls Try.prog 32 #[.agg #[.int .i64 0, .int .i64 ap, .int .i64 ab, .int .i64 as1], .agg #[.int .i64 bk, .int .i64 bp, .int .i64 bb, .int .i64 bs]] w fun e w' => e = .returned V ∧ Below w.heap.size w w' := by
  go_enter Try.func32, Try.ntmps32
  go_wp2
  go_region_held3 (fun w' => w'.cell? ⟨w.heap.size, 0, none⟩ = some (.int .i64 0) ∧ w'.cell? ⟨w.heap.size, 1, none⟩ = some (.int .i64 ap) ∧ w'.cell? ⟨w.heap.size, 2, none⟩ = some (.int .i64 ab) ∧ w'.cell? ⟨w.heap.size, 3, none⟩ = some (.int .i64 as1) ∧ w'.cell? ⟨w.heap.size + 1, 0, none⟩ = some (.int .i64 bk) ∧ w'.cell? ⟨w.heap.size + 1, 1, none⟩ = some (.int .i64 bp) ∧ w'.cell? ⟨w.heap.size + 1, 2, none⟩ = some (.int .i64 bb) ∧ w'.cell? ⟨w.heap.size + 1, 3, none⟩ = some (.int .i64 bs)) (simp [go_sem, World.cell?_alloc_past, *]) (first | (go_at_call 63; refine (allRules_any _).mono ?_; rintro e w1 ⟨rfl, c1, rfl⟩) | (go_at_call 64; refine (pick_0x _ _).mono ?_; rintro e w1 ⟨rfl, c2, rfl⟩) | (go_at_call 85; refine (HF.out _).mono ?_; rintro e w1 ⟨rfl, hb⟩; obtain ⟨hc, hfz⟩ := bcell hb; have hz : w.heap.size + 1 + 1 + 1 < w1.heap.size := by (have := hb.size; simp at this; omega)))
  all_goals go_wp2
  all_goals simp [bodyPost, results, Try.results32, go_sem, hc]
  all_goals clear hc hfz HF
  all_goals refine ⟨HV.out, ?_⟩
  all_goals repeat (refine bel_set ?_ (by first | (simp; done) | (simp; omega)) _)
  all_goals refine bel_trans ?_ hb
  all_goals repeat (first | exact Below.refl _ _ | apply Below.drew | refine bel_alloc ?_ _)

set_option maxHeartbeats 1000000 in
theorem opTurn_10 (ap ab as1 bp bb bs xk xp xb xs yk yp yb ys : Int)
    (HF : Hid (∀ w : World, Calls Try.prog 85 #[.agg #[.int .i64 1, .int .i64 ap, .int .i64 ab, .int .i64 as1], .agg #[.int .i64 0, .int .i64 bp, .int .i64 bb, .int .i64 bs]] w fun e w' => e = .returned (.tuple #[.agg #[.int .i64 xk, .int .i64 xp, .int .i64 xb, .int .i64 xs], .agg #[.int .i64 yk, .int .i64 yp, .int .i64 yb, .int .i64 ys]]) ∧ Below w.heap.size w w')) (V : Value) (HV : Hid (.tuple #[.agg #[.int .i64 xk, .int .i64 xp, .int .i64 xb, .int .i64 xs], .agg #[.int .i64 yk, .int .i64 yp, .int .i64 yb, .int .i64 ys]] = V)) (w : World) :
    Calls Try.prog 32 #[.agg #[.int .i64 1, .int .i64 ap, .int .i64 ab, .int .i64 as1], .agg #[.int .i64 0, .int .i64 bp, .int .i64 bb, .int .i64 bs]] w fun e w' => e = .returned V ∧ Below w.heap.size w w' := by
  go_enter Try.func32, Try.ntmps32
  go_wp2
  go_region_held3 (fun w' => w'.cell? ⟨w.heap.size, 0, none⟩ = some (.int .i64 1) ∧ w'.cell? ⟨w.heap.size, 1, none⟩ = some (.int .i64 ap) ∧ w'.cell? ⟨w.heap.size, 2, none⟩ = some (.int .i64 ab) ∧ w'.cell? ⟨w.heap.size, 3, none⟩ = some (.int .i64 as1) ∧ w'.cell? ⟨w.heap.size + 1, 0, none⟩ = some (.int .i64 0) ∧ w'.cell? ⟨w.heap.size + 1, 1, none⟩ = some (.int .i64 bp) ∧ w'.cell? ⟨w.heap.size + 1, 2, none⟩ = some (.int .i64 bb) ∧ w'.cell? ⟨w.heap.size + 1, 3, none⟩ = some (.int .i64 bs)) (simp [go_sem, World.cell?_alloc_past, *]) (first | (go_at_call 63; refine (allRules_any _).mono ?_; rintro e w1 ⟨rfl, c1, rfl⟩) | (go_at_call 64; refine (pick_10 _).mono ?_; rintro e w1 ⟨rfl, c2, rfl⟩) | (go_at_call 85; refine (HF.out _).mono ?_; rintro e w1 ⟨rfl, hb⟩; obtain ⟨hc, hfz⟩ := bcell hb; have hz : w.heap.size + 1 + 1 + 1 < w1.heap.size := by (have := hb.size; simp at this; omega)))
  all_goals go_wp2
  all_goals simp [bodyPost, results, Try.results32, go_sem, hc]
  all_goals clear hc hfz HF
  all_goals refine ⟨HV.out, ?_⟩
  all_goals repeat (refine bel_set ?_ (by first | (simp; done) | (simp; omega)) _)
  all_goals refine bel_trans ?_ hb
  all_goals repeat (first | exact Below.refl _ _ | apply Below.drew | refine bel_alloc ?_ _)

set_option maxHeartbeats 1000000 in
theorem opTurn_20 (ap ab as1 bp bb bs xk xp xb xs yk yp yb ys : Int)
    (HF : Hid (∀ w : World, Calls Try.prog 85 #[.agg #[.int .i64 2, .int .i64 ap, .int .i64 ab, .int .i64 as1], .agg #[.int .i64 0, .int .i64 bp, .int .i64 bb, .int .i64 bs]] w fun e w' => e = .returned (.tuple #[.agg #[.int .i64 xk, .int .i64 xp, .int .i64 xb, .int .i64 xs], .agg #[.int .i64 yk, .int .i64 yp, .int .i64 yb, .int .i64 ys]]) ∧ Below w.heap.size w w')) (V : Value) (HV : Hid (.tuple #[.agg #[.int .i64 xk, .int .i64 xp, .int .i64 xb, .int .i64 xs], .agg #[.int .i64 yk, .int .i64 yp, .int .i64 yb, .int .i64 ys]] = V)) (w : World) :
    Calls Try.prog 32 #[.agg #[.int .i64 2, .int .i64 ap, .int .i64 ab, .int .i64 as1], .agg #[.int .i64 0, .int .i64 bp, .int .i64 bb, .int .i64 bs]] w fun e w' => e = .returned V ∧ Below w.heap.size w w' := by
  go_enter Try.func32, Try.ntmps32
  go_wp2
  go_region_held3 (fun w' => w'.cell? ⟨w.heap.size, 0, none⟩ = some (.int .i64 2) ∧ w'.cell? ⟨w.heap.size, 1, none⟩ = some (.int .i64 ap) ∧ w'.cell? ⟨w.heap.size, 2, none⟩ = some (.int .i64 ab) ∧ w'.cell? ⟨w.heap.size, 3, none⟩ = some (.int .i64 as1) ∧ w'.cell? ⟨w.heap.size + 1, 0, none⟩ = some (.int .i64 0) ∧ w'.cell? ⟨w.heap.size + 1, 1, none⟩ = some (.int .i64 bp) ∧ w'.cell? ⟨w.heap.size + 1, 2, none⟩ = some (.int .i64 bb) ∧ w'.cell? ⟨w.heap.size + 1, 3, none⟩ = some (.int .i64 bs)) (simp [go_sem, World.cell?_alloc_past, *]) (first | (go_at_call 63; refine (allRules_any _).mono ?_; rintro e w1 ⟨rfl, c1, rfl⟩) | (go_at_call 64; refine (pick_20 _).mono ?_; rintro e w1 ⟨rfl, c2, rfl⟩) | (go_at_call 85; refine (HF.out _).mono ?_; rintro e w1 ⟨rfl, hb⟩; obtain ⟨hc, hfz⟩ := bcell hb; have hz : w.heap.size + 1 + 1 + 1 < w1.heap.size := by (have := hb.size; simp at this; omega)))
  all_goals go_wp2
  all_goals simp [bodyPost, results, Try.results32, go_sem, hc]
  all_goals clear hc hfz HF
  all_goals refine ⟨HV.out, ?_⟩
  all_goals repeat (refine bel_set ?_ (by first | (simp; done) | (simp; omega)) _)
  all_goals refine bel_trans ?_ hb
  all_goals repeat (first | exact Below.refl _ _ | apply Below.drew | refine bel_alloc ?_ _)

set_option maxHeartbeats 1000000 in
theorem opTurn_11 (ap ab as1 bp bb bs xk xp xb xs yk yp yb ys : Int)
    (HF : Hid (∀ w : World, Calls Try.prog 86 #[.agg #[.int .i64 1, .int .i64 ap, .int .i64 ab, .int .i64 as1], .agg #[.int .i64 1, .int .i64 bp, .int .i64 bb, .int .i64 bs]] w fun e w' => e = .returned (.tuple #[.agg #[.int .i64 xk, .int .i64 xp, .int .i64 xb, .int .i64 xs], .agg #[.int .i64 yk, .int .i64 yp, .int .i64 yb, .int .i64 ys]]) ∧ Below w.heap.size w w')) (V : Value) (HV : Hid (.tuple #[.agg #[.int .i64 xk, .int .i64 xp, .int .i64 xb, .int .i64 xs], .agg #[.int .i64 yk, .int .i64 yp, .int .i64 yb, .int .i64 ys]] = V)) (w : World) :
    Calls Try.prog 32 #[.agg #[.int .i64 1, .int .i64 ap, .int .i64 ab, .int .i64 as1], .agg #[.int .i64 1, .int .i64 bp, .int .i64 bb, .int .i64 bs]] w fun e w' => e = .returned V ∧ Below w.heap.size w w' := by
  go_enter Try.func32, Try.ntmps32
  go_wp2
  go_region_held3 (fun w' => w'.cell? ⟨w.heap.size, 0, none⟩ = some (.int .i64 1) ∧ w'.cell? ⟨w.heap.size, 1, none⟩ = some (.int .i64 ap) ∧ w'.cell? ⟨w.heap.size, 2, none⟩ = some (.int .i64 ab) ∧ w'.cell? ⟨w.heap.size, 3, none⟩ = some (.int .i64 as1) ∧ w'.cell? ⟨w.heap.size + 1, 0, none⟩ = some (.int .i64 1) ∧ w'.cell? ⟨w.heap.size + 1, 1, none⟩ = some (.int .i64 bp) ∧ w'.cell? ⟨w.heap.size + 1, 2, none⟩ = some (.int .i64 bb) ∧ w'.cell? ⟨w.heap.size + 1, 3, none⟩ = some (.int .i64 bs)) (simp [go_sem, World.cell?_alloc_past, *]) (first | (go_at_call 63; refine (allRules_any _).mono ?_; rintro e w1 ⟨rfl, c1, rfl⟩) | (go_at_call 64; refine (pick_11 _).mono ?_; rintro e w1 ⟨rfl, c2, rfl⟩) | (go_at_call 86; refine (HF.out _).mono ?_; rintro e w1 ⟨rfl, hb⟩; obtain ⟨hc, hfz⟩ := bcell hb; have hz : w.heap.size + 1 + 1 + 1 < w1.heap.size := by (have := hb.size; simp at this; omega)))
  all_goals go_wp2
  all_goals simp [bodyPost, results, Try.results32, go_sem, hc]
  all_goals clear hc hfz HF
  all_goals refine ⟨HV.out, ?_⟩
  all_goals repeat (refine bel_set ?_ (by first | (simp; done) | (simp; omega)) _)
  all_goals refine bel_trans ?_ hb
  all_goals repeat (first | exact Below.refl _ _ | apply Below.drew | refine bel_alloc ?_ _)

set_option maxHeartbeats 1000000 in
theorem opTurn_12 (ap ab as1 bp bb bs xk xp xb xs yk yp yb ys : Int)
    (HF : Hid (∀ w : World, Calls Try.prog 87 #[.agg #[.int .i64 1, .int .i64 ap, .int .i64 ab, .int .i64 as1], .agg #[.int .i64 2, .int .i64 bp, .int .i64 bb, .int .i64 bs]] w fun e w' => e = .returned (.tuple #[.agg #[.int .i64 xk, .int .i64 xp, .int .i64 xb, .int .i64 xs], .agg #[.int .i64 yk, .int .i64 yp, .int .i64 yb, .int .i64 ys]]) ∧ Below w.heap.size w w')) (V : Value) (HV : Hid (.tuple #[.agg #[.int .i64 xk, .int .i64 xp, .int .i64 xb, .int .i64 xs], .agg #[.int .i64 yk, .int .i64 yp, .int .i64 yb, .int .i64 ys]] = V)) (w : World) :
    Calls Try.prog 32 #[.agg #[.int .i64 1, .int .i64 ap, .int .i64 ab, .int .i64 as1], .agg #[.int .i64 2, .int .i64 bp, .int .i64 bb, .int .i64 bs]] w fun e w' => e = .returned V ∧ Below w.heap.size w w' := by
  go_enter Try.func32, Try.ntmps32
  go_wp2
  go_region_held3 (fun w' => w'.cell? ⟨w.heap.size, 0, none⟩ = some (.int .i64 1) ∧ w'.cell? ⟨w.heap.size, 1, none⟩ = some (.int .i64 ap) ∧ w'.cell? ⟨w.heap.size, 2, none⟩ = some (.int .i64 ab) ∧ w'.cell? ⟨w.heap.size, 3, none⟩ = some (.int .i64 as1) ∧ w'.cell? ⟨w.heap.size + 1, 0, none⟩ = some (.int .i64 2) ∧ w'.cell? ⟨w.heap.size + 1, 1, none⟩ = some (.int .i64 bp) ∧ w'.cell? ⟨w.heap.size + 1, 2, none⟩ = some (.int .i64 bb) ∧ w'.cell? ⟨w.heap.size + 1, 3, none⟩ = some (.int .i64 bs)) (simp [go_sem, World.cell?_alloc_past, *]) (first | (go_at_call 63; refine (allRules_any _).mono ?_; rintro e w1 ⟨rfl, c1, rfl⟩) | (go_at_call 64; refine (pick_12 _).mono ?_; rintro e w1 ⟨rfl, c2, rfl⟩) | (go_at_call 87; refine (HF.out _).mono ?_; rintro e w1 ⟨rfl, hb⟩; obtain ⟨hc, hfz⟩ := bcell hb; have hz : w.heap.size + 1 + 1 + 1 < w1.heap.size := by (have := hb.size; simp at this; omega)))
  all_goals go_wp2
  all_goals simp [bodyPost, results, Try.results32, go_sem, hc]
  all_goals clear hc hfz HF
  all_goals refine ⟨HV.out, ?_⟩
  all_goals repeat (refine bel_set ?_ (by first | (simp; done) | (simp; omega)) _)
  all_goals refine bel_trans ?_ hb
  all_goals repeat (first | exact Below.refl _ _ | apply Below.drew | refine bel_alloc ?_ _)

set_option maxHeartbeats 1000000 in
theorem opTurn_21 (ap ab as1 bp bb bs xk xp xb xs yk yp yb ys : Int)
    (HF : Hid (∀ w : World, Calls Try.prog 88 #[.agg #[.int .i64 2, .int .i64 ap, .int .i64 ab, .int .i64 as1], .agg #[.int .i64 1, .int .i64 bp, .int .i64 bb, .int .i64 bs]] w fun e w' => e = .returned (.tuple #[.agg #[.int .i64 xk, .int .i64 xp, .int .i64 xb, .int .i64 xs], .agg #[.int .i64 yk, .int .i64 yp, .int .i64 yb, .int .i64 ys]]) ∧ Below w.heap.size w w')) (V : Value) (HV : Hid (.tuple #[.agg #[.int .i64 xk, .int .i64 xp, .int .i64 xb, .int .i64 xs], .agg #[.int .i64 yk, .int .i64 yp, .int .i64 yb, .int .i64 ys]] = V)) (w : World) :
    Calls Try.prog 32 #[.agg #[.int .i64 2, .int .i64 ap, .int .i64 ab, .int .i64 as1], .agg #[.int .i64 1, .int .i64 bp, .int .i64 bb, .int .i64 bs]] w fun e w' => e = .returned V ∧ Below w.heap.size w w' := by
  go_enter Try.func32, Try.ntmps32
  go_wp2
  go_region_held3 (fun w' => w'.cell? ⟨w.heap.size, 0, none⟩ = some (.int .i64 2) ∧ w'.cell? ⟨w.heap.size, 1, none⟩ = some (.int .i64 ap) ∧ w'.cell? ⟨w.heap.size, 2, none⟩ = some (.int .i64 ab) ∧ w'.cell? ⟨w.heap.size, 3, none⟩ = some (.int .i64 as1) ∧ w'.cell? ⟨w.heap.size + 1, 0, none⟩ = some (.int .i64 1) ∧ w'.cell? ⟨w.heap.size + 1, 1, none⟩ = some (.int .i64 bp) ∧ w'.cell? ⟨w.heap.size + 1, 2, none⟩ = some (.int .i64 bb) ∧ w'.cell? ⟨w.heap.size + 1, 3, none⟩ = some (.int .i64 bs)) (simp [go_sem, World.cell?_alloc_past, *]) (first | (go_at_call 63; refine (allRules_any _).mono ?_; rintro e w1 ⟨rfl, c1, rfl⟩) | (go_at_call 64; refine (pick_21 _).mono ?_; rintro e w1 ⟨rfl, c2, rfl⟩) | (go_at_call 88; refine (HF.out _).mono ?_; rintro e w1 ⟨rfl, hb⟩; obtain ⟨hc, hfz⟩ := bcell hb; have hz : w.heap.size + 1 + 1 + 1 < w1.heap.size := by (have := hb.size; simp at this; omega)))
  all_goals go_wp2
  all_goals simp [bodyPost, results, Try.results32, go_sem, hc]
  all_goals clear hc hfz HF
  all_goals refine ⟨HV.out, ?_⟩
  all_goals repeat (refine bel_set ?_ (by first | (simp; done) | (simp; omega)) _)
  all_goals refine bel_trans ?_ hb
  all_goals repeat (first | exact Below.refl _ _ | apply Below.drew | refine bel_alloc ?_ _)

set_option maxHeartbeats 1000000 in
theorem opTurn_22 (ap ab as1 bp bb bs xk xp xb xs yk yp yb ys : Int)
    (HF : Hid (∀ w : World, Calls Try.prog 89 #[.agg #[.int .i64 2, .int .i64 ap, .int .i64 ab, .int .i64 as1], .agg #[.int .i64 2, .int .i64 bp, .int .i64 bb, .int .i64 bs]] w fun e w' => e = .returned (.tuple #[.agg #[.int .i64 xk, .int .i64 xp, .int .i64 xb, .int .i64 xs], .agg #[.int .i64 yk, .int .i64 yp, .int .i64 yb, .int .i64 ys]]) ∧ Below w.heap.size w w')) (V : Value) (HV : Hid (.tuple #[.agg #[.int .i64 xk, .int .i64 xp, .int .i64 xb, .int .i64 xs], .agg #[.int .i64 yk, .int .i64 yp, .int .i64 yb, .int .i64 ys]] = V)) (w : World) :
    Calls Try.prog 32 #[.agg #[.int .i64 2, .int .i64 ap, .int .i64 ab, .int .i64 as1], .agg #[.int .i64 2, .int .i64 bp, .int .i64 bb, .int .i64 bs]] w fun e w' => e = .returned V ∧ Below w.heap.size w w' := by
  go_enter Try.func32, Try.ntmps32
  go_wp2
  go_region_held3 (fun w' => w'.cell? ⟨w.heap.size, 0, none⟩ = some (.int .i64 2) ∧ w'.cell? ⟨w.heap.size, 1, none⟩ = some (.int .i64 ap) ∧ w'.cell? ⟨w.heap.size, 2, none⟩ = some (.int .i64 ab) ∧ w'.cell? ⟨w.heap.size, 3, none⟩ = some (.int .i64 as1) ∧ w'.cell? ⟨w.heap.size + 1, 0, none⟩ = some (.int .i64 2) ∧ w'.cell? ⟨w.heap.size + 1, 1, none⟩ = some (.int .i64 bp) ∧ w'.cell? ⟨w.heap.size + 1, 2, none⟩ = some (.int .i64 bb) ∧ w'.cell? ⟨w.heap.size + 1, 3, none⟩ = some (.int .i64 bs)) (simp [go_sem, World.cell?_alloc_past, *]) (first | (go_at_call 63; refine (allRules_any _).mono ?_; rintro e w1 ⟨rfl, c1, rfl⟩) | (go_at_call 64; refine (pick_22 _).mono ?_; rintro e w1 ⟨rfl, c2, rfl⟩) | (go_at_call 89; refine (HF.out _).mono ?_; rintro e w1 ⟨rfl, hb⟩; obtain ⟨hc, hfz⟩ := bcell hb; have hz : w.heap.size + 1 + 1 + 1 < w1.heap.size := by (have := hb.size; simp at this; omega)))
  all_goals go_wp2
  all_goals simp [bodyPost, results, Try.results32, go_sem, hc]
  all_goals clear hc hfz HF
  all_goals refine ⟨HV.out, ?_⟩
  all_goals repeat (refine bel_set ?_ (by first | (simp; done) | (simp; omega)) _)
  all_goals refine bel_trans ?_ hb
  all_goals repeat (first | exact Below.refl _ _ | apply Below.drew | refine bel_alloc ?_ _)

end Go.Proofs.Ytabahmcbhapbiaa
