import Derived.Test.YtomeaiffpeibhaaAwake
namespace Go.Proofs.Ytomeaiffpeibhaa
open Go.RowKit Go.Lib
set_option linter.unusedVariables false
set_option maxHeartbeats 2000000 in
theorem awake_any (w : World) : Calls Try.prog 10 #[] w fun e w' => e = .returned (.bool true) ∧ Below w.heap.size w w' := by
  have H0 : Hid (∀ W, Calls Try.prog 23 #[.int .i64 2, dstr abc] W fun e w' => ∃ mb, e = .returned (.tuple #[.pointer (some ⟨mb, 0, none⟩), .int .i64 0]) ∧ Live W w' mb abc aw0) := fun W => live_new 2 (by decide) (by decide) abc (by decide) W
  have H1 : Hid (∀ W mb, Live w W mb abc aw0 → Calls Try.prog 24 #[.pointer (some ⟨mb, 0, none⟩), .int .i64 0, .agg #[.int .i64 1, .int .i64 1, .int .i64 120, .int .i64 0]] W fun e w' => e = .returned (.int .i64 0) ∧ Live w w' mb abc aw1) := fun W mb h => live_type h 0 (by decide) ⟨1, 1, 120, 0⟩ _ aw1_ok.1 aw1_ok.2 rfl
  have H2 : Hid (∀ W mb, Live w W mb abc aw1 → Calls Try.prog 24 #[.pointer (some ⟨mb, 0, none⟩), .int .i64 1, .agg #[.int .i64 2, .int .i64 1, .int .i64 0, .int .i64 0]] W fun e w' => e = .returned (.int .i64 0) ∧ Live w w' mb abc aw2) := fun W mb h => live_type h 1 (by decide) ⟨2, 1, 0, 0⟩ _ aw2_ok.1 aw2_ok.2 rfl
  have H3 : Hid (∀ W mb, Live w W mb abc aw2 → Calls Try.prog 25 #[.pointer (some ⟨mb, 0, none⟩), .int .i64 0] W fun e w' => e = .returned (.int .i64 0) ∧ Live w w' mb abc aw3) := fun W mb h => live_up h 0 (by decide) _ _ _ aw3_ok.1 aw3_ok.2 rfl (few_small (by decide))
  have H4 : Hid (∀ W mb, Live w W mb abc aw3 → Calls Try.prog 25 #[.pointer (some ⟨mb, 0, none⟩), .int .i64 1] W fun e w' => e = .returned (.int .i64 0) ∧ Live w w' mb abc aw4) := fun W mb h => live_up h 1 (by decide) _ _ _ aw4_ok.1 aw4_ok.2 rfl (few_small (by decide))
  have H5 : Hid (∀ W mb, Live w W mb abc aw4 → Calls Try.prog 26 #[.pointer (some ⟨mb, 0, none⟩), .int .i64 0] W fun e w' => e = .returned (.int .i64 0) ∧ Live w w' mb abc aw5) := fun W mb h => live_down h 0 (by decide) _ _ _ aw5_ok.1 aw5_ok.2 rfl
  have H6 : Hid (∀ W mb, Live w W mb abc aw5 → Calls Try.prog 26 #[.pointer (some ⟨mb, 0, none⟩), .int .i64 0] W fun e w' => e = .returned (.int .i64 0) ∧ Live w w' mb abc aw6) := fun W mb h => live_down h 0 (by decide) _ _ _ aw6_ok.1 aw6_ok.2 rfl
  have H7 : Hid (∀ W mb, Live w W mb abc aw6 → Calls Try.prog 26 #[.pointer (some ⟨mb, 0, none⟩), .int .i64 1] W fun e w' => e = .returned (.int .i64 0) ∧ Live w w' mb abc aw7) := fun W mb h => live_down h 1 (by decide) _ _ _ aw7_ok.1 aw7_ok.2 rfl
  have H8 : Hid (∀ W mb, Live w W mb abc aw7 → Calls Try.prog 26 #[.pointer (some ⟨mb, 0, none⟩), .int .i64 1] W fun e w' => e = .returned (.int .i64 0) ∧ Live w w' mb abc aw8) := fun W mb h => live_down h 1 (by decide) _ _ _ aw8_ok.1 aw8_ok.2 rfl
  have T0 : Hid (∀ W mb, Live w W mb abc aw8 → Calls Try.prog 17 #[.pointer (some ⟨mb, 0, none⟩), .int .i64 0] W fun e w' => e = .returned (.tuple #[dstr [97, 120, 99], .int .i64 0]) ∧ W = w') := fun W mb h => live_text h 0 (by decide) _ aw_end.1
  have T1 : Hid (∀ W mb, Live w W mb abc aw8 → Calls Try.prog 17 #[.pointer (some ⟨mb, 0, none⟩), .int .i64 1] W fun e w' => e = .returned (.tuple #[dstr [97, 120, 99], .int .i64 0]) ∧ W = w') := fun W mb h => live_text h 1 (by decide) _ aw_end.2.1
  have T2 : Hid (∀ W mb, Live w W mb abc aw8 → Calls Try.prog 17 #[.pointer (some ⟨mb, 0, none⟩), .int .i64 (-1)] W fun e w' => e = .returned (.tuple #[dstr [97, 120, 99], .int .i64 0]) ∧ W = w') := fun W mb h => live_srv h _ aw_end.2.2
  have HT : Hid (∀ W, Calls Try.prog 12 #[.agg #[.int .i64 1, .int .i64 3, .int .i64 113, .int .i64 0], .agg #[.int .i64 2, .int .i64 1, .int .i64 0, .int .i64 0]] W fun e w' => e = .returned (.tuple #[.agg #[.int .i64 1, .int .i64 2, .int .i64 113, .int .i64 0], .agg #[.int .i64 2, .int .i64 1, .int .i64 0, .int .i64 0], .int .i64 0]) ∧ Below W.heap.size W w') := fun W => mootTurn_any ⟨1, 3, 113, 0⟩ ⟨2, 1, 0, 0⟩ W
  go_enter Try.func10, Try.ntmps10
  go_wp2_with fail
  refine (H0.out _).mono ?_
  rintro e w0 ⟨mb, rfl, l0⟩
  have L0 := hidP l0
  clear l0
  go_wp2_with fail
  refine (H1.out _ _ L0.out).mono ?_
  rintro e w1 ⟨rfl, l1⟩
  have L1 := hidP l1
  clear l1 H1 L0
  go_wp2_with fail
  refine (H2.out _ _ L1.out).mono ?_
  rintro e w2 ⟨rfl, l2⟩
  have L2 := hidP l2
  clear l2 H2 L1
  go_wp2_with fail
  refine (H3.out _ _ L2.out).mono ?_
  rintro e w3 ⟨rfl, l3⟩
  have L3 := hidP l3
  clear l3 H3 L2
  go_wp2_with fail
  refine (H4.out _ _ L3.out).mono ?_
  rintro e w4 ⟨rfl, l4⟩
  have L4 := hidP l4
  clear l4 H4 L3
  go_wp2_with fail
  refine (H5.out _ _ L4.out).mono ?_
  rintro e w5 ⟨rfl, l5⟩
  have L5 := hidP l5
  clear l5 H5 L4
  go_wp2_with fail
  refine (H6.out _ _ L5.out).mono ?_
  rintro e w6 ⟨rfl, l6⟩
  have L6 := hidP l6
  clear l6 H6 L5
  go_wp2_with fail
  refine (H7.out _ _ L6.out).mono ?_
  rintro e w7 ⟨rfl, l7⟩
  have L7 := hidP l7
  clear l7 H7 L6
  go_wp2_with fail
  refine (H8.out _ _ L7.out).mono ?_
  rintro e w8 ⟨rfl, l8⟩
  have L8 := hidP l8
  clear l8 H8 L7
  go_wp2_with fail
  refine (T0.out _ _ L8.out).mono ?_
  rintro e v0 ⟨rfl, rfl⟩
  clear T0
  go_wp2_with fail
  refine (T1.out _ _ L8.out).mono ?_
  rintro e v1 ⟨rfl, rfl⟩
  clear T1
  go_wp2_with fail
  refine (T2.out _ _ L8.out).mono ?_
  rintro e v2 ⟨rfl, rfl⟩
  clear T2
  go_wp2_with fail
  refine (HT.out _).mono ?_
  rintro e w9 ⟨rfl, hb9⟩
  have HB := hidP (bel_trans L8.out.bel hb9)
  clear hb9 L8 HT
  go_wp2
  all_goals go_ret
  all_goals exact ⟨rfl, bel_alloc (bel_alloc HB.out _) _⟩
end Go.Proofs.Ytomeaiffpeibhaa
