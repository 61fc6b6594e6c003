import Derived.Test.YtabahmcbhapbiaaRows
import Derived.Test.YtabahmcbhapbiaaQMath
import Derived.Deep.RegionHeld3
import Derived.Deep.DeepCutAuto
import Derived.ProofKit
import Derived.OpenShut
import Derived.SizedLaws
import Derived.Deep.Slices
import Derived.Below
namespace Go.Proofs.Ytabahmcbhapbiaa
open Go.RowKit Go.Lib
set_option linter.unusedVariables false
def I64 (c : Int) : Prop := -9223372036854775808 ≤ c ∧ c ≤ 9223372036854775807
/-- Which of n things a raw number speaks of. -/
def pickN (c : Int) (n : Nat) : Nat := ((if c < 0 then -(c + 1) else c) % (n : Int)).toNat
theorem pickN_lt (c : Int) {n : Nat} (h : 0 < n) : pickN c n < n := by
  unfold pickN
  have h1 := Int.emod_lt_of_pos (if c < 0 then -(c + 1) else c) (show (0 : Int) < n by omega)
  have h2 := Int.emod_nonneg (if c < 0 then -(c + 1) else c) (show (n : Int) ≠ 0 by omega)
  omega
theorem pickN_int (c : Int) {n : Nat} (h : 0 < n) : (pickN c n : Int) = (if c < 0 then -(c + 1) else c) % (n : Int) := by
  unfold pickN
  exact Int.toNat_of_nonneg (Int.emod_nonneg _ (by omega))
set_option maxHeartbeats 1000000 in
theorem pick_any (c : Int) (hc : I64 c) (n : Nat) (hn : 0 < n) (hn2 : n ≤ 1000000000000000) (w : World) :
    Calls Try.prog 17 #[.int .i64 c, .int .i64 (n : Int)] w fun e w' => e = .returned (.int .i64 (pickN c n : Int)) ∧ w = w' := by
  obtain ⟨h1, h2⟩ := hc
  rw [pickN_int c hn]
  have hn0 : ¬ ((n : Int) = 0) := by omega
  by_cases h : c < 0
  · rw [if_pos h]
    go_enter Try.func17, Try.ntmps17
    go_wp2
    go_ret
    have e : -((c + 1).tmod (n : Int)) = -(c + 1) % (n : Int) := by rw [← Int.neg_tmod]; exact Int.tmod_eq_emod_of_nonneg (by omega)
    rw [e]
    exact ⟨rfl, rfl⟩
  · rw [if_neg h]
    have h' : 0 ≤ c := by omega
    go_enter Try.func17, Try.ntmps17
    go_wp2
    go_ret
    exact ⟨rfl, rfl⟩
/-- A raw op, made to fit a text of n bytes. -/
def keepOp (k p b s : Int) (n : Nat) : Op4 :=
  if pickN k 2 = 0 then ⟨1, pickN p (n + 1), pickN b 256, pickN s 4⟩
  else if n = 0 then ⟨2, 0, 0, pickN s 4⟩ else ⟨2, pickN p n, 0, pickN s 4⟩
def keepIs (k : Int) (n : Nat) : Bool := decide (pickN k 2 = 0) || decide (0 < n)
set_option maxHeartbeats 1000000 in
theorem keepOp_ins (k p b s : Int) (hk : I64 k) (hp : I64 p) (hb : I64 b) (hs : I64 s) (n : Nat) (hn : n ≤ 200000000000000) (hi : pickN k 2 = 0) (w : World) :
    Calls Try.prog 14 #[.agg #[.int .i64 k, .int .i64 p, .int .i64 b, .int .i64 s], .int .i64 (n : Int)] w fun e w' => e = .returned (.tuple #[.agg #[.int .i64 1, .int .i64 (pickN p (n + 1) : Int), .int .i64 (pickN b 256 : Int), .int .i64 (pickN s 4 : Int)], .bool true]) ∧ Below w.heap.size w w' := by
  have H1 : Hid (∀ W, Calls Try.prog 17 #[.int .i64 k, .int .i64 2] W fun e w' => e = .returned (.int .i64 0) ∧ W = w') := fun W => by have := pick_any k hk 2 (by omega) (by omega) W; rw [hi] at this; exact this
  have H2 : Hid (∀ W, Calls Try.prog 17 #[.int .i64 s, .int .i64 4] W fun e w' => e = .returned (.int .i64 (pickN s 4 : Int)) ∧ W = w') := fun W => pick_any s hs 4 (by omega) (by omega) W
  have H3 : Hid (∀ W, Calls Try.prog 17 #[.int .i64 p, .int .i64 ((n : Int) + 1)] W fun e w' => e = .returned (.int .i64 (pickN p (n + 1) : Int)) ∧ W = w') := fun W => by have := pick_any p hp (n + 1) (by omega) (by omega) W; rw [show (((n + 1 : Nat)) : Int) = (n : Int) + 1 by omega] at this; exact this
  have H4 : Hid (∀ W, Calls Try.prog 17 #[.int .i64 b, .int .i64 256] W fun e w' => e = .returned (.int .i64 (pickN b 256 : Int)) ∧ W = w') := fun W => pick_any b hb 256 (by omega) (by omega) W
  have l4 := pickN_lt s (n := 4) (by omega)
  clear hk hp hb hs hi
  go_enter Try.func14, Try.ntmps14
  go_wp2_with fail
  go_region_held3 (fun W => W.cell? ⟨w.heap.size, 0, none⟩ = some (.int .i64 k) ∧ W.cell? ⟨w.heap.size, 3, none⟩ = some (.int .i64 s)) (simp [go_sem, *]) ((first | (go_at_call_of 17 k; refine (H1.out _).mono ?_; rintro e w1 ⟨rfl, rfl⟩) | (go_at_call_of 17 s; refine (H2.out _).mono ?_; rintro e w1 ⟨rfl, rfl⟩)))
  all_goals go_wp2_with (first | (go_at_call_of 17 p; refine (H3.out _).mono ?_; rintro e w1 ⟨rfl, rfl⟩) | (go_at_call_of 17 b; refine (H4.out _).mono ?_; rintro e w1 ⟨rfl, rfl⟩))
  all_goals simp [bodyPost, results, Try.results14, go_sem]
  all_goals (repeat (first | exact Below.refl _ _ | apply Below.drew | refine bel_set ?_ (by simp) _ | refine bel_alloc ?_ _))
set_option maxHeartbeats 1000000 in
theorem keepOp_del (k p b s : Int) (hk : I64 k) (hp : I64 p) (hb : I64 b) (hs : I64 s) (n : Nat) (hn : n ≤ 200000000000000) (hi : pickN k 2 = 1) (h0 : 0 < n) (w : World) :
    Calls Try.prog 14 #[.agg #[.int .i64 k, .int .i64 p, .int .i64 b, .int .i64 s], .int .i64 (n : Int)] w fun e w' => e = .returned (.tuple #[.agg #[.int .i64 2, .int .i64 (pickN p n : Int), .int .i64 0, .int .i64 (pickN s 4 : Int)], .bool true]) ∧ Below w.heap.size w w' := by
  have H1 : Hid (∀ W, Calls Try.prog 17 #[.int .i64 k, .int .i64 2] W fun e w' => e = .returned (.int .i64 1) ∧ W = w') := fun W => by have := pick_any k hk 2 (by omega) (by omega) W; rw [hi] at this; exact this
  have H2 : Hid (∀ W, Calls Try.prog 17 #[.int .i64 s, .int .i64 4] W fun e w' => e = .returned (.int .i64 (pickN s 4 : Int)) ∧ W = w') := fun W => pick_any s hs 4 (by omega) (by omega) W
  have H3 : Hid (∀ W, Calls Try.prog 17 #[.int .i64 p, .int .i64 (n : Int)] W fun e w' => e = .returned (.int .i64 (pickN p n : Int)) ∧ W = w') := fun W => pick_any p hp n (by omega) (by omega) W
  have hne : ¬ (n = 0) := by omega
  have hne' : ¬ ((n : Int) = 0) := by omega
  clear hk hp hb hs hi
  go_enter Try.func14, Try.ntmps14
  go_wp2_with fail
  go_region_held3 (fun W => W.cell? ⟨w.heap.size, 0, none⟩ = some (.int .i64 k) ∧ W.cell? ⟨w.heap.size, 3, none⟩ = some (.int .i64 s)) (simp [go_sem, *]) ((first | (go_at_call_of 17 k; refine (H1.out _).mono ?_; rintro e w1 ⟨rfl, rfl⟩) | (go_at_call_of 17 s; refine (H2.out _).mono ?_; rintro e w1 ⟨rfl, rfl⟩)))
  all_goals go_wp2_with (go_at_call_of 17 p; refine (H3.out _).mono ?_; rintro e w1 ⟨rfl, rfl⟩)
  all_goals simp [bodyPost, results, Try.results14, go_sem]
  all_goals (repeat (first | exact Below.refl _ _ | apply Below.drew | refine bel_set ?_ (by simp) _ | refine bel_alloc ?_ _))
set_option maxHeartbeats 1000000 in
theorem keepOp_none (k p b s : Int) (hk : I64 k) (hs : I64 s) (hi : pickN k 2 = 1) (w : World) :
    Calls Try.prog 14 #[.agg #[.int .i64 k, .int .i64 p, .int .i64 b, .int .i64 s], .int .i64 0] w fun e w' => e = .returned (.tuple #[.agg #[.int .i64 2, .int .i64 0, .int .i64 0, .int .i64 (pickN s 4 : Int)], .bool false]) ∧ Below w.heap.size w w' := by
  have H1 : Hid (∀ W, Calls Try.prog 17 #[.int .i64 k, .int .i64 2] W fun e w' => e = .returned (.int .i64 1) ∧ W = w') := fun W => by have := pick_any k hk 2 (by omega) (by omega) W; rw [hi] at this; exact this
  have H2 : Hid (∀ W, Calls Try.prog 17 #[.int .i64 s, .int .i64 4] W fun e w' => e = .returned (.int .i64 (pickN s 4 : Int)) ∧ W = w') := fun W => pick_any s hs 4 (by omega) (by omega) W
  clear hk hs hi
  go_enter Try.func14, Try.ntmps14
  go_wp2_with fail
  go_region_held3 (fun W => W.cell? ⟨w.heap.size, 0, none⟩ = some (.int .i64 k) ∧ W.cell? ⟨w.heap.size, 3, none⟩ = some (.int .i64 s)) (simp [go_sem, *]) ((first | (go_at_call_of 17 k; refine (H1.out _).mono ?_; rintro e w1 ⟨rfl, rfl⟩) | (go_at_call_of 17 s; refine (H2.out _).mono ?_; rintro e w1 ⟨rfl, rfl⟩)))
  all_goals go_wp2
  all_goals simp [bodyPost, results, Try.results14, go_sem]
  all_goals (repeat (first | exact Below.refl _ _ | apply Below.drew | refine bel_set ?_ (by simp) _ | refine bel_alloc ?_ _))
/-- 'op', whatever it is given. -/
theorem keepOp_any (k p b s : Int) (hk : I64 k) (hp : I64 p) (hb : I64 b) (hs : I64 s) (n : Nat) (hn : n ≤ 200000000000000) (w : World) :
    Calls Try.prog 14 #[.agg #[.int .i64 k, .int .i64 p, .int .i64 b, .int .i64 s], .int .i64 (n : Int)] w fun e w' => e = .returned (.tuple #[.agg #[.int .i64 (keepOp k p b s n).k, .int .i64 (keepOp k p b s n).p, .int .i64 (keepOp k p b s n).b, .int .i64 (keepOp k p b s n).s], .bool (keepIs k n)]) ∧ Below w.heap.size w w' := by
  have h2 := pickN_lt k (n := 2) (by omega)
  unfold keepOp keepIs
  by_cases e : pickN k 2 = 0
  · rw [if_pos e, decide_eq_true e, Bool.true_or]
    exact keepOp_ins k p b s hk hp hb hs n hn e w
  · have e1 : pickN k 2 = 1 := by omega
    rw [if_neg e, decide_eq_false e, Bool.false_or]
    by_cases e0 : n = 0
    · subst e0
      rw [if_pos rfl]
      exact keepOp_none k p b s hk hs e1 w
    · rw [if_neg e0, decide_eq_true (show 0 < n by omega)]
      exact keepOp_del k p b s hk hp hb hs n hn e1 (by omega) w
end Go.Proofs.Ytabahmcbhapbiaa
namespace Go.Proofs.Ytabahmcbhapbiaa
open Go.ChangeShapes Go.WideShapes Go.ChangeAt Go.RowKit
set_option linter.unusedVariables false
theorem kown : ownKnob Try.prog.godebug = none := by kernel_rfl
theorem klaid : laidOutB Try.prog = true := by kernel_rfl
theorem kcInt : Try.prog.cellsOf 3 = 1 := by kernel_rfl
theorem kcStr : Try.prog.cellsOf 9 = 1 := by kernel_rfl
theorem kcOp4 : Try.prog.cellsOf 26 = 4 := by kernel_rfl
theorem kreach : reachBytes = 140737488351232 := by kernel_rfl
theorem klist4 {α : Type} : ∀ {l : List α}, l.length = 4 → ∃ a b c d, l = [a, b, c, d]
  | [a, b, c, d], _ => ⟨a, b, c, d, rfl⟩
theorem i64_wf {n : Int} (h : (Lit.int .i64 n).wf = true) : I64 n := by
  have e1 : IntKind.i64.min = -9223372036854775808 := by decide
  have e2 : IntKind.i64.max = 9223372036854775807 := by decide
  simp [Lit.wf, e1, e2] at h
  exact h
section
variable {H : Type} {enc : TypeId × Value → H} {w : World} {base : Nat} {spare : Nat → Bool} {held : Bool}
theorem kopen_op4 {fuel : Nat} {cs : List Value} {x : DataW H × List MemPlace} (h : DataW.trod enc Try.prog w base spare held fuel 26 cs = some x) :
    ∃ k p b s : Int, cs = [.int .i64 k, .int .i64 p, .int .i64 b, .int .i64 s] ∧ I64 k ∧ I64 p ∧ I64 b ∧ I64 s := by
  obtain ⟨xs, n, rfl, rfl, hl, hxl, hf⟩ := DataW.trod_struct Try.underlying26 h
  rw [kcOp4] at hl
  have hx : xs.length = 4 := hxl
  obtain ⟨y0, e0⟩ : ∃ y, xs[0]? = some y := ⟨_, List.getElem?_eq_getElem (by omega)⟩
  obtain ⟨y1, e1⟩ : ∃ y, xs[1]? = some y := ⟨_, List.getElem?_eq_getElem (by omega)⟩
  obtain ⟨y2, e2⟩ : ∃ y, xs[2]? = some y := ⟨_, List.getElem?_eq_getElem (by omega)⟩
  obtain ⟨y3, e3⟩ : ∃ y, xs[3]? = some y := ⟨_, List.getElem?_eq_getElem (by omega)⟩
  have g0 : DataW.trod enc Try.prog w base spare held n 3 ((cs.drop 0).take (Try.prog.cellsOf 3)) = xs[0]? := hf 0 _ rfl
  have g1 : DataW.trod enc Try.prog w base spare held n 3 ((cs.drop 1).take (Try.prog.cellsOf 3)) = xs[1]? := hf 1 _ rfl
  have g2 : DataW.trod enc Try.prog w base spare held n 3 ((cs.drop 2).take (Try.prog.cellsOf 3)) = xs[2]? := hf 2 _ rfl
  have g3 : DataW.trod enc Try.prog w base spare held n 3 ((cs.drop 3).take (Try.prog.cellsOf 3)) = xs[3]? := hf 3 _ rfl
  rw [kcInt] at g0 g1 g2 g3
  obtain ⟨k, hk, _, wk⟩ := DataW.trod_int Try.underlying3 (g0.trans e0)
  obtain ⟨p, hp, _, wp⟩ := DataW.trod_int Try.underlying3 (g1.trans e1)
  obtain ⟨b, hb, _, wb⟩ := DataW.trod_int Try.underlying3 (g2.trans e2)
  obtain ⟨s, hs, _, ws⟩ := DataW.trod_int Try.underlying3 (g3.trans e3)
  obtain ⟨c0, c1, c2, c3, rfl⟩ := klist4 hl
  simp at hk hp hb hs
  exact ⟨k, p, b, s, by rw [hk, hp, hb, hs], i64_wf wk, i64_wf wp, i64_wf wb, i64_wf ws⟩
end
end Go.Proofs.Ytabahmcbhapbiaa
