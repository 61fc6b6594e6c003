import Derived.Test.YtabahmcbhapbiaaPlain
namespace Go.Proofs.Ytabahmcbhapbiaa
open Go.RowKit
set_option linter.unusedVariables false

set_option maxHeartbeats 1000000 in
theorem step_plain (wb : Nat) (kd on aa : Int) (t : ByteArray) (xk xp xb xs yk yp yb ys : Int) (w : World) (hk : kd = 1 ∨ kd = 2 ∨ kd = 3)
    (HP : Hid (∀ W, Calls Try.prog 48 #[.agg #[.int .i64 kd, .int .i64 on, .int .i64 aa, .string t, .int .i64 xk, .int .i64 xp, .int .i64 xb, .int .i64 xs, .int .i64 yk, .int .i64 yp, .int .i64 yb, .int .i64 ys]] W fun e w' => e = .returned (.bool true) ∧ Below W.heap.size W w')) :
    Calls Try.prog 28 #[.pointer (some ⟨wb, 0, none⟩), .agg #[.int .i64 kd, .int .i64 on, .int .i64 aa, .string t, .int .i64 xk, .int .i64 xp, .int .i64 xb, .int .i64 xs, .int .i64 yk, .int .i64 yp, .int .i64 yb, .int .i64 ys]] w fun e w' => e = .returned (.bool true) ∧ Below w.heap.size w w' := by
  rcases hk with rfl | rfl | rfl
  all_goals
    go_enter Try.func28, Try.ntmps28
    go_wp2_with (go_at_call 48; refine (HP.out _).mono ?_; rintro e w1 ⟨rfl, hb1⟩)
    go_ret
    exact ⟨rfl, bel_trans (bel_alloc (Below.refl _ _) _) hb1⟩

set_option maxHeartbeats 1000000 in
theorem step_other (wb : Nat) (kd on aa : Int) (t : ByteArray) (xk xp xb xs yk yp yb ys : Int) (w : World) (h1 : (kd == 1) = false) (h2 : (kd == 2) = false) (h3 : (kd == 3) = false) (h4 : (kd == 4) = false)
    (hb : wb < w.heap.size) (hc : w.cell? ⟨wb, 0, none⟩ = some (.slice none 0 0)) :
    Calls Try.prog 28 #[.pointer (some ⟨wb, 0, none⟩), .agg #[.int .i64 kd, .int .i64 on, .int .i64 aa, .string t, .int .i64 xk, .int .i64 xp, .int .i64 xb, .int .i64 xs, .int .i64 yk, .int .i64 yp, .int .i64 yb, .int .i64 ys]] w fun e w' => e = .returned (.bool true) ∧ Below w.heap.size w w' := by
  go_enter Try.func28, Try.ntmps28
  go_wp2_with fail
  all_goals go_ret
  all_goals exact ⟨rfl, bel_alloc (Below.refl _ _) _⟩

/-- One step of a script up to Turn, on a world without moots: as the document says. -/
theorem step_any (wb : Nat) (kd on aa : Int) (t : ByteArray) (xk xp xb xs yk yp yb ys : Int) (w : World) (hk : kd ≤ 3) (ht : t.size + 1 ≤ 140737488355328)
    (hb : wb < w.heap.size) (hc : w.cell? ⟨wb, 0, none⟩ = some (.slice none 0 0)) :
    Calls Try.prog 28 #[.pointer (some ⟨wb, 0, none⟩), .agg #[.int .i64 kd, .int .i64 on, .int .i64 aa, .string t, .int .i64 xk, .int .i64 xp, .int .i64 xb, .int .i64 xs, .int .i64 yk, .int .i64 yp, .int .i64 yb, .int .i64 ys]] w fun e w' => e = .returned (.bool true) ∧ Below w.heap.size w w' := by
  by_cases h1 : kd = 1
  · subst h1; exact step_plain wb 1 on aa t xk xp xb xs yk yp yb ys w (Or.inl rfl) (fun W => plain_right on aa t xk xp xb xs yk yp yb ys W)
  by_cases h2 : kd = 2
  · subst h2; exact step_plain wb 2 on aa t xk xp xb xs yk yp yb ys w (Or.inr (Or.inl rfl)) (fun W => plain_apply on aa t xk xp xb xs yk yp yb ys ht W)
  by_cases h3 : kd = 3
  · subst h3; exact step_plain wb 3 on aa t xk xp xb xs yk yp yb ys w (Or.inr (Or.inr rfl)) (fun W => plain_turn 3 on aa t xk xp xb xs yk yp yb ys rfl rfl W)
  exact step_other wb kd on aa t xk xp xb xs yk yp yb ys w (beq_eq_false_iff_ne.2 h1) (beq_eq_false_iff_ne.2 h2) (beq_eq_false_iff_ne.2 h3) (beq_eq_false_iff_ne.2 (by omega)) hb hc

set_option maxHeartbeats 1000000 in
/-- No list has come out. -/
theorem looks_none (wb : Nat) (w : World) (hc : w.cell? ⟨wb, 1, none⟩ = some (.slice none 0 0)) :
    Calls Try.prog 29 #[.pointer (some ⟨wb, 0, none⟩)] w fun e w' => e = .returned (.bool true) ∧ w' = w := by
  go_enter Try.func29, Try.ntmps29
  go_wp2
  go_loop [3] (fun i => i = .int .i64 0) (fun _ => 0)
  case atStart => rfl
  case round =>
    subst hrel
    go_wp2
    go_ret
    exact ⟨rfl, rfl⟩
end Go.Proofs.Ytabahmcbhapbiaa
