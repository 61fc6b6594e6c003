import Derived.Test.YtabahmcbhapbiaaQDevDown
namespace Go.Proofs.Ytabahmcbhapbiaa
open Go.RowKit Go.Lib
set_option linter.unusedVariables false
section
variable {w w' : World} {mb : Nat} {m : Moo} {L : DLay} {own : Nat → Option Nat}
/-- The server's text, a client's, or none; what Text answers beside it. -/
def dtextV (m : Moo) (c : Int) : Value := if c = -1 then dstr m.srv else if hasB m.n c = true then dstr (m.cl c.toNat).text else .string ⟨#[]⟩
def dtextE (m : Moo) (c : Int) : Int := if c = -1 then 0 else if hasB m.n c = true then 0 else 1
theorem serverText_any (h : DevM w mb m L own) : Calls Try.prog 35 #[.pointer (some ⟨L.vb, 0, none⟩)] w fun e w' => e = .returned (dstr m.srv) ∧ w = w' := by
  have v0 := h.v0
  clear h
  go_enter Try.func35, Try.ntmps35
  go_wp2
  go_ret
  exact ⟨rfl, rfl⟩
theorem clientText_any (h : DevM w mb m L own) (c : Nat) (hc : c < m.n) : Calls Try.prog 37 #[.pointer (some ⟨L.cb c, 0, none⟩)] w fun e w' => e = .returned (dstr (m.cl c).text) ∧ w = w' := by
  obtain ⟨go, gq, h1, _, _, _⟩ := h.cl c hc
  have v0 := h1.c5
  clear h h1
  go_enter Try.func37, Try.ntmps37
  go_wp2
  go_ret
  exact ⟨rfl, rfl⟩
set_option maxHeartbeats 1000000 in
theorem devText_srv (h : DevM w mb m L own) :
    Calls Try.prog 20 #[.pointer (some ⟨mb, 0, none⟩), .int .i64 (-1)] w fun e w' => e = .returned (.tuple #[dstr m.srv, .int .i64 0]) ∧ w = w' := by
  have HS := hidP (serverText_any h)
  have m0 := h.m0
  clear h
  go_enter Try.func20, Try.ntmps20
  go_wp2_with (go_at_call 35; refine HS.out.mono ?_; rintro e w1 ⟨rfl, rfl⟩)
  go_ret2
  exact ⟨rfl, rfl⟩
set_option maxHeartbeats 1000000 in
theorem devText_cli (h : DevM w mb m L own) (c : Nat) (hc : c < m.n) :
    Calls Try.prog 20 #[.pointer (some ⟨mb, 0, none⟩), .int .i64 (c : Int)] w fun e w' => e = .returned (.tuple #[dstr (m.cl c).text, .int .i64 0]) ∧ w = w' := by
  have HS := hidP (clientText_any h c hc)
  have HH : Hid (Calls Try.prog 36 #[.pointer (some ⟨mb, 0, none⟩), .int .i64 (c : Int)] w fun e w' => e = .returned (.bool true) ∧ w = w') := by rw [← hasB_nat hc]; exact has_any h c
  have m1 := h.m1
  have kp := h.kp c hc
  have hc' : (c : Int) < (m.n : Int) := by omega
  have hne : ((c : Int) == -1) = false := by simp
  clear h
  go_enter Try.func20, Try.ntmps20
  go_wp2_with (first | (go_at_call 36; refine HH.out.mono ?_; rintro e w1 ⟨rfl, rfl⟩) | (go_at_call 37; refine HS.out.mono ?_; rintro e w1 ⟨rfl, rfl⟩))
  go_ret2
  exact ⟨rfl, rfl⟩
set_option maxHeartbeats 1000000 in
theorem devText_no (h : DevM w mb m L own) (c : Int) (hc : hasB m.n c = false) (hne : (c == -1) = false) :
    Calls Try.prog 20 #[.pointer (some ⟨mb, 0, none⟩), .int .i64 c] w fun e w' => e = .returned (.tuple #[.string ⟨#[]⟩, .int .i64 1]) ∧ w = w' := by
  have HH : Hid (Calls Try.prog 36 #[.pointer (some ⟨mb, 0, none⟩), .int .i64 c] w fun e w' => e = .returned (.bool false) ∧ w = w') := by rw [← hc]; exact has_any h c
  clear h hc
  go_enter Try.func20, Try.ntmps20
  go_wp2_with (go_at_call 36; refine HH.out.mono ?_; rintro e w1 ⟨rfl, rfl⟩)
  go_ret2
  exact ⟨rfl, rfl⟩
theorem devText_any (h : DevM w mb m L own) (c : Int) :
    Calls Try.prog 20 #[.pointer (some ⟨mb, 0, none⟩), .int .i64 c] w fun e w' => e = .returned (.tuple #[dtextV m c, .int .i64 (dtextE m c)]) ∧ w = w' := by
  unfold dtextV dtextE
  by_cases e1 : c = -1
  · subst e1
    rw [if_pos rfl, if_pos rfl]
    exact devText_srv h
  · rw [if_neg e1, if_neg e1]
    by_cases e2 : hasB m.n c = true
    · obtain ⟨k, rfl, hk⟩ := hasB_elim e2
      rw [if_pos e2, if_pos e2]
      exact devText_cli h k hk
    · rw [if_neg e2, if_neg e2]
      exact devText_no h c (by simpa using e2) (by simpa using e1)
end
end Go.Proofs.Ytabahmcbhapbiaa
