import Derived.Test.YtabahmcbhapbiaaQRefM
import Derived.Test.YtabahmcbhapbiaaQApply
namespace Go.Proofs.Ytabahmcbhapbiaa
open Go.RowKit Go.Lib
set_option linter.unusedVariables false

def isB (n : Nat) (c : Int) : Bool := decide (0 ≤ c) && decide (c < (n : Int))
theorem is_any (mb : Nat) (a : Option Addr) (n tc : Nat) (c : Int) (w : World) (h0 : w.cell? ⟨mb, 0, none⟩ = some (.slice a n tc)) :
    Calls Try.prog 78 #[.pointer (some ⟨mb, 0, none⟩), .int .i64 c] w fun e w' => e = .returned (.bool (isB n c)) ∧ w = w' := by
  go_enter Try.func78, Try.ntmps78
  go_wp2
  all_goals go_ret
  · refine ⟨ret_bool ?_, rfl⟩
    unfold isB
    rename_i hc
    rw [decide_eq_true hc, Bool.true_and]
  · refine ⟨ret_bool ?_, rfl⟩
    unfold isB
    rename_i hc
    rw [decide_eq_false (by omega), Bool.false_and]
theorem isB_nat {n c : Nat} (h : c < n) : isB n (c : Int) = true := by unfold isB; simp; omega
theorem isB_elim {n : Nat} {c : Int} (h : isB n c = true) : ∃ k : Nat, c = (k : Int) ∧ k < n := by
  unfold isB at h
  simp at h
  exact ⟨c.toNat, by omega, by omega⟩

/-- The document's 'done', in plain words. -/
theorem done_app (t u : List UInt8) (o : Op4) (hw : Wf o) (ha : app t o = some u) (ht : t.length ≤ 1000) (w : World) :
    Calls Try.prog 80 #[str t, .agg #[.int .i64 o.k, .int .i64 o.p, .int .i64 o.b, .int .i64 o.s]] w fun e w' => e = .returned (str u) ∧ Below w.heap.size w w' := by
  have hsz : (ByteArray.mk t.toArray).size = t.length := by show t.toArray.size = _; simp
  obtain ⟨w0, w1, w2, w3⟩ := hw
  unfold app at ha
  have hfit : (o.k = 1 → o.p ≤ t.length) ∧ (o.k = 2 → o.p < t.length) := by
    refine ⟨fun e => ?_, fun e => ?_⟩
    · rw [if_pos e] at ha
      split at ha
      · omega
      · cases ha
    · rw [if_neg (by omega), if_pos e] at ha
      split at ha
      · omega
      · cases ha
  have hd : (⟨u.toArray⟩ : ByteArray) = doneS ⟨t.toArray⟩ o.k o.p o.b := by
    unfold doneS
    by_cases e1 : o.k = 1
    · rw [if_pos e1] at ha ⊢
      rw [if_pos (by have := hfit.1 e1; omega)] at ha
      cases ha
      simp [ins]
    · rw [if_neg e1] at ha ⊢
      by_cases e2 : o.k = 2
      · rw [if_pos e2] at ha ⊢
        rw [if_pos (by have := hfit.2 e2; omega)] at ha
        cases ha
        simp [del]
      · rw [if_neg e2] at ha ⊢
        cases ha
        rfl
  show Calls Try.prog 80 #[.string ⟨t.toArray⟩, _] w fun e w' => e = .returned (.string ⟨u.toArray⟩) ∧ _
  rw [hd]
  exact refDone_any ⟨t.toArray⟩ o.k o.p o.b o.s (by rw [rightB_iff]; have h1 := hfit.1; have h2 := hfit.2; omega) (by rw [fitsB_iff, hsz]; exact hfit) (by rw [hsz]; omega) w

section
variable {w w' W1 : World} {mb : Nat} {m : Moo} {L : Lay} {own : Nat → Option Slot}
/-- The server's text, a client's, or none. -/
def textV (m : Moo) (c : Int) : Value := if c = -1 then str m.srv else if isB m.n c = true then str (m.cl c.toNat).text else .string ⟨#[]⟩
def textE (m : Moo) (c : Int) : Int := if c = -1 then 0 else if isB m.n c = true then 0 else 1
theorem refText_any (h : RefM w mb m L own) (c : Int) :
    Calls Try.prog 55 #[.pointer (some ⟨mb, 0, none⟩), .int .i64 c] w fun e w' => e = .returned (.tuple #[textV m c, .int .i64 (textE m c)]) ∧ w' = w := by
  obtain ⟨⟨a0, a1, a2, a3, a4, a5, a6⟩, f⟩ := h.pc 0 0 (fun _ => rfl)
  have hm := h.o0
  have HT := (h.pc 1 0 (fun _ => rfl)).1
  have hi := is_any mb (some ⟨L.tb, 0, none⟩) m.n L.tcap c w a0
  by_cases e1 : c = -1
  · subst e1
    clear hi HT
    go_enter Try.func55, Try.ntmps55
    go_wp2
    go_ret2
    exact ⟨rfl, rfl⟩
  · by_cases e2 : isB m.n c = true
    · obtain ⟨k, rfl, hk⟩ := isB_elim e2
      have ht := HT k hk
      rw [e2] at hi
      have HI2 : Hid (Calls Try.prog 78 #[.pointer (some ⟨mb, 0, none⟩), .int .i64 (k : Int)] w fun e w' => e = .returned (.bool true) ∧ w = w') := hi
      have hv : textV m (k : Int) = str (m.cl k).text := by unfold textV; rw [if_neg e1, if_pos e2]; rfl
      have he : textE m (k : Int) = 0 := by unfold textE; rw [if_neg e1, if_pos e2]
      rw [hv, he]
      have hk' : (k : Int) < (m.n : Int) := by omega
      clear hi HT hv he
      go_enter Try.func55, Try.ntmps55
      go_wp2_with (go_at_call 78; refine HI2.out.mono ?_; rintro e w1 ⟨rfl, rfl⟩)
      go_ret2
      exact ⟨rfl, rfl⟩
    · have e3 : isB m.n c = false := by simpa using e2
      rw [e3] at hi
      have HI2 : Hid (Calls Try.prog 78 #[.pointer (some ⟨mb, 0, none⟩), .int .i64 c] w fun e w' => e = .returned (.bool false) ∧ w = w') := hi
      have hv : textV m c = .string ⟨#[]⟩ := by unfold textV; rw [if_neg e1, if_neg e2]
      have he : textE m c = 1 := by unfold textE; rw [if_neg e1, if_neg e2]
      rw [hv, he]
      clear hi HT hv he
      go_enter Try.func55, Try.ntmps55
      go_wp2_with (go_at_call 78; refine HI2.out.mono ?_; rintro e w1 ⟨rfl, rfl⟩)
      go_ret2
      exact ⟨rfl, rfl⟩
end
end Go.Proofs.Ytabahmcbhapbiaa
