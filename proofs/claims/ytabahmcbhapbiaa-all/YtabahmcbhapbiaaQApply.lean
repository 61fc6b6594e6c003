import Derived.Test.YtabahmcbhapbiaaQRight
import Derived.Test.YtabahmcbhapbiaaQDo
import Derived.Test.YtabahmcbhapbiaaQDone
namespace Go.Proofs.Ytabahmcbhapbiaa
open Go.RowKit
set_option linter.unusedVariables false

theorem opDo_any (t : ByteArray) (k a b s : Int) (hr : rightB k a b s = true) (hf : fitsB t.size k a = true) (ht : t.size + 1 ≤ 140737488355328) (w : World) :
    Calls Try.prog 34 #[.string t, .agg #[.int .i64 k, .int .i64 a, .int .i64 b, .int .i64 s]] w fun e w' => e = .returned (.string (doneS t k a b)) ∧ Below w.heap.size w w' := by
  rw [rightB_iff] at hr
  rw [fitsB_iff] at hf
  obtain ⟨_, _, ⟨rfl, rfl, rfl⟩ | ⟨rfl, a0, _, b0, b1⟩ | ⟨rfl, a0, _, rfl⟩⟩ := hr
  · exact opDo_nothing t 0 0 0 s w (by omega) rfl rfl
  · obtain ⟨i, rfl⟩ := Int.eq_ofNat_of_zero_le a0
    have hf1 := hf.1 rfl
    refine opDo_insert t i b s w ht (by omega) b0 b1 _ ?_
    show doneS t 1 i b = _
    simp [doneS]
  · obtain ⟨i, rfl⟩ := Int.eq_ofNat_of_zero_le a0
    have hf2 := hf.2 rfl
    refine opDo_delete t i 0 s w (by omega) (by omega) _ ?_
    show doneS t 2 i 0 = _
    simp [doneS]

theorem refDone_any (t : ByteArray) (k a b s : Int) (hr : rightB k a b s = true) (hf : fitsB t.size k a = true) (ht : t.size + 1 ≤ 140737488355328) (w : World) :
    Calls Try.prog 80 #[.string t, .agg #[.int .i64 k, .int .i64 a, .int .i64 b, .int .i64 s]] w fun e w' => e = .returned (.string (doneS t k a b)) ∧ Below w.heap.size w w' := by
  rw [rightB_iff] at hr
  rw [fitsB_iff] at hf
  obtain ⟨_, _, ⟨rfl, rfl, rfl⟩ | ⟨rfl, a0, _, b0, b1⟩ | ⟨rfl, a0, _, rfl⟩⟩ := hr
  · exact refDone_nothing t 0 0 0 s w rfl rfl
  · obtain ⟨i, rfl⟩ := Int.eq_ofNat_of_zero_le a0
    have hf1 := hf.1 rfl
    refine refDone_insert t i b s w ht (by omega) b0 b1 _ ?_
    show doneS t 1 i b = _
    simp [doneS]
  · obtain ⟨i, rfl⟩ := Int.eq_ofNat_of_zero_le a0
    have hf2 := hf.2 rfl
    refine refDone_delete t i 0 s w (by omega) (by omega) _ ?_
    show doneS t 2 i 0 = _
    simp [doneS]

/-- Apply's answer. -/
def okA (t : ByteArray) (k a b s : Int) : Bool := rightB k a b s && fitsB t.size k a
def applyS (t : ByteArray) (k a b s : Int) : ByteArray := if okA t k a b s then doneS t k a b else ⟨#[]⟩

theorem apply_no {t : ByteArray} {k a b s : Int} (h : okA t k a b s = false) : Value.tuple #[.string (applyS t k a b s), .int .i64 (eno (okA t k a b s))] = .tuple #[.string ⟨#[]⟩, .int .i64 2] := by
  simp [applyS, h, eno]
theorem apply_yes {t : ByteArray} {k a b s : Int} (h : okA t k a b s = true) : Value.tuple #[.string (applyS t k a b s), .int .i64 (eno (okA t k a b s))] = .tuple #[.string (doneS t k a b), .int .i64 0] := by
  simp [applyS, h, eno]

set_option maxHeartbeats 1000000 in
theorem mootApply_any (t : ByteArray) (k a b s : Int) (ht : t.size + 1 ≤ 140737488355328) (w : World) :
    Calls Try.prog 16 #[.string t, .agg #[.int .i64 k, .int .i64 a, .int .i64 b, .int .i64 s]] w fun e w' => e = .returned (.tuple #[.string (applyS t k a b s), .int .i64 (eno (okA t k a b s))]) ∧ Below w.heap.size w w' := by
  cases hr : rightB k a b s
  · rw [apply_no (by simp [okA, hr])]
    go_enter Try.func16, Try.ntmps16
    go_wp2_with fail
    refine (opRight_any k a b s _).mono ?_
    rintro e w1 ⟨rfl, hb1⟩
    have HB : Hid (Below w.heap.size w w1) := bel_trans (bel_alloc (Below.refl _ _) _) hb1
    clear hb1
    go_wp2
    go_ret2
    exact ⟨rfl, HB.out⟩
  · cases hf : fitsB t.size k a
    · rw [apply_no (by simp [okA, hf])]
      go_enter Try.func16, Try.ntmps16
      go_wp2_with fail
      refine (opRight_any k a b s _).mono ?_
      rintro e w1 ⟨rfl, hb1⟩
      have HB : Hid (Below w.heap.size w w1) := bel_trans (bel_alloc (Below.refl _ _) _) hb1
      obtain ⟨hc1, hf1⟩ := bcell hb1
      clear hb1 hf1
      go_wp2_with fail
      refine (opFits_any _ k a b s _).mono ?_
      rintro e w2 ⟨rfl, hb2⟩
      have HB2 : Hid (Below w.heap.size w w2) := bel_trans HB.out hb2
      clear hb2 hc1
      go_wp2
      go_ret2
      exact ⟨rfl, HB2.out⟩
    · rw [apply_yes (by simp [okA, hr, hf])]
      have HD := fun W => opDo_any t k a b s hr hf ht W
      have HD' : Hid (∀ W, Calls Try.prog 34 #[.string t, .agg #[.int .i64 k, .int .i64 a, .int .i64 b, .int .i64 s]] W fun e w' => e = .returned (.string (doneS t k a b)) ∧ Below W.heap.size W w') := HD
      clear HD
      go_enter Try.func16, Try.ntmps16
      go_wp2_with fail
      refine (opRight_any k a b s _).mono ?_
      rintro e w1 ⟨rfl, hb1⟩
      have HB : Hid (Below w.heap.size w w1) := bel_trans (bel_alloc (Below.refl _ _) _) hb1
      obtain ⟨hc1, hf1⟩ := bcell hb1
      have hz1 : w.heap.size < w1.heap.size := by have := hb1.size; simp at this; omega
      clear hb1 hf1
      go_wp2_with fail
      refine (opFits_any _ k a b s _).mono ?_
      rintro e w2 ⟨rfl, hb2⟩
      have HB2 : Hid (Below w.heap.size w w2) := bel_trans HB.out hb2
      obtain ⟨hc2, hf2⟩ := bcell hb2
      clear hb2 hf2
      go_wp2_with fail
      refine (HD'.out _).mono ?_
      rintro e w3 ⟨rfl, hb3⟩
      have HB3 : Hid (Below w.heap.size w w3) := bel_trans HB2.out hb3
      clear hb3 hc2 hc1
      go_wp2
      go_ret2
      exact ⟨rfl, HB3.out⟩

set_option maxHeartbeats 1000000 in
theorem refApply_any (t : ByteArray) (k a b s : Int) (ht : t.size + 1 ≤ 140737488355328) (w : World) :
    Calls Try.prog 75 #[.string t, .agg #[.int .i64 k, .int .i64 a, .int .i64 b, .int .i64 s]] w fun e w' => e = .returned (.tuple #[.string (applyS t k a b s), .int .i64 (eno (okA t k a b s))]) ∧ Below w.heap.size w w' := by
  cases hr : rightB k a b s
  · rw [apply_no (by simp [okA, hr])]
    have he := eno_false hr
    go_enter Try.func75, Try.ntmps75
    go_wp2_with fail
    refine (refRight_any k a b s _).mono ?_
    rintro e w1 ⟨rfl, hb1⟩
    have HB : Hid (Below w.heap.size w w1) := bel_trans (bel_alloc (Below.refl _ _) _) hb1
    clear hb1
    rw [he]
    go_wp2
    go_ret2
    exact ⟨rfl, HB.out⟩
  · have he := eno_true hr
    have hk : k = 0 ∨ k = 1 ∨ k = 2 := by rw [rightB_iff] at hr; omega
    have HF : Hid (∀ W, Calls Try.prog 79 #[.string t, .agg #[.int .i64 k, .int .i64 a, .int .i64 b, .int .i64 s]] W fun e w' => e = .returned (.bool (fitsB t.size k a)) ∧ Below W.heap.size W w') := fun W => refFits_any t k a b s hk W
    clear hk
    cases hf : fitsB t.size k a
    · rw [apply_no (by simp [okA, hf])]
      rw [hf] at HF
      go_enter Try.func75, Try.ntmps75
      go_wp2_with fail
      refine (refRight_any k a b s _).mono ?_
      rintro e w1 ⟨rfl, hb1⟩
      have HB : Hid (Below w.heap.size w w1) := bel_trans (bel_alloc (Below.refl _ _) _) hb1
      obtain ⟨hc1, hf1⟩ := bcell hb1
      clear hb1 hf1
      rw [he]
      go_wp2_with fail
      refine (HF.out _).mono ?_
      rintro e w2 ⟨rfl, hb2⟩
      have HB2 : Hid (Below w.heap.size w w2) := bel_trans HB.out hb2
      clear hb2 hc1
      go_wp2
      go_ret2
      exact ⟨rfl, HB2.out⟩
    · rw [apply_yes (by simp [okA, hr, hf])]
      have HD' : Hid (∀ W, Calls Try.prog 80 #[.string t, .agg #[.int .i64 k, .int .i64 a, .int .i64 b, .int .i64 s]] W fun e w' => e = .returned (.string (doneS t k a b)) ∧ Below W.heap.size W w') := fun W => refDone_any t k a b s hr hf ht W
      rw [hf] at HF
      go_enter Try.func75, Try.ntmps75
      go_wp2_with fail
      refine (refRight_any k a b s _).mono ?_
      rintro e w1 ⟨rfl, hb1⟩
      have HB : Hid (Below w.heap.size w w1) := bel_trans (bel_alloc (Below.refl _ _) _) hb1
      obtain ⟨hc1, hf1⟩ := bcell hb1
      have hz1 : w.heap.size < w1.heap.size := by have := hb1.size; simp at this; omega
      clear hb1 hf1
      rw [he]
      go_wp2_with fail
      refine (HF.out _).mono ?_
      rintro e w2 ⟨rfl, hb2⟩
      have HB2 : Hid (Below w.heap.size w w2) := bel_trans HB.out hb2
      obtain ⟨hc2, hf2⟩ := bcell hb2
      clear hb2 hf2
      go_wp2_with fail
      refine (HD'.out _).mono ?_
      rintro e w3 ⟨rfl, hb3⟩
      have HB3 : Hid (Below w.heap.size w w3) := bel_trans HB2.out hb3
      clear hb3 hc2 hc1
      go_wp2
      go_ret2
      exact ⟨rfl, HB3.out⟩
end Go.Proofs.Ytabahmcbhapbiaa
