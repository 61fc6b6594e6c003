import Derived.Test.YtomeaiffpeibhaaDevDown
namespace Go.Proofs.Ytomeaiffpeibhaa
open Go.RowKit Go.Lib
set_option linter.unusedVariables false
section
variable {w w' : World} {mb : Nat} {m : Moo} {L : DLay} {own : Nat → Option Nat}
theorem opNothing_any (s : Int) (w : World) : Calls Try.prog 90 #[.int .i64 s] w fun e w' => e = .returned (.agg #[.int .i64 0, .int .i64 0, .int .i64 0, .int .i64 s]) ∧ Below w.heap.size w w' := by
  go_enter Try.func90, Try.ntmps90
  go_wp2
  simp [bodyPost, results, Try.results90, go_sem]
  repeat (first | exact Below.refl _ _ | apply Below.drew | refine bel_set ?_ (Nat.le_refl _) _ | refine bel_alloc ?_ _)
/-- A seat sends an op. -/
theorem dsend (h : DevM w mb m L own) (i : Nat) (hi : i < m.n) (z : Op4) (hs : (m.cl i).ts ≤ 1000000000000000000) (hl : ((m.cl i).to.length + 1) * 32 ≤ 140737488355328) (hq : ((m.cl i).dn.length + 1) * 48 ≤ 140737488355328) :
    Calls Try.prog 76 #[.pointer (some ⟨L.eb, i * 5, none⟩), .agg #[.int .i64 z.k, .int .i64 z.p, .int .i64 z.b, .int .i64 z.s]] w fun e w' => e = .returned (.tuple #[]) ∧ Hid (∃ own', DevM w' mb (m.set i (sendS (m.cl i) z)) L own' ∧ DFrm w own w' own') := by
  obtain ⟨go, gq, ⟨⟨vo, vq, he⟩, _⟩, h3, h4⟩ := h.se i hi
  refine (esend_any L.eb (i * 5) (m.cl i).ts (m.cl i).tc vo vq (m.cl i).to (m.cl i).dn go gq z w he hs hl hq).mono ?_
  rintro e w' ⟨rfl, vo', vq', go', gq', he', hk'⟩
  have hko := (h.ko i hi).2
  obtain ⟨hd2, hf2⟩ := h.seatSet hi (x' := sendS (m.cl i) z) h3 h4 hk' ⟨vo', vq', he'⟩ (by simp only [sendS, List.length_append, List.length_singleton]; omega) rfl rfl rfl rfl rfl rfl
  exact ⟨rfl, _, hd2, hf2⟩
set_option maxHeartbeats 1000000 in
theorem tell_other (h : DevM w mb m L own) (i : Nat) (hi : i < m.n) (c : Nat) (hci : c ≠ i) (z : Op4) (hs : (m.cl i).ts ≤ 1000000000000000000) (hl : ((m.cl i).to.length + 1) * 32 ≤ 140737488355328) (hq : ((m.cl i).dn.length + 1) * 48 ≤ 140737488355328) :
    Calls Try.prog 78 #[.pointer (some ⟨L.eb, i * 5, none⟩), .int .i64 (c : Int), .agg #[.int .i64 z.k, .int .i64 z.p, .int .i64 z.b, .int .i64 z.s]] w fun e w' => e = .returned (.tuple #[]) ∧ Hid (∃ own', DevM w' mb (m.set i (sendS (m.cl i) z)) L own' ∧ DFrm w own w' own') := by
  have HS : Hid (∀ W, Below w.heap.size w W → Calls Try.prog 76 #[.pointer (some ⟨L.eb, i * 5, none⟩), .agg #[.int .i64 z.k, .int .i64 z.p, .int .i64 z.b, .int .i64 z.s]] W fun e w' => e = .returned (.tuple #[]) ∧ Hid (∃ own', DevM w' mb (m.set i (sendS (m.cl i) z)) L own' ∧ DFrm w own w' own')) := fun W hW => by
    refine (dsend (h.below hW) i hi z hs hl hq).mono ?_
    rintro e w' ⟨rfl, own', h1, h2⟩
    exact ⟨rfl, own', h1, (DFrm.of_below hW).trans h2⟩
  obtain ⟨go, gq, ⟨⟨vo, vq, he⟩, c4⟩, h3, h4⟩ := h.se i hi
  have le := he.lt
  have hne : ((c : Int) == (i : Int)) = false := by simp; omega
  clear h he hs hl hq
  go_enter Try.func78, Try.ntmps78
  go_wp2_with fail
  go_region_with ((go_at_call 76; refine (HS.out _ (by repeat (first | exact Below.refl _ _ | apply Below.drew | refine bel_alloc ?_ _))).mono ?_; rintro e w3 ⟨rfl, hr3⟩; have HR3 : Hid (∃ own', DevM w3 mb (m.set i (sendS (m.cl i) z)) L own' ∧ DFrm w own w3 own') := hr3; clear hr3))
  all_goals go_wp2
  all_goals simp [bodyPost, results, Try.results78, go_sem]
  all_goals exact HR3.out
set_option maxHeartbeats 1000000 in
theorem tell_own (h : DevM w mb m L own) (i : Nat) (hi : i < m.n) (z : Op4) (hs : (m.cl i).ts ≤ 1000000000000000000) (hl : ((m.cl i).to.length + 1) * 32 ≤ 140737488355328) (hq : ((m.cl i).dn.length + 1) * 48 ≤ 140737488355328) :
    Calls Try.prog 78 #[.pointer (some ⟨L.eb, i * 5, none⟩), .int .i64 (i : Int), .agg #[.int .i64 z.k, .int .i64 z.p, .int .i64 z.b, .int .i64 z.s]] w fun e w' => e = .returned (.tuple #[]) ∧ Hid (∃ own', DevM w' mb (m.set i (sendS (m.cl i) (noop i))) L own' ∧ DFrm w own w' own') := by
  have HS : Hid (∀ W, Below w.heap.size w W → Calls Try.prog 76 #[.pointer (some ⟨L.eb, i * 5, none⟩), .agg #[.int .i64 0, .int .i64 0, .int .i64 0, .int .i64 (i : Int)]] W fun e w' => e = .returned (.tuple #[]) ∧ Hid (∃ own', DevM w' mb (m.set i (sendS (m.cl i) (noop i))) L own' ∧ DFrm w own w' own')) := fun W hW => by
    refine (dsend (h.below hW) i hi (noop i) hs hl hq).mono ?_
    rintro e w' ⟨rfl, own', h1, h2⟩
    exact ⟨rfl, own', h1, (DFrm.of_below hW).trans h2⟩
  obtain ⟨go, gq, ⟨⟨vo, vq, he⟩, c4⟩, h3, h4⟩ := h.se i hi
  have le := he.lt
  have HN : Hid (∀ W, Calls Try.prog 90 #[.int .i64 (i : Int)] W fun e w' => e = .returned (.agg #[.int .i64 0, .int .i64 0, .int .i64 0, .int .i64 (i : Int)]) ∧ Below W.heap.size W w') := fun W => opNothing_any i W
  clear h he hs hl hq
  go_enter Try.func78, Try.ntmps78
  go_wp2_with fail
  refine (HN.out _).mono ?_
  rintro e w1 ⟨rfl, hb1⟩
  have HB : Hid (Below w.heap.size w w1) := bel_trans (bel_alloc (Below.refl _ _) _) hb1
  obtain ⟨hc1, hf1⟩ := bcell hb1
  have k0 := hc1 w.heap.size 0 (by simp)
  have k1 := hc1 w.heap.size 1 (by simp)
  have k2 := hc1 w.heap.size 2 (by simp)
  have k3 := hc1 w.heap.size 3 (by simp)
  have kf := fun j => hf1 w.heap.size j (by simp)
  simp [go_sem] at k0 k1 k2 k3 kf
  clear hc1 hf1 hb1
  go_wp2_with fail
  go_region_with ((go_at_call 76; refine (HS.out _ (by apply Below.drew; exact bel_set (bel_set (bel_set (bel_set HB.out (p := ⟨w.heap.size, 0, none⟩) (Nat.le_refl _) _) (p := ⟨w.heap.size, 1, none⟩) (Nat.le_refl _) _) (p := ⟨w.heap.size, 2, none⟩) (Nat.le_refl _) _) (p := ⟨w.heap.size, 3, none⟩) (Nat.le_refl _) _)).mono ?_; rintro e w3 ⟨rfl, hr3⟩; have HR3 : Hid (∃ own', DevM w3 mb (m.set i (sendS (m.cl i) (noop i))) L own' ∧ DFrm w own w3 own') := hr3; clear hr3))
  all_goals go_wp2
  all_goals simp [bodyPost, results, Try.results78, go_sem]
  all_goals exact HR3.out
end
end Go.Proofs.Ytomeaiffpeibhaa
