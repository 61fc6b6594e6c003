import Derived.Test.YtabahmcbhapbiaaQDevCalls
import Derived.Deep.RegionLawGrows
import Derived.Lib.SliceRun
namespace Go.Proofs.Ytabahmcbhapbiaa
open Go.RowKit Go.Lib
set_option linter.unusedVariables false
set_option maxRecDepth 100000 in
/-- slices.Clone of a list of ops. -/
theorem clone4_any (v : Value) (l : List Op4) (g : Option Nat) (w : World) (h : RowQ w 4 v (flat4 l) g) (hl : l.length * 32 ≤ 140737488355328) :
    Calls Try.prog 67 #[v] w fun e w' => ∃ v' g', e = .returned v' ∧ Hid ((∃ a c, v' = .slice a l.length c) ∧ RowQ w' 4 v' (flat4 l) g' ∧ Below w.heap.size w w' ∧ ∀ k, g' = some k → w.heap.size ≤ k) := by
  rcases h with ⟨rfl, h2, h3⟩ | ⟨gb, off, n, cap, hg, rfl, h3, h4, h5, h6, h7, h8⟩
  · have e0 : l = [] := by
      have := congrArg List.length h2
      rw [flat4_len] at this
      exact List.length_eq_zero_iff.1 (by simp only [List.length_nil] at this; omega)
    subst e0
    clear h2 h3 hl
    have hu : ∀ (w : World) (a : Option Addr) (n c n' c' : Nat), (binOp .eql 49 (.slice a n c) (.slice none n' c')).run Try.prog w = .ok (.bool a.isNone) w := fun w a n c n' c' => Lib.run_eql_slice_nil w _ _ a n c n' c' Try.underlying49
    go_enter Try.func67, Try.ntmps67
    go_wp2
    go_ret
    exact ⟨_, none, rfl, ⟨none, 0, rfl⟩, RowQ.nil _ _, Below.refl _ _, fun k e => (by cases e)⟩
  · have e0 : n = l.length := by rw [flat4_len] at h3; omega
    subst e0
    have hq : RowQ w 4 (.slice (some ⟨gb, off, none⟩) l.length cap) (flat4 l) (some gb) := Or.inr ⟨gb, off, l.length, cap, rfl, rfl, flat4_len l, h4, h5, h6, h7, h8⟩
    have HA : Hid (∃ v' W', (∀ ty, (Builtin.append_ #[49, 49] ty #[.slice (some ⟨w.heap.size, 0, none⟩) 0 0, .slice (some ⟨gb, off, none⟩) l.length cap]).run Try.prog (w.alloc (.cells #[] 26)) = .ok v' W') ∧
        ((∃ a n c, v' = .slice a n c) ∧ ∃ g', (∃ a c, v' = .slice a l.length c) ∧ RowQ W' 4 v' (flat4 l) g' ∧ Below w.heap.size w W' ∧ ∀ k, g' = some k → w.heap.size ≤ k)) := by
      have q0 : RowQ (w.alloc (.cells #[] 26)) 4 (.slice (some ⟨w.heap.size, 0, none⟩) 0 0) (flat4 []) (some w.heap.size) := Or.inr ⟨w.heap.size, 0, 0, 0, rfl, rfl, rfl, Nat.le_refl _, by omega, by simp, fun j x hj => (by cases hj), fun j hj => by omega⟩
      have hq1 := hq.keep (w' := w.alloc (.cells #[] 26)) (F := fun _ => False) ((KeptX.refl _ _).alloc _) (fun _ _ e => e)
      obtain ⟨v', W', e1, g1, q1, k1, d1⟩ := rowq_append (P := Try.prog) (t := 49) (tx := 49) _ Try.underlying49 infoOp4 rfl (by decide) q0 (rowq_src Try.underlying49 hq1) (N := l.length) (by rw [flat4_len, flat4_len]; simp) hl (by omega)
      rw [show flat4 [] ++ flat4 l = flat4 l from rfl] at q1
      obtain ⟨a, c, hv⟩ := rowq_len q1
      have hb : Below w.heap.size w W' := ⟨k1.os, k1.tape, k1.output, by have := k1.size; simp at this; omega, fun k hk => (k1.block k (by simp; omega) (fun e => by cases e; omega)).trans (Below.heap_alloc _ _ _ hk)⟩
      refine ⟨v', W', e1, ⟨_, _, _, hv⟩, g1, ⟨a, c, hv⟩, q1, hb, fun k e => ?_⟩
      rcases d1 with d | d
      · rw [d] at e; cases e; exact Nat.le_refl _
      · rw [d] at e; cases e; simp
    clear hq h3 h4 h5 h7 h8 hg
    have hu : ∀ (w : World) (a : Option Addr) (n c n' c' : Nat), (binOp .eql 49 (.slice a n c) (.slice none n' c')).run Try.prog w = .ok (.bool a.isNone) w := fun w a n c n' c' => Lib.run_eql_slice_nil w _ _ a n c n' c' Try.underlying49
    go_enter Try.func67, Try.ntmps67
    go_wp2_with (at_builtin; go_must (refine wpList_append_ex _ rfl _ _ _ _ rfl _ _ rfl rfl _ HA.out ?_; rintro v1 W1 ⟨⟨a1, n1, c1, rfl⟩, hw1⟩; have HW := hidP hw1; clear hw1))
    go_ret
    obtain ⟨g', hw⟩ := HW.out
    exact ⟨_, g', rfl, hw⟩
section
variable {w w' : World} {mb : Nat} {m : Moo} {L : DLay} {own : Nat → Option Nat}
theorem waiting_any (b o s c : Nat) (vo vq : Value) (l : List Op4) (q : List Msg) (go gq : Option Nat) (w : World) (h : EndAt w b o s c vo vq l q go gq) :
    Calls Try.prog 38 #[.pointer (some ⟨b, o, none⟩)] w fun e w' => e = .returned (.int .i64 (q.length : Int)) ∧ w = w' := by
  obtain ⟨ua, uc, rfl⟩ := rowq6_len h.qq
  have c3 := h.c3
  clear h
  go_enter Try.func38, Try.ntmps38
  go_wp2
  go_ret
  exact ⟨rfl, rfl⟩
theorem open_any (b o s c : Nat) (vo vq : Value) (l : List Op4) (q : List Msg) (go gq : Option Nat) (w : World) (h : EndAt w b o s c vo vq l q go gq) (hl : l.length * 32 ≤ 140737488355328) :
    Calls Try.prog 40 #[.pointer (some ⟨b, o, none⟩)] w fun e w' => ∃ v' g', e = .returned v' ∧ Hid ((∃ a c, v' = .slice a l.length c) ∧ RowQ w' 4 v' (flat4 l) g' ∧ Below w.heap.size w w' ∧ ∀ k, g' = some k → w.heap.size ≤ k) := by
  have HC := hidP (clone4_any vo l go w h.qo hl)
  have c2 := h.c2
  obtain ⟨va, vc, rfl⟩ := rowq_len h.qo
  clear h hl
  go_enter Try.func40, Try.ntmps40
  go_wp2_with fail
  refine HC.out.mono ?_
  rintro e w1 ⟨v', g', rfl, hh⟩
  have HH := hidP hh
  obtain ⟨⟨a, c, rfl⟩, _⟩ := hh
  go_wp2
  go_ret
  exact ⟨_, g', rfl, HH.out⟩
theorem swaiting_any (h : DevM w mb m L own) (c : Nat) (hc : c < m.n) : Calls Try.prog 39 #[.pointer (some ⟨L.vb, 0, none⟩), .int .i64 (c : Int)] w fun e w' => e = .returned (.int .i64 ((m.cl c).dn.length : Int)) ∧ w = w' := by
  obtain ⟨go, gq, ⟨⟨vo, vq, he⟩, _⟩, _, _⟩ := h.se c hc
  have HW := hidP (waiting_any L.eb (c * 5) (m.cl c).ts (m.cl c).tc vo vq (m.cl c).tq (m.cl c).dn go gq w he)
  have v1 := h.v1
  have hc' : (c : Int) < (m.n : Int) := by omega
  clear h he
  go_enter Try.func39, Try.ntmps39
  go_wp2_with (go_at_call 38; refine HW.out.mono ?_; rintro e w1 ⟨rfl, rfl⟩)
  go_ret
  exact ⟨rfl, rfl⟩
set_option maxHeartbeats 1000000 in
theorem devLook_ok (h : DevM w mb m L own) (c : Nat) (hc : c < m.n) (hl : (m.cl c).ho.length * 32 ≤ 140737488355328) :
    Calls Try.prog 21 #[.pointer (some ⟨mb, 0, none⟩), .int .i64 (c : Int)] w fun e w' => ∃ a cc g', e = .returned (.tuple #[.agg #[.int .i64 ((m.cl c).up.length : Int), .int .i64 ((m.cl c).dn.length : Int), .slice a (m.cl c).ho.length cc], .int .i64 0]) ∧ Hid (RowQ w' 4 (.slice a (m.cl c).ho.length cc) (flat4 (m.cl c).ho) g' ∧ Below w.heap.size w w' ∧ ∀ k, g' = some k → w.heap.size ≤ k) := by
  have HH : Hid (∀ W, Below w.heap.size w W → Calls Try.prog 36 #[.pointer (some ⟨mb, 0, none⟩), .int .i64 (c : Int)] W fun e w' => e = .returned (.bool true) ∧ W = w') := fun W hW => by rw [← hasB_nat hc]; exact has_any (h.below hW) c
  have HW : Hid (∀ W, Below w.heap.size w W → Calls Try.prog 38 #[.pointer (some ⟨L.cb c, 0, none⟩)] W fun e w' => e = .returned (.int .i64 ((m.cl c).up.length : Int)) ∧ W = w') := fun W hW => by
    obtain ⟨go, gq, ⟨⟨vo, vq, he⟩, _, _⟩, _, _, _⟩ := (h.below hW).cl c hc
    exact waiting_any _ _ _ _ _ _ _ _ _ _ W he
  have HS : Hid (∀ W, Below w.heap.size w W → Calls Try.prog 39 #[.pointer (some ⟨L.vb, 0, none⟩), .int .i64 (c : Int)] W fun e w' => e = .returned (.int .i64 ((m.cl c).dn.length : Int)) ∧ W = w') := fun W hW => swaiting_any (h.below hW) c hc
  have HO : Hid (∀ W, Below w.heap.size w W → Calls Try.prog 40 #[.pointer (some ⟨L.cb c, 0, none⟩)] W fun e w' => ∃ v' g', e = .returned v' ∧ Hid ((∃ a cc, v' = .slice a (m.cl c).ho.length cc) ∧ RowQ w' 4 v' (flat4 (m.cl c).ho) g' ∧ Below W.heap.size W w' ∧ ∀ k, g' = some k → W.heap.size ≤ k)) := fun W hW => by
    obtain ⟨go, gq, ⟨⟨vo, vq, he⟩, _, _⟩, _, _, _⟩ := (h.below hW).cl c hc
    exact open_any _ _ _ _ _ _ _ _ _ _ W he hl
  have m0 := h.m0
  have m1 := h.m1
  have kp := h.kp c hc
  have lm := h.lto h.o0
  have lk := h.lto h.o2
  have hc' : (c : Int) < (m.n : Int) := by omega
  clear h hl
  go_enter Try.func21, Try.ntmps21
  go_wp2_with (go_at_call 36; refine (HH.out _ (by repeat (first | exact Below.refl _ _ | apply Below.drew | refine bel_alloc ?_ _))).mono ?_; rintro e w1 ⟨rfl, rfl⟩)
  go_region_with ((first | (go_at_call 38; refine (HW.out _ (by repeat (first | exact Below.refl _ _ | apply Below.drew | refine bel_alloc ?_ _))).mono ?_; rintro e w1 ⟨rfl, rfl⟩) | (go_at_call 39; refine (HS.out _ (by repeat (first | exact Below.refl _ _ | apply Below.drew | refine bel_alloc ?_ _))).mono ?_; rintro e w1 ⟨rfl, rfl⟩) | (go_at_call 40; refine (HO.out _ (by repeat (first | exact Below.refl _ _ | apply Below.drew | refine bel_alloc ?_ _))).mono ?_; rintro e w2 ⟨v2, g2, rfl, ⟨⟨a2, c2, rfl⟩, hq2, hb2, hg2⟩⟩; have HF : Hid (RowQ w2 4 (.slice a2 (m.cl c).ho.length c2) (flat4 (m.cl c).ho) g2 ∧ Below w.heap.size w w2 ∧ ∀ k, g2 = some k → w.heap.size < k) := ⟨hq2, bel_trans (by repeat (first | exact Below.refl _ _ | apply Below.drew | refine bel_alloc ?_ _)) hb2, fun k e => Nat.lt_of_lt_of_le (by simp) (hg2 k e)⟩; obtain ⟨hcX, hfX⟩ := bcell hb2; have p0 := hcX w.heap.size 0 (by simp); have p1 := hcX w.heap.size 1 (by simp); have p2 := hcX w.heap.size 2 (by simp); have pf := fun j => hfX w.heap.size j (by simp); clear hq2 hb2 hg2 hcX hfX; simp [go_sem] at p0 p1 p2 pf)))
  all_goals go_wp2
  all_goals simp [bodyPost, results, Try.results21, go_sem, p0, p1, p2]
  all_goals
    obtain ⟨hq, hb, hg⟩ := HF.out
    refine ⟨a2, c2, ⟨rfl, rfl⟩, g2, hq.keep (F := fun k => k = w.heap.size) ((((KeptX.refl (fun k => k = w.heap.size) _).setCell (p := ⟨w.heap.size, 0, none⟩) (fun _ => rfl) _).setCell (p := ⟨w.heap.size, 1, none⟩) (fun _ => rfl) _).setCell (p := ⟨w.heap.size, 2, none⟩) (fun _ => rfl) _) (fun k e e2 => by have := hg k e; omega), bel_set (bel_set (bel_set hb (p := ⟨w.heap.size, 0, none⟩) (Nat.le_refl _) _) (p := ⟨w.heap.size, 1, none⟩) (Nat.le_refl _) _) (p := ⟨w.heap.size, 2, none⟩) (Nat.le_refl _) _, fun k e => Nat.le_of_lt (hg k e)⟩
end
end Go.Proofs.Ytabahmcbhapbiaa
