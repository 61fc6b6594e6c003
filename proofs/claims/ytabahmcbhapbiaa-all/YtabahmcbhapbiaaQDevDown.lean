import Derived.Test.YtabahmcbhapbiaaQDevCalls
namespace Go.Proofs.Ytabahmcbhapbiaa
open Go.RowKit Go.Lib
set_option linter.unusedVariables false
section
variable {w w' : World} {mb : Nat} {m : Moo} {L : DLay} {own : Nat → Option Nat}
set_option maxHeartbeats 1000000 in
theorem devDown_arg (h : DevM w mb m L own) (c : Int) (hc : hasB m.n c = false) :
    Calls Try.prog 27 #[.pointer (some ⟨mb, 0, none⟩), .int .i64 c] w fun e w' => e = .returned (.int .i64 1) ∧ Below w.heap.size w w' := by
  have HH : Hid (∀ W, Below w.heap.size w W → Calls Try.prog 36 #[.pointer (some ⟨mb, 0, none⟩), .int .i64 c] W fun e w' => e = .returned (.bool false) ∧ W = w') := fun W hW => by rw [← hc]; exact has_any (h.below hW) c
  clear h hc
  go_enter Try.func27, Try.ntmps27
  go_wp2_with fail
  refine (HH.out _ (by repeat (first | exact Below.refl _ _ | apply Below.drew | refine bel_alloc ?_ _))).mono ?_
  rintro e w1 ⟨rfl, rfl⟩
  go_wp2
  go_ret
  exact ⟨rfl, by repeat (first | exact Below.refl _ _ | apply Below.drew | refine bel_alloc ?_ _)⟩
set_option maxHeartbeats 1000000 in
theorem devUp_arg (h : DevM w mb m L own) (c : Int) (hc : hasB m.n c = false) :
    Calls Try.prog 25 #[.pointer (some ⟨mb, 0, none⟩), .int .i64 c] w fun e w' => e = .returned (.int .i64 1) ∧ Below w.heap.size w w' := by
  have HH : Hid (∀ W, Below w.heap.size w W → Calls Try.prog 36 #[.pointer (some ⟨mb, 0, none⟩), .int .i64 c] W fun e w' => e = .returned (.bool false) ∧ W = w') := fun W hW => by rw [← hc]; exact has_any (h.below hW) c
  clear h hc
  go_enter Try.func25, Try.ntmps25
  go_wp2_with fail
  refine (HH.out _ (by repeat (first | exact Below.refl _ _ | apply Below.drew | refine bel_alloc ?_ _))).mono ?_
  rintro e w1 ⟨rfl, rfl⟩
  go_wp2
  go_ret
  exact ⟨rfl, by repeat (first | exact Below.refl _ _ | apply Below.drew | refine bel_alloc ?_ _)⟩
set_option maxHeartbeats 1000000 in
theorem devDown_none (h : DevM w mb m L own) (c : Nat) (hc : c < m.n) (hd : (m.cl c).dn = []) :
    Calls Try.prog 27 #[.pointer (some ⟨mb, 0, none⟩), .int .i64 (c : Int)] w fun e w' => e = .returned (.int .i64 5) ∧ Below w.heap.size w w' := by
  have HH : Hid (∀ W, Below w.heap.size w W → Calls Try.prog 36 #[.pointer (some ⟨mb, 0, none⟩), .int .i64 (c : Int)] W fun e w' => e = .returned (.bool true) ∧ W = w') := fun W hW => by rw [← hasB_nat hc]; exact has_any (h.below hW) c
  have HN : Hid (∀ W, Below w.heap.size w W → Calls Try.prog 46 #[.pointer (some ⟨L.vb, 0, none⟩), .int .i64 (c : Int)] W fun e w' => e = .returned (.tuple #[.agg #[.int .i64 0, .int .i64 0, .int .i64 0, .int .i64 0, .int .i64 0, .int .i64 0], .bool false]) ∧ Hid (Below W.heap.size W w')) := fun W hW => snext_none (h.below hW) c hc hd
  have m0 := h.m0
  have lm := h.lto h.o0
  clear h hc hd
  go_enter Try.func27, Try.ntmps27
  go_wp2_with fail
  refine (HH.out _ (by repeat (first | exact Below.refl _ _ | apply Below.drew | refine bel_alloc ?_ _))).mono ?_
  rintro e w1 ⟨rfl, rfl⟩
  go_wp2_with fail
  refine (HN.out _ (by repeat (first | exact Below.refl _ _ | apply Below.drew | refine bel_alloc ?_ _))).mono ?_
  rintro e w2 ⟨rfl, hb2⟩
  have HB2 : Hid (Below w.heap.size w w2) := hb2
  clear hb2
  go_wp2
  go_ret
  exact ⟨rfl, by refine bel_trans HB2.out ?_; repeat (first | exact Below.refl _ _ | apply Below.drew | refine bel_alloc ?_ _)⟩
theorem dset_set (m : Moo) (c : Nat) (x y : Cli) : (m.set c x).set c y = m.set c y := by
  unfold Moo.set
  congr 1
  funext i
  simp only
  split <;> rfl
set_option maxHeartbeats 2000000 in
theorem devDown_ok (h : DevM w mb m L own) (c : Nat) (hc : c < m.n) (μ : Msg) (r : List Msg) (hd : (m.cl c).dn = μ :: r) (hk1 : (m.cl c).hk ≤ μ.came) (hk2 : μ.came - (m.cl c).hk ≤ (m.cl c).ho.length) (hs : (m.cl c).hs ≤ 1000000000000000000) (hcc : (m.cl c).hc ≤ 1000000000000000000) (hlen : (m.cl c).ho.length ≤ 10000000000000) (ho : Bd 100000000000000 μ.o) (hl : ∀ y ∈ (m.cl c).ho, Bd 100000000000000 y)
    (t : List UInt8) (ha : app (m.cl c).text (dnO (m.cl c) μ) = some t) (hw : Wf (dnO (m.cl c) μ)) (ht : (m.cl c).text.length ≤ 1000) :
    Calls Try.prog 27 #[.pointer (some ⟨mb, 0, none⟩), .int .i64 (c : Int)] w fun e w' => e = .returned (.int .i64 0) ∧ Hid (∃ own', DevM w' mb (m.set c (takeC (m.cl c) μ r t)) L own' ∧ DFrm w own w' own') := by
  have HH : Hid (∀ W, Below w.heap.size w W → Calls Try.prog 36 #[.pointer (some ⟨mb, 0, none⟩), .int .i64 (c : Int)] W fun e w' => e = .returned (.bool true) ∧ W = w') := fun W hW => by rw [← hasB_nat hc]; exact has_any (h.below hW) c
  have HN := hidP (snext_some h c hc μ r hd)
  have HCm : Hid (∀ w1, (∃ own', DevM w1 mb (m.set c { m.cl c with dn := r }) L own' ∧ DFrm w own w1 own' ∧ own' w.heap.size = none) → ∀ W, Below w1.heap.size w1 W → Calls Try.prog 47 #[.pointer (some ⟨L.cb c, 0, none⟩), .agg #[.int .i64 μ.o.k, .int .i64 μ.o.p, .int .i64 μ.o.b, .int .i64 μ.o.s, .int .i64 (μ.sent : Int), .int .i64 (μ.came : Int)]] W fun e w' => e = .returned (.tuple #[]) ∧ Hid (∃ own', DevM w' mb (m.set c (takeC (m.cl c) μ r t)) L own' ∧ DFrm w own w' own')) := fun w1 hw1 W hW => by
    obtain ⟨own1, h1, hf1, _⟩ := hw1
    have h2 := h1.below hW
    obtain ⟨go, gq, q1, q2, q3, q4⟩ := h2.cl c hc
    rw [dset_at] at q1
    refine (ccome_any (L.cb c) c { m.cl c with dn := r } go gq μ r t W q1 (h.ko c hc).1 hk1 hk2 hs hcc hlen ho hl ha hw ht).mono ?_
    rintro e w' ⟨rfl, hcm, hlk⟩
    obtain ⟨hd3, hf3⟩ := h2.cliSet hc q2 q3 q4 hlk hcm (by
      show μ.came + (cross μ.o ((m.cl c).ho.drop (μ.came - (m.cl c).hk))).2.length = (m.cl c).hs
      rw [cross_len, List.length_drop]
      have := (h.ko c hc).1
      omega) (by rw [dset_at]; rfl) (by rw [dset_at]; rfl) (by rw [dset_at]; rfl) (by rw [dset_at]; rfl) (by rw [dset_at])
    rw [dset_set] at hd3
    exact ⟨rfl, _, hd3, (hf1.trans (DFrm.of_below hW)).trans hf3⟩
  have HX : Hid (∀ w1, (∃ own', DevM w1 mb (m.set c { m.cl c with dn := r }) L own' ∧ DFrm w own w1 own' ∧ own' w.heap.size = none) → w1.cell? ⟨mb, 1, none⟩ = some (.slice (some ⟨L.kb, 0, none⟩) m.n L.kcap) ∧ w1.cell? ⟨L.kb, c, none⟩ = some (.pointer (some ⟨L.cb c, 0, none⟩)) ∧ mb < w1.heap.size ∧ L.kb < w1.heap.size) := fun w1 hw1 => by
    obtain ⟨own1, h1, hf1, _⟩ := hw1
    exact ⟨h1.m1, h1.kp c hc, h1.lto h1.o0, h1.lto h1.o2⟩
  have m0 := h.m0
  have lm := h.lto h.o0
  have hc' : (c : Int) < (m.n : Int) := by omega
  clear h hd hk1 hk2 hs hcc hlen ho hl ha hw ht
  go_enter Try.func27, Try.ntmps27
  go_wp2_with fail
  refine (HH.out _ (by repeat (first | exact Below.refl _ _ | apply Below.drew | refine bel_alloc ?_ _))).mono ?_
  rintro e w1 ⟨rfl, rfl⟩
  go_wp2_with fail
  refine HN.out.mono ?_
  rintro e w2 ⟨rfl, hn2⟩
  obtain ⟨e1, e2, l1, l2⟩ := HX.out w2 hn2
  have HCm2 := hidP (HCm.out w2 hn2)
  clear hn2 HCm HX HN HH
  go_wp2_with fail
  go_region_with ((go_at_call 47; refine (HCm2.out _ (by repeat (first | exact Below.refl _ _ | apply Below.drew | refine bel_alloc ?_ _))).mono ?_; rintro e w3 ⟨rfl, hr3⟩; have HR3 : Hid (∃ own', DevM w3 mb (m.set c (takeC (m.cl c) μ r t)) L own' ∧ DFrm w own w3 own') := hr3; clear hr3))
  all_goals go_wp2
  all_goals go_ret
  all_goals exact ⟨rfl, HR3.out⟩
end
end Go.Proofs.Ytabahmcbhapbiaa
