import Derived.Test.YtomeaiffpeibhaaDevUp
namespace Go.Proofs.Ytomeaiffpeibhaa
open Go.RowKit Go.Lib
set_option linter.unusedVariables false
section
variable {w w' : World} {mb : Nat} {m : Moo} {L : DLay} {own : Nat → Option Nat}
set_option maxHeartbeats 1000000 in
theorem devUp_none (h : DevM w mb m L own) (c : Nat) (hc : c < m.n) (hu : (m.cl c).up = []) :
    Calls Try.prog 25 #[.pointer (some ⟨mb, 0, none⟩), .int .i64 (c : Int)] w fun e w' => e = .returned (.int .i64 5) ∧ Below w.heap.size w w' := by
  have HH : Hid (∀ W, Below w.heap.size w W → Calls Try.prog 32 #[.pointer (some ⟨mb, 0, none⟩), .int .i64 (c : Int)] W fun e w' => e = .returned (.bool true) ∧ W = w') := fun W hW => by rw [← hasB_nat hc]; exact has_any (h.below hW) c
  have HN : Hid (∀ W, Below w.heap.size w W → Calls Try.prog 52 #[.pointer (some ⟨L.cb c, 0, none⟩)] W fun e w' => e = .returned (.tuple #[.agg #[.int .i64 0, .int .i64 0, .int .i64 0, .int .i64 0, .int .i64 0, .int .i64 0], .bool false]) ∧ Below W.heap.size W w') := fun W hW => by
    obtain ⟨go, gq, ⟨⟨vo, vq, he⟩, _, _⟩, _, h3, h4⟩ := (h.below hW).cl c hc
    rw [hu] at he
    exact enext_none (L.cb c) 0 (m.cl c).hs (m.cl c).hc vo vq (m.cl c).ho go gq W he
  have m1 := h.m1
  have kp := h.kp c hc
  have hc' : (c : Int) < (m.n : Int) := by omega
  clear h hu
  go_enter Try.func25, Try.ntmps25
  go_wp2_with fail
  refine (HH.out _ (by repeat (first | exact Below.refl _ _ | apply Below.drew | refine bel_alloc ?_ _))).mono ?_
  rintro e w1 ⟨rfl, rfl⟩
  go_wp2_with fail
  refine (HN.out _ (by repeat (first | exact Below.refl _ _ | apply Below.drew | refine bel_alloc ?_ _))).mono ?_
  rintro e w2 ⟨rfl, hb2⟩
  have HB2 : Hid (Below w.heap.size w w2) := hb2
  clear hb2
  go_wp2
  go_ret
  exact ⟨rfl, by refine bel_trans HB2.out ?_; repeat (first | exact Below.refl _ _ | apply Below.drew | refine bel_alloc ?_ _)⟩
set_option maxHeartbeats 2000000 in
theorem devUp_ok (h : DevM w mb m L own) (c : Nat) (hc : c < m.n) (μ : Msg) (r : List Msg) (hu : (m.cl c).up = μ :: r) (hk1 : (m.cl c).tk ≤ μ.came) (hk2 : μ.came - (m.cl c).tk ≤ (m.cl c).«to».length) (hcc : (m.cl c).tc ≤ 1000000000000000000) (hlen : (m.cl c).«to».length ≤ 10000000000000) (ho : Bd 100000000000000 μ.o) (hl : ∀ y ∈ (m.cl c).«to», Bd 100000000000000 y)
    (hB : ∀ i, i < m.n → (m.cl i).ts ≤ 3000000000000 ∧ (m.cl i).«to».length ≤ 3000000000000 ∧ ((m.cl i).dn.length + 1) * 48 ≤ 140737488355328) (t : List UInt8) (ha : app m.srv (upO (m.cl c) μ) = some t) (hw : Wf (upO (m.cl c) μ)) (ht : m.srv.length ≤ 1000) :
    Calls Try.prog 25 #[.pointer (some ⟨mb, 0, none⟩), .int .i64 (c : Int)] w fun e w' => e = .returned (.int .i64 0) ∧ Hid (∃ own', DevM w' mb (upM m c μ r t) L own' ∧ DFrm w own w' own') := by
  have HH : Hid (∀ W, Below w.heap.size w W → Calls Try.prog 32 #[.pointer (some ⟨mb, 0, none⟩), .int .i64 (c : Int)] W fun e w' => e = .returned (.bool true) ∧ W = w') := fun W hW => by rw [← hasB_nat hc]; exact has_any (h.below hW) c
  have HN : Hid (Calls Try.prog 52 #[.pointer (some ⟨L.cb c, 0, none⟩)] w fun e w' => e = .returned (.tuple #[.agg #[.int .i64 μ.o.k, .int .i64 μ.o.p, .int .i64 μ.o.b, .int .i64 μ.o.s, .int .i64 (μ.sent : Int), .int .i64 (μ.came : Int)], .bool true]) ∧ Hid (∃ own', DevM w' mb (m.set c { m.cl c with up := r }) L own' ∧ DFrm w own w' own')) := by
    obtain ⟨go, gq, ⟨⟨vo, vq, he⟩, c4, c5⟩, q2, q3, q4⟩ := h.cl c hc
    rw [hu] at he
    refine (enext_some (L.cb c) 0 (m.cl c).hs (m.cl c).hc vo vq (m.cl c).ho μ r go gq w he).mono ?_
    rintro e w' ⟨rfl, vq', hs⟩
    obtain ⟨h1, h2⟩ := h.cliSet hc (x' := { m.cl c with up := r }) q2 q3 q4 (LocKept.of_set hs) ⟨⟨vo, vq', hs.en⟩, (hs.ot 4 (by omega)).trans c4, (hs.ot 5 (by omega)).trans c5⟩ (h.ko c hc).1 rfl rfl rfl rfl rfl
    exact ⟨rfl, _, h1, h2⟩
  have HCm : Hid (∀ w1, (∃ own', DevM w1 mb (m.set c { m.cl c with up := r }) L own' ∧ DFrm w own w1 own') → ∀ W, Below w1.heap.size w1 W → Calls Try.prog 53 #[.pointer (some ⟨L.vb, 0, none⟩), .int .i64 (c : Int), .agg #[.int .i64 μ.o.k, .int .i64 μ.o.p, .int .i64 μ.o.b, .int .i64 μ.o.s, .int .i64 (μ.sent : Int), .int .i64 (μ.came : Int)]] W fun e w' => e = .returned (.tuple #[]) ∧ Hid (∃ own', DevM w' mb (upM m c μ r t) L own' ∧ DFrm w own w' own')) := fun w1 hw1 W hW => by
    obtain ⟨own1, h1, hf1⟩ := hw1
    have h2 := h1.below hW
    have e1 : (m.set c { m.cl c with up := r }).cl c = { m.cl c with up := r } := dset_at _ _ _
    have hS := scome_any h2 c hc μ (by rw [e1]; exact hk1) (by rw [e1]; exact hk2) (by rw [e1]; exact hcc) (by rw [e1]; exact hlen) ho (by rw [e1]; exact hl) (fun i hi => by
      by_cases e : i = c
      · subst e; rw [e1]; exact hB i hi
      · rw [dset_far _ _ e]; exact hB i hi) t (by rw [e1]; exact ha) (by rw [e1]; exact hw) ht
    refine hS.mono ?_
    rintro e w' ⟨rfl, own', h3, h4⟩
    refine ⟨rfl, own', h3.congr rfl rfl (fun i hi => ?_), (hf1.trans (DFrm.of_below hW)).trans h4⟩
    unfold upM
    simp only
    rw [e1]
    by_cases e : i = c
    · subst e; simp [takeS]
    · simp only [if_neg e]
      rw [dset_far _ _ e]
      rfl
  have HX : Hid (∀ w1, (∃ own', DevM w1 mb (m.set c { m.cl c with up := r }) L own' ∧ DFrm w own w1 own') → w1.cell? ⟨mb, 0, none⟩ = some (.pointer (some ⟨L.vb, 0, none⟩)) ∧ mb < w1.heap.size) := fun w1 hw1 => by
    obtain ⟨own1, h1, hf1⟩ := hw1
    exact ⟨h1.m0, h1.lto h1.o0⟩
  have m1 := h.m1
  have kp := h.kp c hc
  have hc' : (c : Int) < (m.n : Int) := by omega
  clear h hu hk1 hk2 hcc hlen ho hl hB ha hw ht
  go_enter Try.func25, Try.ntmps25
  go_wp2_with fail
  refine (HH.out _ (by repeat (first | exact Below.refl _ _ | apply Below.drew | refine bel_alloc ?_ _))).mono ?_
  rintro e w1 ⟨rfl, rfl⟩
  go_wp2_with fail
  refine HN.out.mono ?_
  rintro e w2 ⟨rfl, hn2⟩
  obtain ⟨e1, l1⟩ := HX.out w2 hn2
  have HCm2 := hidP (HCm.out w2 hn2)
  clear hn2 HCm HX HN HH
  go_wp2_with fail
  go_region_with ((go_at_call 53; refine (HCm2.out _ (by repeat (first | exact Below.refl _ _ | apply Below.drew | refine bel_alloc ?_ _))).mono ?_; rintro e w3 ⟨rfl, hr3⟩; have HR3 : Hid (∃ own', DevM w3 mb (upM m c μ r t) L own' ∧ DFrm w own w3 own') := hr3; clear hr3))
  all_goals go_wp2
  all_goals go_ret
  all_goals exact ⟨rfl, HR3.out⟩
end
end Go.Proofs.Ytomeaiffpeibhaa
