import Derived.Test.YtabahmcbhapbiaaQDevCome
namespace Go.Proofs.Ytabahmcbhapbiaa
open Go.RowKit Go.Lib
set_option linter.unusedVariables false
/-- Is there such a client? -/
def hasB (n : Nat) (c : Int) : Bool := decide (0 ≤ c) && decide (c < (n : Int))
theorem hasB_nat {n c : Nat} (h : c < n) : hasB n (c : Int) = true := by unfold hasB; simp; omega
theorem hasB_elim {n : Nat} {c : Int} (h : hasB n c = true) : ∃ k : Nat, c = (k : Int) ∧ k < n := by
  unfold hasB at h
  simp at h
  exact ⟨c.toNat, by omega, by omega⟩
section
variable {w w' : World} {mb : Nat} {m : Moo} {L : DLay} {own : Nat → Option Nat}
theorem has_any (h : DevM w mb m L own) (c : Int) : Calls Try.prog 36 #[.pointer (some ⟨mb, 0, none⟩), .int .i64 c] w fun e w' => e = .returned (.bool (hasB m.n c)) ∧ w = w' := by
  have m1 := h.m1
  clear h
  by_cases h0 : 0 ≤ c
  · by_cases h1 : c < (m.n : Int)
    · have e : hasB m.n c = true := by unfold hasB; simp [h0, h1]
      rw [e]
      go_enter Try.func36, Try.ntmps36
      go_wp2
      all_goals go_ret
      all_goals exact ⟨rfl, rfl⟩
    · have e : hasB m.n c = false := by unfold hasB; simp [h0, h1]
      rw [e]
      go_enter Try.func36, Try.ntmps36
      go_wp2
      all_goals go_ret
      all_goals exact ⟨rfl, rfl⟩
  · have e : hasB m.n c = false := by unfold hasB; simp [h0]
    rw [e]
    go_enter Try.func36, Try.ntmps36
    go_wp2
    all_goals go_ret
    all_goals exact ⟨rfl, rfl⟩
set_option maxHeartbeats 1000000 in
theorem devType_arg (h : DevM w mb m L own) (c : Int) (o : Op4) (hc : hasB m.n c = false) :
    Calls Try.prog 26 #[.pointer (some ⟨mb, 0, none⟩), .int .i64 c, .agg #[.int .i64 o.k, .int .i64 o.p, .int .i64 o.b, .int .i64 o.s]] w fun e w' => e = .returned (.int .i64 1) ∧ Below w.heap.size w w' := by
  have HH : Hid (∀ W, Below w.heap.size w W → Calls Try.prog 36 #[.pointer (some ⟨mb, 0, none⟩), .int .i64 c] W fun e w' => e = .returned (.bool false) ∧ W = w') := fun W hW => by rw [← hc]; exact has_any (h.below hW) c
  clear h hc
  go_enter Try.func26, Try.ntmps26
  go_wp2_with fail
  refine (HH.out _ (bel_alloc (Below.refl _ _) _)).mono ?_
  rintro e w1 ⟨rfl, rfl⟩
  go_wp2
  go_ret
  exact ⟨rfl, bel_alloc (Below.refl _ _) _⟩
set_option maxHeartbeats 1000000 in
theorem devType_is (h : DevM w mb m L own) (c : Nat) (o : Op4) (hc : c < m.n) (e0 : Int) (R : World → Prop) (hR : ∀ W, Below w.heap.size w W → Calls Try.prog 45 #[.pointer (some ⟨L.cb c, 0, none⟩), .agg #[.int .i64 o.k, .int .i64 o.p, .int .i64 o.b, .int .i64 o.s]] W fun e w' => e = .returned (.int .i64 e0) ∧ R w') :
    Calls Try.prog 26 #[.pointer (some ⟨mb, 0, none⟩), .int .i64 (c : Int), .agg #[.int .i64 o.k, .int .i64 o.p, .int .i64 o.b, .int .i64 o.s]] w fun e w' => e = .returned (.int .i64 e0) ∧ R w' := by
  have HH : Hid (∀ W, Below w.heap.size w W → Calls Try.prog 36 #[.pointer (some ⟨mb, 0, none⟩), .int .i64 (c : Int)] W fun e w' => e = .returned (.bool true) ∧ W = w') := fun W hW => by rw [← hasB_nat hc]; exact has_any (h.below hW) c
  have HR : Hid (∀ W, Below w.heap.size w W → Calls Try.prog 45 #[.pointer (some ⟨L.cb c, 0, none⟩), .agg #[.int .i64 o.k, .int .i64 o.p, .int .i64 o.b, .int .i64 o.s]] W fun e w' => e = .returned (.int .i64 e0) ∧ R w') := hR
  have m1 := h.m1
  have kp := h.kp c hc
  have lm := h.lto h.o0
  have lk := h.lto h.o2
  have hc' : (c : Int) < (m.n : Int) := by omega
  clear h hR
  go_enter Try.func26, Try.ntmps26
  go_wp2_with fail
  refine (HH.out _ (bel_alloc (Below.refl _ _) _)).mono ?_
  rintro e w1 ⟨rfl, rfl⟩
  go_wp2_with fail
  go_region_with ((go_at_call 45; refine (HR.out _ (by repeat (first | exact Below.refl _ _ | apply Below.drew | refine bel_alloc ?_ _))).mono ?_; rintro e w2 ⟨rfl, hr2⟩; have HR2 : Hid (R w2) := hr2; clear hr2))
  all_goals go_wp2
  all_goals go_ret
  all_goals exact ⟨rfl, HR2.out⟩
theorem devType_no (h : DevM w mb m L own) (c : Nat) (o : Op4) (hc : c < m.n) (hm : mayT (m.cl c).text.length (m.cl c).ho.length o ≠ 0) :
    Calls Try.prog 26 #[.pointer (some ⟨mb, 0, none⟩), .int .i64 (c : Int), .agg #[.int .i64 o.k, .int .i64 o.p, .int .i64 o.b, .int .i64 o.s]] w fun e w' => e = .returned (.int .i64 (mayT (m.cl c).text.length (m.cl c).ho.length o)) ∧ Below w.heap.size w w' := by
  obtain ⟨go, gq, h1, h2, h3, h4⟩ := h.cl c hc
  refine devType_is h c o hc _ (fun w' => Below w.heap.size w w') (fun W hW => ?_)
  refine (ctype_no (L.cb c) c (m.cl c) go gq o W (h1.below hW) (by simpa using hm)).mono ?_
  rintro e w' ⟨rfl, hb⟩
  exact ⟨rfl, bel_trans hW hb⟩
theorem devType_ok (h : DevM w mb m L own) (c : Nat) (o : Op4) (t : List UInt8) (hc : c < m.n) (hm : mayT (m.cl c).text.length (m.cl c).ho.length o = 0) (ha : app (m.cl c).text ⟨o.k, o.p, o.b, c⟩ = some t) (hw : Wf ⟨o.k, o.p, o.b, c⟩) (hlen : (m.cl c).text.length ≤ 1000) (hs : (m.cl c).hs ≤ 1000000000000000000) (hq : ((m.cl c).up.length + 1) * 48 ≤ 140737488355328) (hoo : (m.cl c).ho.length ≤ 100) :
    Calls Try.prog 26 #[.pointer (some ⟨mb, 0, none⟩), .int .i64 (c : Int), .agg #[.int .i64 o.k, .int .i64 o.p, .int .i64 o.b, .int .i64 o.s]] w fun e w' => e = .returned (.int .i64 0) ∧ ∃ own', DevM w' mb (m.set c (typeC (m.cl c) ⟨o.k, o.p, o.b, c⟩ t)) L own' ∧ DFrm w own w' own' := by
  obtain ⟨go, gq, h1, h2, h3, h4⟩ := h.cl c hc
  refine devType_is h c o hc 0 (fun w' => ∃ own', DevM w' mb (m.set c (typeC (m.cl c) ⟨o.k, o.p, o.b, c⟩ t)) L own' ∧ DFrm w own w' own') (fun W hW => ?_)
  refine (ctype_ok (L.cb c) c (m.cl c) go gq o t W (h1.below hW) (Nat.lt_of_lt_of_le hc h.n4) hm ha hw hlen hs hq hoo).mono ?_
  rintro e w' ⟨rfl, go', gq', hcm, hlk⟩
  have hW2 := h.below hW
  have hko := (h.ko c hc).1
  obtain ⟨hd, hf⟩ := hW2.cliSet hc h2 h3 h4 hlk hcm (by simp only [typeC, List.length_append, List.length_singleton]; omega) rfl rfl rfl rfl rfl
  exact ⟨rfl, _, hd, (DFrm.of_below hW).trans hf⟩

/-! ### Down -/
theorem EndSet.kept {w w' : World} {b o s c : Nat} {vo vq : Value} {l : List Op4} {q : List Msg} {go gq : Option Nat} (h : EndSet w w' b o s c vo vq l q go gq) : EndKept w w' b o go gq go gq := ⟨h.kx.mono (fun _ _ e => Or.inl e), h.ot, fun _ e => Or.inl e, fun _ e => Or.inl e⟩
/-- A message's value. -/
abbrev msgV (k p b s n c : Int) : Value := .agg #[.int .i64 k, .int .i64 p, .int .i64 b, .int .i64 s, .int .i64 n, .int .i64 c]
set_option maxHeartbeats 1000000 in
theorem snext_is (h : DevM w mb m L own) (c : Nat) (hc : c < m.n) (a0 a1 a2 a3 a4 a5 : Int) (ok : Bool) (R : World → Prop) (hcl : ∀ W W', R W → KeptX (fun k => k = w.heap.size) W W' → R W')
    (hR : ∀ W, Below w.heap.size w W → w.heap.size < W.heap.size → Calls Try.prog 43 #[.pointer (some ⟨L.eb, c * 5, none⟩)] W fun e w' => e = .returned (.tuple #[.agg #[.int .i64 a0, .int .i64 a1, .int .i64 a2, .int .i64 a3, .int .i64 a4, .int .i64 a5], .bool ok]) ∧ Hid (R w') ∧ (∀ j, w'.cell? ⟨w.heap.size, j, none⟩ = W.cell? ⟨w.heap.size, j, none⟩) ∧ (∀ j, w'.frozen? ⟨w.heap.size, j, none⟩ = W.frozen? ⟨w.heap.size, j, none⟩)) :
    Calls Try.prog 46 #[.pointer (some ⟨L.vb, 0, none⟩), .int .i64 (c : Int)] w fun e w' => e = .returned (.tuple #[.agg #[.int .i64 a0, .int .i64 a1, .int .i64 a2, .int .i64 a3, .int .i64 a4, .int .i64 a5], .bool ok]) ∧ Hid (R w') := by
  have HR := hidP hR
  have v1 := h.v1
  have lv := h.lto h.o1
  have hc' : (c : Int) < (m.n : Int) := by omega
  clear h hR
  go_enter Try.func46, Try.ntmps46
  go_wp2_with fail
  refine (HR.out _ (bel_alloc (Below.refl _ _) _) (by simp)).mono ?_
  rintro e w1 ⟨rfl, hr, k, kf⟩
  have HR1 : Hid (R w1) := hr
  have k0 := k 0
  have k1 := k 1
  have k2 := k 2
  have k3 := k 3
  have k4 := k 4
  have k5 := k 5
  simp [go_sem] at k0 k1 k2 k3 k4 k5 kf
  have HCl := hidP hcl
  clear hr k hcl
  go_wp2
  simp [bodyPost, results, Try.results46, go_sem, k0, k1, k2, k3, k4, k5]
  exact HCl.out _ _ HR1.out ((((((KeptX.refl (fun k => k = w.heap.size) _).setCell (p := ⟨w.heap.size, 0, none⟩) (fun _ => rfl) _).setCell (p := ⟨w.heap.size, 1, none⟩) (fun _ => rfl) _).setCell (p := ⟨w.heap.size, 2, none⟩) (fun _ => rfl) _).setCell (p := ⟨w.heap.size, 3, none⟩) (fun _ => rfl) _ |>.setCell (p := ⟨w.heap.size, 4, none⟩) (fun _ => rfl) _).setCell (p := ⟨w.heap.size, 5, none⟩) (fun _ => rfl) _)
theorem DevM.fresh (h : DevM w mb m L own) {k : Nat} (e : w.heap.size ≤ k) : own k = none := by
  cases ho : own k with
  | none => rfl
  | some a => exact absurd (h.lto ho) (by omega)
theorem grown_none {w w' : World} {own : Nat → Option Nat} {a k : Nat} (h : own k = none) (hk : k < w.heap.size) : grown own w w' a k = none := by
  unfold grown
  rw [if_neg (by omega)]
  exact h
/-- The server's queue to a client is empty. -/
theorem snext_none (h : DevM w mb m L own) (c : Nat) (hc : c < m.n) (hd : (m.cl c).dn = []) :
    Calls Try.prog 46 #[.pointer (some ⟨L.vb, 0, none⟩), .int .i64 (c : Int)] w fun e w' => e = .returned (.tuple #[.agg #[.int .i64 0, .int .i64 0, .int .i64 0, .int .i64 0, .int .i64 0, .int .i64 0], .bool false]) ∧ Hid (Below w.heap.size w w') := by
  refine snext_is h c hc 0 0 0 0 0 0 false (fun w' => Below w.heap.size w w') (fun W W' hW hk => ⟨hk.os.trans hW.os, hk.tape.trans hW.tape, hk.output.trans hW.output, Nat.le_trans hW.size hk.size, fun k hk1 => (hk.block k (Nat.lt_of_lt_of_le hk1 hW.size) (by omega)).trans (hW.block k hk1)⟩) (fun W hW hsz => ?_)
  obtain ⟨go, gq, ⟨⟨vo, vq, he⟩, _⟩, h3, h4⟩ := (h.below hW).se c hc
  rw [hd] at he
  refine (enext_none L.eb (c * 5) (m.cl c).ts (m.cl c).tc vo vq (m.cl c).tq go gq W he).mono ?_
  rintro e w' ⟨rfl, hb⟩
  exact ⟨rfl, bel_trans hW hb, fun j => hb.cell (p := ⟨w.heap.size, j, none⟩) hsz, fun j => hb.frozen (p := ⟨w.heap.size, j, none⟩) hsz⟩
theorem snext_some (h : DevM w mb m L own) (c : Nat) (hc : c < m.n) (μ : Msg) (r : List Msg) (hd : (m.cl c).dn = μ :: r) :
    Calls Try.prog 46 #[.pointer (some ⟨L.vb, 0, none⟩), .int .i64 (c : Int)] w fun e w' => e = .returned (.tuple #[.agg #[.int .i64 μ.o.k, .int .i64 μ.o.p, .int .i64 μ.o.b, .int .i64 μ.o.s, .int .i64 (μ.sent : Int), .int .i64 (μ.came : Int)], .bool true]) ∧ Hid (∃ own', DevM w' mb (m.set c { m.cl c with dn := r }) L own' ∧ DFrm w own w' own' ∧ own' w.heap.size = none) := by
  refine snext_is h c hc μ.o.k μ.o.p μ.o.b μ.o.s μ.sent μ.came true (fun w' => ∃ own', DevM w' mb (m.set c { m.cl c with dn := r }) L own' ∧ DFrm w own w' own' ∧ own' w.heap.size = none) (fun W W' hW hk => ?_) (fun W hW hsz => ?_)
  · obtain ⟨own', h1, h2, h3⟩ := hW
    exact ⟨own', h1.keep hk (fun k e e2 => e (by rw [e2]; exact h3)), h2.after hk (fun i hi e => by omega), h3⟩
  · obtain ⟨go, gq, ⟨⟨vo, vq, he⟩, _⟩, h3, h4⟩ := (h.below hW).se c hc
    rw [hd] at he
    refine (enext_some L.eb (c * 5) (m.cl c).ts (m.cl c).tc vo vq (m.cl c).tq μ r go gq W he).mono ?_
    rintro e w' ⟨rfl, vq', hs⟩
    have hne : ¬ (w.heap.size = L.eb) := by have := h.lto h.o3; omega
    obtain ⟨hd2, hf2⟩ := (h.below hW).seatSet hc (x' := { m.cl c with dn := r }) h3 h4 hs.kept ⟨vo, vq', hs.en⟩ (h.ko c hc).2 rfl rfl rfl rfl rfl rfl
    exact ⟨rfl, ⟨_, hd2, (DFrm.of_below hW).trans hf2, grown_none (h.fresh (Nat.le_refl _)) hsz⟩, fun j => hs.kx.cell (p := ⟨w.heap.size, j, none⟩) hsz hne, fun j => hs.kx.frozen (p := ⟨w.heap.size, j, none⟩) hsz hne⟩
end
end Go.Proofs.Ytabahmcbhapbiaa
