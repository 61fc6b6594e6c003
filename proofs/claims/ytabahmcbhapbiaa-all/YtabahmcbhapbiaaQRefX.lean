import Derived.Test.YtabahmcbhapbiaaQRefCalls
import Derived.Deep.RegionHeld3
import Derived.Test.YtabahmcbhapbiaaQRefM
import Derived.Test.YtabahmcbhapbiaaQRefDown
import Derived.Deep.DeepCutAuto
namespace Go.Proofs.Ytabahmcbhapbiaa
open Go.RowKit Go.Lib
set_option linter.unusedVariables false
section
variable {w w' W1 : World} {mb : Nat} {m : Moo} {L : Lay} {own : Nat → Option Slot}
theorem refDown_arg (h : RefM w mb m L own) (c : Int) (hc : isB m.n c = false) :
    Calls Try.prog 54 #[.pointer (some ⟨mb, 0, none⟩), .int .i64 c] w fun e w' => e = .returned (.int .i64 1) ∧ w = w' := by
  obtain ⟨⟨a0, a1, a2, a3, a4, a5, a6⟩, f⟩ := h.pc 0 0 (fun _ => rfl)
  have hi := is_any mb (some ⟨L.tb, 0, none⟩) m.n L.tcap c w a0
  rw [hc] at hi
  have HI : Hid (Calls Try.prog 78 #[.pointer (some ⟨mb, 0, none⟩), .int .i64 c] w fun e w' => e = .returned (.bool false) ∧ w = w') := hi
  clear hi h
  go_enter Try.func54, Try.ntmps54
  go_wp2_with (go_at_call 78; refine HI.out.mono ?_; rintro e w1 ⟨rfl, rfl⟩)
  go_ret
  exact ⟨rfl, rfl⟩
theorem refUp_arg (h : RefM w mb m L own) (c : Int) (hc : isB m.n c = false) :
    Calls Try.prog 53 #[.pointer (some ⟨mb, 0, none⟩), .int .i64 c] w fun e w' => e = .returned (.int .i64 1) ∧ w = w' := by
  obtain ⟨⟨a0, a1, a2, a3, a4, a5, a6⟩, f⟩ := h.pc 0 0 (fun _ => rfl)
  have hi := is_any mb (some ⟨L.tb, 0, none⟩) m.n L.tcap c w a0
  rw [hc] at hi
  have HI : Hid (Calls Try.prog 78 #[.pointer (some ⟨mb, 0, none⟩), .int .i64 c] w fun e w' => e = .returned (.bool false) ∧ w = w') := hi
  clear hi h
  go_enter Try.func53, Try.ntmps53
  go_wp2_with (go_at_call 78; refine HI.out.mono ?_; rintro e w1 ⟨rfl, rfl⟩)
  go_ret
  exact ⟨rfl, rfl⟩
theorem refType_arg (h : RefM w mb m L own) (c : Int) (o : Op4) (hc : isB m.n c = false) :
    Calls Try.prog 51 #[.pointer (some ⟨mb, 0, none⟩), .int .i64 c, .agg #[.int .i64 o.k, .int .i64 o.p, .int .i64 o.b, .int .i64 o.s]] w fun e w' => e = .returned (.int .i64 1) ∧ Below w.heap.size w w' := by
  obtain ⟨⟨a0, a1, a2, a3, a4, a5, a6⟩, f⟩ := h.pc 0 0 (fun _ => rfl)
  have hlm := h.lto h.o0
  have hi : ∀ W, Below w.heap.size w W → Calls Try.prog 78 #[.pointer (some ⟨mb, 0, none⟩), .int .i64 c] W fun e w' => e = .returned (.bool false) ∧ W = w' := fun W hW => by
    have := is_any mb (some ⟨L.tb, 0, none⟩) m.n L.tcap c W ((hW.cell (p := ⟨mb, 0, none⟩) hlm).trans a0)
    rw [hc] at this
    exact this
  have HI : Hid (∀ W, Below w.heap.size w W → Calls Try.prog 78 #[.pointer (some ⟨mb, 0, none⟩), .int .i64 c] W fun e w' => e = .returned (.bool false) ∧ W = w') := hi
  clear hi h
  go_enter Try.func51, Try.ntmps51
  go_wp2_with (go_at_call 78; refine (HI.out _ ?_).mono ?_; exact bel_alloc (Below.refl _ _) _; rintro e w1 ⟨rfl, rfl⟩)
  go_ret
  exact ⟨rfl, bel_alloc (Below.refl _ _) _⟩
theorem refDown_none (h : RefM w mb m L own) (c : Nat) (hc : c < m.n) (hd : (m.cl c).dn = []) :
    Calls Try.prog 54 #[.pointer (some ⟨mb, 0, none⟩), .int .i64 (c : Int)] w fun e w' => e = .returned (.int .i64 5) ∧ w = w' := by
  obtain ⟨⟨a0, a1, a2, a3, a4, a5, a6⟩, f⟩ := h.pc 0 0 (fun _ => rfl)
  have hi := is_any mb (some ⟨L.tb, 0, none⟩) m.n L.tcap c w a0
  rw [isB_nat hc] at hi
  have HI : Hid (Calls Try.prog 78 #[.pointer (some ⟨mb, 0, none⟩), .int .i64 (c : Int)] w fun e w' => e = .returned (.bool true) ∧ w = w') := hi
  have hq := h.pc 10 c (fun e => absurd e (by omega)) hc
  have hdb := (h.pc 5 0 (fun _ => rfl)).1 c hc
  simp only [hd] at hq
  obtain ⟨qa, qc, hv⟩ := rowq6_len hq
  rw [hv] at hdb
  have hc' : (c : Int) < (m.n : Int) := by omega
  have hdb' : w.cell? ⟨L.db, c, none⟩ = some (.slice qa 0 qc) := hdb
  clear hi h hq hdb
  go_enter Try.func54, Try.ntmps54
  go_wp2_with (go_at_call 78; refine HI.out.mono ?_; rintro e w1 ⟨rfl, rfl⟩)
  go_ret
  exact ⟨rfl, rfl⟩
theorem refUp_none (h : RefM w mb m L own) (c : Nat) (hc : c < m.n) (hd : (m.cl c).up = []) :
    Calls Try.prog 53 #[.pointer (some ⟨mb, 0, none⟩), .int .i64 (c : Int)] w fun e w' => e = .returned (.int .i64 5) ∧ w = w' := by
  obtain ⟨⟨a0, a1, a2, a3, a4, a5, a6⟩, f⟩ := h.pc 0 0 (fun _ => rfl)
  have hi := is_any mb (some ⟨L.tb, 0, none⟩) m.n L.tcap c w a0
  rw [isB_nat hc] at hi
  have HI : Hid (Calls Try.prog 78 #[.pointer (some ⟨mb, 0, none⟩), .int .i64 (c : Int)] w fun e w' => e = .returned (.bool true) ∧ w = w') := hi
  have hq := h.pc 9 c (fun e => absurd e (by omega)) hc
  have hdb := (h.pc 4 0 (fun _ => rfl)).1 c hc
  simp only [hd] at hq
  obtain ⟨qa, qc, hv⟩ := rowq6_len hq
  rw [hv] at hdb
  have hc' : (c : Int) < (m.n : Int) := by omega
  have hdb' : w.cell? ⟨L.ub, c, none⟩ = some (.slice qa 0 qc) := hdb
  clear hi h hq hdb
  go_enter Try.func53, Try.ntmps53
  go_wp2_with (go_at_call 78; refine HI.out.mono ?_; rintro e w1 ⟨rfl, rfl⟩)
  go_ret
  exact ⟨rfl, rfl⟩
end
end Go.Proofs.Ytabahmcbhapbiaa

namespace Go.Proofs.Ytabahmcbhapbiaa
open Go.RowKit Go.Lib
set_option linter.unusedVariables false
theorem refFits_some (t : ByteArray) (k a b s : Int) (w : World) :
    Calls Try.prog 79 #[.string t, .agg #[.int .i64 k, .int .i64 a, .int .i64 b, .int .i64 s]] w fun e w' => (∃ f : Bool, e = .returned (.bool f) ∧ ((k = 0 ∨ k = 1 ∨ k = 2) → f = fitsB t.size k a)) ∧ Below w.heap.size w w' := by
  by_cases hk : k = 0 ∨ k = 1 ∨ k = 2
  · refine (refFits_any t k a b s hk w).mono ?_
    rintro e w' ⟨rfl, hb⟩
    exact ⟨⟨_, rfl, fun _ => rfl⟩, hb⟩
  · have h0 : (k == 0) = false := by simp; omega
    have h1 : (k == 1) = false := by simp; omega
    have h2 : (k == 2) = false := by simp; omega
    go_enter Try.func79, Try.ntmps79
    go_wp2
    all_goals go_ret
    all_goals exact ⟨⟨_, rfl, fun h => absurd h hk⟩, bel_alloc (Below.refl _ _) _⟩
section
variable {w w' W1 : World} {mb : Nat} {m : Moo} {L : Lay} {own : Nat → Option Slot}
theorem refType_op' (h : RefM w mb m L own) (c : Nat) (o : Op4) (hc : c < m.n) (ev : Int) (hev : ev = 0 ∨ ev = 2) (hR : ∀ W, Calls Try.prog 74 #[.agg #[.int .i64 o.k, .int .i64 o.p, .int .i64 o.b, .int .i64 o.s]] W fun e w' => e = .returned (.int .i64 ev) ∧ Below W.heap.size W w')
    (hF : ∀ W, Calls Try.prog 79 #[str (m.cl c).text, .agg #[.int .i64 o.k, .int .i64 o.p, .int .i64 o.b, .int .i64 o.s]] W fun e w' => (∃ f : Bool, e = .returned (.bool f) ∧ (ev = 0 → o.k ≠ 0 → f = false)) ∧ Below W.heap.size W w') :
    Calls Try.prog 51 #[.pointer (some ⟨mb, 0, none⟩), .int .i64 (c : Int), .agg #[.int .i64 o.k, .int .i64 o.p, .int .i64 o.b, .int .i64 o.s]] w fun e w' => e = .returned (.int .i64 2) ∧ Below w.heap.size w w' := by
  obtain ⟨⟨a0, a1, a2, a3, a4, a5, a6⟩, f⟩ := h.pc 0 0 (fun _ => rfl)
  have ht := (h.pc 1 0 (fun _ => rfl)).1 c hc
  have hlm := h.lto h.o0
  have hlt := h.lto h.o1
  have hc' : (c : Int) < (m.n : Int) := by omega
  have HI : Hid (∀ W, Below w.heap.size w W → Calls Try.prog 78 #[.pointer (some ⟨mb, 0, none⟩), .int .i64 (c : Int)] W fun e w' => e = .returned (.bool true) ∧ W = w') := fun W hW => by
    have := is_any mb (some ⟨L.tb, 0, none⟩) m.n L.tcap c W ((hW.cell (p := ⟨mb, 0, none⟩) hlm).trans a0)
    rw [isB_nat hc] at this
    exact this
  have HR : Hid (∀ W, Calls Try.prog 74 #[.agg #[.int .i64 o.k, .int .i64 o.p, .int .i64 o.b, .int .i64 o.s]] W fun e w' => e = .returned (.int .i64 ev) ∧ Below W.heap.size W w') := hR
  have HF : Hid (∀ W, Calls Try.prog 79 #[str (m.cl c).text, .agg #[.int .i64 o.k, .int .i64 o.p, .int .i64 o.b, .int .i64 o.s]] W fun e w' => (∃ f : Bool, e = .returned (.bool f) ∧ (ev = 0 → o.k ≠ 0 → f = false)) ∧ Below W.heap.size W w') := hF
  have HEV : Hid (ev = 0 ∨ ev = 2) := hev
  clear h hR hF hev
  go_enter Try.func51, Try.ntmps51
  go_wp2_with (go_at_call 78; refine (HI.out _ ?_).mono ?_; exact bel_alloc (Below.refl _ _) _; rintro e w1 ⟨rfl, rfl⟩)
  refine (HR.out _).mono ?_
  rintro e w1 ⟨rfl, hb1⟩
  have hbw : Below w.heap.size w w1 := bel_trans (bel_alloc (Below.refl _ _) _) hb1
  have k0 : w1.cell? ⟨mb, 0, none⟩ = _ := (hbw.cell (p := ⟨mb, 0, none⟩) hlm).trans a0
  have k1 : w1.cell? ⟨L.tb, c, none⟩ = some (str (m.cl c).text) := (hbw.cell (p := ⟨L.tb, c, none⟩) hlt).trans ht
  obtain ⟨hc1, hf1⟩ := bcell hb1
  have o0 := hc1 w.heap.size 0 (by simp)
  have o1 := hc1 w.heap.size 1 (by simp)
  have o2 := hc1 w.heap.size 2 (by simp)
  have o3 := hc1 w.heap.size 3 (by simp)
  simp [go_sem] at o0 o1 o2 o3
  have hzz : w.heap.size < w1.heap.size := by have := hb1.size; simp at this; omega
  have HB : Hid (Below w.heap.size w w1) := hbw
  have HC : Hid (∀ W, Below w1.heap.size w1 W → (W.cell? ⟨mb, 0, none⟩ = some (.slice (some ⟨L.tb, 0, none⟩) m.n L.tcap) ∧ W.cell? ⟨L.tb, c, none⟩ = some (str (m.cl c).text) ∧ W.cell? ⟨w.heap.size, 0, none⟩ = some (.int .i64 o.k) ∧ W.cell? ⟨w.heap.size, 1, none⟩ = some (.int .i64 o.p) ∧ W.cell? ⟨w.heap.size, 2, none⟩ = some (.int .i64 o.b) ∧ W.cell? ⟨w.heap.size, 3, none⟩ = some (.int .i64 o.s)) ∧ Below w.heap.size w W) := fun W hW =>
    ⟨⟨(hW.cell (p := ⟨mb, 0, none⟩) (by show mb < _; omega)).trans k0, (hW.cell (p := ⟨L.tb, c, none⟩) (by show L.tb < _; omega)).trans k1, (hW.cell (p := ⟨w.heap.size, 0, none⟩) hzz).trans o0, (hW.cell (p := ⟨w.heap.size, 1, none⟩) hzz).trans o1, (hW.cell (p := ⟨w.heap.size, 2, none⟩) hzz).trans o2, (hW.cell (p := ⟨w.heap.size, 3, none⟩) hzz).trans o3⟩, bel_trans hbw hW⟩
  clear hb1 hbw hc1 hf1 HI HR a0 a1 a2 a3 a4 a5 a6 ht f
  go_wp2_with fail
  go_region_held3 (fun W => W.cell? ⟨mb, 0, none⟩ = some (.slice (some ⟨L.tb, 0, none⟩) m.n L.tcap) ∧ W.cell? ⟨L.tb, c, none⟩ = some (str (m.cl c).text) ∧ W.cell? ⟨w.heap.size, 0, none⟩ = some (.int .i64 o.k) ∧ W.cell? ⟨w.heap.size, 1, none⟩ = some (.int .i64 o.p) ∧ W.cell? ⟨w.heap.size, 2, none⟩ = some (.int .i64 o.b) ∧ W.cell? ⟨w.heap.size, 3, none⟩ = some (.int .i64 o.s)) (simp [go_sem, *]) ((go_at_call 79; refine (HF.out _).mono ?_; rintro e w2 ⟨⟨fv, rfl, hfv⟩, hb2⟩; have hbx : Below w1.heap.size w1 w2 := bel_trans (by repeat (first | exact Below.refl _ _ | apply Below.drew | refine bel_alloc ?_ _)) hb2; obtain ⟨⟨t0, t1, t2, t3, t4, t5⟩, tb⟩ := HC.out w2 hbx; have HE : Hid (Below w.heap.size w w2) := tb; have HFV : Hid (ev = 0 → o.k ≠ 0 → fv = false) := hfv; clear hb2 hbx tb hfv))
  by_cases e1 : ev = 0
  · by_cases e2 : o.k = 0
    · have e3 : (o.k == 0) = true := by simp [e2]
      subst e1
      clear e2
      go_wp2
      all_goals go_ret
      all_goals exact ⟨rfl, HE.out⟩
    · have e3 : (o.k == 0) = false := by simp [e2]
      have e4 := HFV.out e1 e2
      subst e1 e4
      clear e2
      go_wp2
      all_goals go_ret
      all_goals exact ⟨rfl, HE.out⟩
  · have e3 : ev = 2 := HEV.out.resolve_left e1
    subst e3
    clear e1
    go_wp2
    all_goals go_ret
    all_goals exact ⟨rfl, HE.out⟩
/-- An op that isn't right, is nothing, or doesn't fit. -/
theorem refType_op (h : RefM w mb m L own) (c : Nat) (o : Op4) (hc : c < m.n) (hbad : rightB o.k o.p o.b o.s = false ∨ o.k = 0 ∨ fitsB (m.cl c).text.length o.k o.p = false) :
    Calls Try.prog 51 #[.pointer (some ⟨mb, 0, none⟩), .int .i64 (c : Int), .agg #[.int .i64 o.k, .int .i64 o.p, .int .i64 o.b, .int .i64 o.s]] w fun e w' => e = .returned (.int .i64 2) ∧ Below w.heap.size w w' := by
  refine refType_op' h c o hc (eno (rightB o.k o.p o.b o.s)) (by unfold eno; split <;> simp) (fun W => refRight_any o.k o.p o.b o.s W) (fun W => ?_)
  refine (refFits_some ⟨(m.cl c).text.toArray⟩ o.k o.p o.b o.s W).mono ?_
  rintro e w' ⟨⟨f, rfl, hf⟩, hb⟩
  refine ⟨⟨f, rfl, fun e1 e2 => ?_⟩, hb⟩
  cases hr : rightB o.k o.p o.b o.s
  · rw [hr] at e1
    exact absurd e1 (by decide)
  · have hk : o.k = 0 ∨ o.k = 1 ∨ o.k = 2 := by rw [rightB_iff] at hr; omega
    rw [hf hk]
    rcases hbad with x | x | x
    · rw [hr] at x; cases x
    · exact absurd x e2
    · rw [show ((ByteArray.mk (m.cl c).text.toArray).size : Int) = ((m.cl c).text.length : Int) by show ((m.cl c).text.toArray.size : Int) = _; simp]
      exact x
end
end Go.Proofs.Ytabahmcbhapbiaa

namespace Go.Proofs.Ytabahmcbhapbiaa
open Go.RowKit Go.Lib
set_option linter.unusedVariables false
/-- 'append(q, x)' of one message. -/
theorem app_msg {W : World} {v : Value} {l : List Msg} {g : Option Nat} (hq : RowQ W 6 v (flat6 l) g) (x : Msg) (hlen : (l.length + 1) * 48 ≤ 140737488355328) :
    ∃ v' W', (∀ ty, (Builtin.append_ #[149, 149] ty #[v, .slice (some ⟨W.heap.size, 0, none⟩) 1 1]).run Try.prog (W.alloc (.cells #[.int .i64 x.o.k, .int .i64 x.o.p, .int .i64 x.o.b, .int .i64 x.o.s, .int .i64 (x.sent : Int), .int .i64 (x.came : Int)] 147)) = .ok v' W') ∧
      (∃ a n c, v' = .slice a n c) ∧ ∃ g', RowQ W' 6 v' (flat6 (l ++ [x])) g' ∧ KeptX (fun k => g = some k) W W' ∧ (g' = g ∨ ∀ k, g' = some k → W.heap.size ≤ k) := by
  have hsrc : Src Try.prog 6 149 (.slice (some ⟨W.heap.size, 0, none⟩) 1 1) 1 (flat6 [x]) (W.alloc (.cells #[.int .i64 x.o.k, .int .i64 x.o.p, .int .i64 x.o.b, .int .i64 x.o.s, .int .i64 (x.sent : Int), .int .i64 (x.came : Int)] 147)) :=
    Src.ofSlice _ Try.underlying149 ⟨W.heap.size, 0, none⟩ 1 1 _ rfl (fun j u hj => by
      rw [Addr.add_lit, Nat.zero_add, World.cell?_alloc_at (w := W) _ _ _ j rfl]
      simpa [flat6, Msg.cells] using hj) (flat6_one _)
  have q1 := hq.keep (w' := W.alloc (.cells #[.int .i64 x.o.k, .int .i64 x.o.p, .int .i64 x.o.b, .int .i64 x.o.s, .int .i64 (x.sent : Int), .int .i64 (x.came : Int)] 147)) (F := fun _ => False) ((KeptX.refl _ _).alloc _) (fun _ _ h => h)
  obtain ⟨v2, W2, e2, g2, q2, k2, d2⟩ := rowq_append (P := Try.prog) (t := 149) (tx := 149) _ Try.underlying149 infoMsg rfl (by decide) q1 hsrc (N := l.length + 1) (by rw [flat6_len, flat6_len]; simp; omega) hlen (by omega)
  rw [← flat6_append] at q2
  obtain ⟨a2, c2, hv2⟩ := rowq6_len q2
  refine ⟨v2, W2, e2, ⟨_, _, _, hv2⟩, g2, q2, KeptX.trans ((KeptX.refl (fun k => g = some k) W).alloc _) k2 (fun _ _ e => e), ?_⟩
  rcases d2 with d | d
  · exact Or.inl d
  · refine Or.inr (fun k e => ?_)
    rw [d] at e
    cases e
    simp
/-- 'append(q, o)' of one op. -/
theorem app_op {W : World} {v : Value} {l : List Op4} {g : Option Nat} (hq : RowQ W 4 v (flat4 l) g) (x : Op4) (hlen : (l.length + 1) * 32 ≤ 140737488355328) :
    ∃ v' W', (∀ ty, (Builtin.append_ #[49, 49] ty #[v, .slice (some ⟨W.heap.size, 0, none⟩) 1 1]).run Try.prog (W.alloc (.cells #[.int .i64 x.k, .int .i64 x.p, .int .i64 x.b, .int .i64 x.s] 26)) = .ok v' W') ∧
      (∃ a n c, v' = .slice a n c) ∧ ∃ g', RowQ W' 4 v' (flat4 (l ++ [x])) g' ∧ KeptX (fun k => g = some k) W W' ∧ (g' = g ∨ ∀ k, g' = some k → W.heap.size ≤ k) := by
  have hsrc : Src Try.prog 4 49 (.slice (some ⟨W.heap.size, 0, none⟩) 1 1) 1 (flat4 [x]) (W.alloc (.cells #[.int .i64 x.k, .int .i64 x.p, .int .i64 x.b, .int .i64 x.s] 26)) :=
    Src.ofSlice _ Try.underlying49 ⟨W.heap.size, 0, none⟩ 1 1 _ rfl (fun j u hj => by
      rw [Addr.add_lit, Nat.zero_add, World.cell?_alloc_at (w := W) _ _ _ j rfl]
      simpa [flat4, Op4.cells] using hj) (flat4_one _)
  have q1 := hq.keep (w' := W.alloc (.cells #[.int .i64 x.k, .int .i64 x.p, .int .i64 x.b, .int .i64 x.s] 26)) (F := fun _ => False) ((KeptX.refl _ _).alloc _) (fun _ _ h => h)
  obtain ⟨v2, W2, e2, g2, q2, k2, d2⟩ := rowq_append (P := Try.prog) (t := 49) (tx := 49) _ Try.underlying49 infoOp4 rfl (by decide) q1 hsrc (N := l.length + 1) (by rw [flat4_len, flat4_len]; simp; omega) hlen (by omega)
  rw [← flat4_append] at q2
  obtain ⟨a2, c2, hv2⟩ := rowq_len q2
  refine ⟨v2, W2, e2, ⟨_, _, _, hv2⟩, g2, q2, KeptX.trans ((KeptX.refl (fun k => g = some k) W).alloc _) k2 (fun _ _ e => e), ?_⟩
  rcases d2 with d | d
  · exact Or.inl d
  · refine Or.inr (fun k e => ?_)
    rw [d] at e
    cases e
    simp
end Go.Proofs.Ytabahmcbhapbiaa

namespace Go.Proofs.Ytabahmcbhapbiaa
open Go.RowKit Go.Lib
set_option linter.unusedVariables false
theorem hidR {p : Prop} (h : p) : Hid p := h
/-- The op that was handed in lies in the call's own block. -/
structure TyT (w W : World) (o : Op4) : Prop where
  bel : Below w.heap.size w W
  lt : w.heap.size < W.heap.size
  c0 : W.cell? ⟨w.heap.size, 0, none⟩ = some (.int .i64 o.k)
  c1 : W.cell? ⟨w.heap.size, 1, none⟩ = some (.int .i64 o.p)
  c2 : W.cell? ⟨w.heap.size, 2, none⟩ = some (.int .i64 o.b)
  c3 : W.cell? ⟨w.heap.size, 3, none⟩ = some (.int .i64 o.s)
  fr : ∀ j, W.frozen? ⟨w.heap.size, j, none⟩ = false
theorem TyT.set {w W : World} {o : Op4} (h : TyT w W o) (c : Nat) : TyT w (W.setCell ⟨w.heap.size, 3, none⟩ (.int .i64 (c : Int))) ⟨o.k, o.p, o.b, c⟩ :=
  ⟨bel_set h.bel (p := ⟨w.heap.size, 3, none⟩) (Nat.le_refl _) _, by simpa [World.setCell] using h.lt, by simp [go_sem, h.c0], by simp [go_sem, h.c1], by simp [go_sem, h.c2], by simp [go_sem, h.c3], fun j => by rw [World.frozen?_setCell]; exact h.fr j⟩
/-- The text is set. -/
def TyA (w : World) (own : Nat → Option Slot) (mb : Nat) (m : Moo) (L : Lay) (c : Nat) (o : Op4) (t : List UInt8) (W : World) : Prop :=
  ∃ own1, RefM W mb (m.set c { m.cl c with text := t }) L own1 ∧ Frm w own W own1 ∧ own1 w.heap.size = none ∧ w.heap.size < W.heap.size ∧ W.cell? ⟨w.heap.size, 0, none⟩ = some (.int .i64 o.k) ∧ W.cell? ⟨w.heap.size, 1, none⟩ = some (.int .i64 o.p) ∧ W.cell? ⟨w.heap.size, 2, none⟩ = some (.int .i64 o.b) ∧ W.cell? ⟨w.heap.size, 3, none⟩ = some (.int .i64 o.s)
theorem tyA_of {w w3 W : World} {own : Nat → Option Slot} {mb : Nat} {m : Moo} {L : Lay} (h : RefM w mb m L own) {c : Nat} (hc : c < m.n) {o : Op4} (t : List UInt8) (h3 : TyT w w3 o) (hW : Below w3.heap.size w3 W) : TyA w own mb m L c o t (W.setCell ⟨L.tb, c, none⟩ (str t)) := by
  have hb := bel_trans h3.bel hW
  have hlt := h.lto h.o1
  have hn : own w.heap.size = none := h.new (Nat.le_refl _)
  have e : ∀ j, (W.setCell ⟨L.tb, c, none⟩ (str t)).cell? ⟨w.heap.size, j, none⟩ = w3.cell? ⟨w.heap.size, j, none⟩ := fun j => (World.cell?_setCell_other _ _ _ _ (by simp only [ne_eq, Addr.mk.injEq]; omega)).trans (hW.cell (p := ⟨w.heap.size, j, none⟩) h3.lt)
  refine ⟨_, (h.below hb).textSet hc t, ((Frm.refl w own).below hb).trans (frame_reown (keptX_set L.tb c (str t)) (fun k e => by rw [e, h.o1]; simp) (fun k e => Or.inl (by cases e; rw [h.o1]; simp))), ?_, ?_, (e 0).trans h3.c0, (e 1).trans h3.c1, (e 2).trans h3.c2, (e 3).trans h3.c3⟩
  · by_cases e : reown own (1, 0) (some L.tb) w.heap.size = none
    · exact e
    · rcases reown_foot e with x | x
      · exact absurd hn x
      · have : L.tb = w.heap.size := by simpa using x
        omega
  · have := hW.size
    have := h3.lt
    simp [World.setCell]
    omega
/-- The message that the call gave lies at a new block. -/
def MsgAt (wc : World) (own : Nat → Option Slot) (mb : Nat) (L : Lay) (m2 : Moo) (xb : Nat) (x : Msg) (W : World) : Prop := ∃ L2 own2, SameL L L2 ∧ RefM W mb m2 L2 own2 ∧ Frm wc own W own2 ∧ (W.cell? ⟨xb, 0, none⟩ = some (.int .i64 x.o.k) ∧ W.cell? ⟨xb, 1, none⟩ = some (.int .i64 x.o.p) ∧ W.cell? ⟨xb, 2, none⟩ = some (.int .i64 x.o.b) ∧ W.cell? ⟨xb, 3, none⟩ = some (.int .i64 x.o.s) ∧ W.cell? ⟨xb, 4, none⟩ = some (.int .i64 (x.sent : Int)) ∧ W.cell? ⟨xb, 5, none⟩ = some (.int .i64 (x.came : Int))) ∧ own2 xb = none ∧ wc.heap.size ≤ xb ∧ xb < W.heap.size
theorem msgAt_new {wc W w1 : World} {own : Nat → Option Slot} {mb : Nat} {L : Lay} {m2 : Moo} (h : Took wc W own mb L m2 w1) (x : Msg) (t : TypeId) : MsgAt wc own mb L m2 w1.heap.size x (w1.alloc (.cells #[.int .i64 x.o.k, .int .i64 x.o.p, .int .i64 x.o.b, .int .i64 x.o.s, .int .i64 (x.sent : Int), .int .i64 (x.came : Int)] t)) := by
  obtain ⟨hb, L2, own2, hsl, hr, hf⟩ := h
  refine ⟨L2, own2, hsl, hr.keep (F := fun _ => False) ((KeptX.refl _ _).alloc _) (fun _ _ e => e), ?_, ⟨by simp [go_sem], by simp [go_sem], by simp [go_sem], by simp [go_sem], by simp [go_sem], by simp [go_sem]⟩, hr.new (Nat.le_refl _), Nat.le_trans hb.size hf.1.size, by simp⟩
  exact ((Frm.refl wc own).below hb).trans (hf.below (bel_alloc (Below.refl _ _) _))
abbrev Zero6 (w : World) (b : Nat) : Prop := ∀ o : Nat, w.cell? ⟨b, o, none⟩ = [Value.int .i64 0, .int .i64 0, .int .i64 0, .int .i64 0, .int .i64 0, .int .i64 0][o]?
theorem msgAt_set {wc W w1 : World} {own : Nat → Option Slot} {mb : Nat} {L : Lay} {m1 m2 : Moo} {L1 : Lay} (h : Took wc W own mb L m2 w1) (hm : RefM wc mb m1 L1 own) (hl : wc.heap.size < w1.heap.size) (hlW : wc.heap.size < W.heap.size) (hz : Zero6 w1 wc.heap.size) (x : Msg) :
    MsgAt wc own mb L m2 wc.heap.size x ((((((w1.setCell ⟨wc.heap.size, 0, none⟩ (.int .i64 x.o.k)).setCell ⟨wc.heap.size, 1, none⟩ (.int .i64 x.o.p)).setCell ⟨wc.heap.size, 2, none⟩ (.int .i64 x.o.b)).setCell ⟨wc.heap.size, 3, none⟩ (.int .i64 x.o.s)).setCell ⟨wc.heap.size, 4, none⟩ (.int .i64 (x.sent : Int))).setCell ⟨wc.heap.size, 5, none⟩ (.int .i64 (x.came : Int))) := by
  obtain ⟨hb, L2, own2, hsl, hr, hf⟩ := h
  have hn : own wc.heap.size = none := hm.new (Nat.le_refl _)
  have hn2 : own2 wc.heap.size = none := by
    by_cases e : own2 wc.heap.size = none
    · exact e
    · rcases hf.2 _ e with y | y
      · exact absurd hn y
      · omega
  have s0 := hz 0
  have s1 := hz 1
  have s2 := hz 2
  have s3 := hz 3
  have s4 := hz 4
  have s5 := hz 5
  simp at s0 s1 s2 s3 s4 s5
  have hk : KeptX (fun k => k = wc.heap.size) w1 ((((((w1.setCell ⟨wc.heap.size, 0, none⟩ (.int .i64 x.o.k)).setCell ⟨wc.heap.size, 1, none⟩ (.int .i64 x.o.p)).setCell ⟨wc.heap.size, 2, none⟩ (.int .i64 x.o.b)).setCell ⟨wc.heap.size, 3, none⟩ (.int .i64 x.o.s)).setCell ⟨wc.heap.size, 4, none⟩ (.int .i64 (x.sent : Int))).setCell ⟨wc.heap.size, 5, none⟩ (.int .i64 (x.came : Int))) :=
    ((((((KeptX.refl (fun k => k = wc.heap.size) w1).setCell (p := ⟨wc.heap.size, 0, none⟩) (fun _ => rfl) _).setCell (p := ⟨wc.heap.size, 1, none⟩) (fun _ => rfl) _).setCell (p := ⟨wc.heap.size, 2, none⟩) (fun _ => rfl) _).setCell (p := ⟨wc.heap.size, 3, none⟩) (fun _ => rfl) _).setCell (p := ⟨wc.heap.size, 4, none⟩) (fun _ => rfl) _).setCell (p := ⟨wc.heap.size, 5, none⟩) (fun _ => rfl) _
  have hF := ((Frm.refl wc own).below hb).trans hf
  refine ⟨L2, own2, hsl, hr.keep hk (fun k e e2 => e (by rw [e2]; exact hn2)), ⟨hF.1.trans hk (fun i hi e => absurd e (by omega)), hF.2⟩, ⟨by simp [go_sem, s0], by simp [go_sem, s1], by simp [go_sem, s2], by simp [go_sem, s3], by simp [go_sem, s4], by simp [go_sem, s5]⟩, hn2, Nat.le_refl _, Nat.lt_of_lt_of_le hl hk.size⟩
/-- The client when it has sent. -/
def sentC (x : Cli) (o : Op4) (t : List UInt8) : Cli := { x with text := t, hs := x.hs + 1, ho := x.ho ++ [o] }
section
variable {w w' W1 : World} {mb : Nat} {m : Moo} {L : Lay} {own : Nat → Option Slot}
theorem took_send {wc : World} {own1 : Nat → Option Slot} {c : Nat} {t : List UInt8} (hc : c < m.n) (hr1 : RefM wc mb (m.set c { m.cl c with text := t }) L own1) (o : Op4) (b1 : (m.cl c).hs ≤ 1000000000000000000) (hlen : (m.cl c).ho.length ≤ 1000000000) (W : World) (hW : Below wc.heap.size wc W) :
    Calls Try.prog 81 #[.pointer (some ⟨L.hb, c * 4, none⟩), .agg #[.int .i64 o.k, .int .i64 o.p, .int .i64 o.b, .int .i64 o.s]] W fun e w1 =>
      e = .returned (.agg #[.int .i64 o.k, .int .i64 o.p, .int .i64 o.b, .int .i64 o.s, .int .i64 ((m.cl c).hs : Int), .int .i64 ((m.cl c).hc : Int)]) ∧ Took wc W own1 mb L (m.set c (sentC (m.cl c) o t)) w1 := by
  have h2 := send_here (hr1.below hW) (c := c) hc o (by rw [set_at]; exact b1) (by rw [set_at]; exact hlen)
  refine h2.mono ?_
  rintro e w1 ⟨he, v', g', k1, k2⟩
  rw [set_at] at he
  rw [set_set, set_at] at k1
  refine ⟨he, hW, _, _, ?_, k1, k2⟩
  exact ⟨rfl, rfl, rfl, rfl, rfl, rfl⟩
theorem type_end {w1 wc : World} {own0 own1 own2 : Nat → Option Slot} {c : Nat} {t : List UInt8} {o : Op4} {L2 : Lay} {W2 : World} {v' : Value} {g' : Option Nat} (hc : c < m.n) (hf1 : Frm w own wc own2) (hr2 : RefM wc mb (m.set c (sentC (m.cl c) o t)) L2 own2)
    (hq : RowQ W2 6 v' (flat6 ((m.cl c).up ++ [⟨o, (m.cl c).hs, (m.cl c).hc⟩])) g') (hk : KeptX (fun k => L2.ug c = some k) wc.drew W2) (hg : g' = L2.ug c ∨ ∀ k, g' = some k → wc.drew.heap.size ≤ k) :
    (∃ L' own', RefM (W2.setCell ⟨L2.ub, c, none⟩ v') mb (m.set c (typeC (m.cl c) o t)) L' own' ∧ Frm w own (W2.setCell ⟨L2.ub, c, none⟩ v') own') ∧ W2.cell? ⟨L2.ub, c, none⟩ = wc.cell? ⟨L2.ub, c, none⟩ ∧ W2.frozen? ⟨L2.ub, c, none⟩ = false ∧ W2.cell? ⟨mb, 4, none⟩ = wc.cell? ⟨mb, 4, none⟩ := by
  have h2 := hr2.below (Below.refl wc.heap.size wc).drew
  have hub : ∀ k, L2.ug c = some k → own2 k = some (9, c) := fun k e => hr2.ow (9, c) k ⟨hc, e⟩
  have hnb : ¬ L2.ug c = some L2.ub := fun e => by have := hub _ e; rw [hr2.o4] at this; cases this
  have hlu := h2.lto h2.o4
  have hnm : ¬ L2.ug c = some mb := fun e => by have := hub _ e; rw [hr2.o0] at this; cases this
  have h3 := h2.upsSet (c := c) hc ((m.cl c).up ++ [⟨o, (m.cl c).hs, (m.cl c).hc⟩]) v' g' hk hq hg
  rw [set_set, set_at] at h3
  have hkk : KeptX (fun k => L2.ug c = some k ∨ k = L2.ub) wc.drew (W2.setCell ⟨L2.ub, c, none⟩ v') := (hk.mono (G := fun k => L2.ug c = some k ∨ k = L2.ub) (fun _ _ e => Or.inl e)).setCell (p := ⟨L2.ub, c, none⟩) (fun _ => Or.inr rfl) v'
  refine ⟨⟨_, _, h3, (hf1.below (Below.refl wc.heap.size wc).drew).trans (frame_reown hkk (fun k e => ?_) (fun k e => ?_))⟩, hk.cell (p := ⟨L2.ub, c, none⟩) hlu hnb, (hk.frozen (p := ⟨L2.ub, c, none⟩) hlu hnb).trans ((hr2.pc 4 0 (fun _ => rfl)).2 c), hk.cell (p := ⟨mb, 4, none⟩) (h2.lto h2.o0) hnm⟩
  · rcases e with e | e
    · rw [hub k e]; simp
    · rw [e, hr2.o4]; simp
  · rcases hg with x | x
    · left
      rw [hub k (by rw [← x]; exact e)]
      simp
    · exact Or.inr (x k e)
end
end Go.Proofs.Ytabahmcbhapbiaa

namespace Go.Proofs.Ytabahmcbhapbiaa
open Go.RowKit Go.Lib
set_option linter.unusedVariables false
section
variable {w w' W1 : World} {mb : Nat} {m : Moo} {L : Lay} {own : Nat → Option Slot}
theorem refType_full (h : RefM w mb m L own) (c : Nat) (o : Op4) (hc : c < m.n) (hk1 : o.k = 1) (hr : rightB o.k o.p o.b o.s = true) (hfit : fitsB (m.cl c).text.length o.k o.p = true) (hfull : 60 ≤ (m.cl c).text.length) :
    Calls Try.prog 51 #[.pointer (some ⟨mb, 0, none⟩), .int .i64 (c : Int), .agg #[.int .i64 o.k, .int .i64 o.p, .int .i64 o.b, .int .i64 o.s]] w fun e w' => e = .returned (.int .i64 3) ∧ Below w.heap.size w w' := by
  obtain ⟨⟨a0, a1, a2, a3, a4, a5, a6⟩, f⟩ := h.pc 0 0 (fun _ => rfl)
  have ht := (h.pc 1 0 (fun _ => rfl)).1 c hc
  have hlm := h.lto h.o0
  have hlt := h.lto h.o1
  have hc' : (c : Int) < (m.n : Int) := by omega
  have HI : Hid (∀ W, Below w.heap.size w W → Calls Try.prog 78 #[.pointer (some ⟨mb, 0, none⟩), .int .i64 (c : Int)] W fun e w' => e = .returned (.bool true) ∧ W = w') := fun W hW => by
    have := is_any mb (some ⟨L.tb, 0, none⟩) m.n L.tcap c W ((hW.cell (p := ⟨mb, 0, none⟩) hlm).trans a0)
    rw [isB_nat hc] at this
    exact this
  have HR : Hid (∀ W, Calls Try.prog 74 #[.agg #[.int .i64 o.k, .int .i64 o.p, .int .i64 o.b, .int .i64 o.s]] W fun e w' => e = .returned (.int .i64 0) ∧ Below W.heap.size W w') := fun W => by have := refRight_any o.k o.p o.b o.s W; rw [hr] at this; exact this
  have HF : Hid (∀ W, Calls Try.prog 79 #[str (m.cl c).text, .agg #[.int .i64 o.k, .int .i64 o.p, .int .i64 o.b, .int .i64 o.s]] W fun e w' => e = .returned (.bool true) ∧ Below W.heap.size W w') := fun W => by
    have := refFits_any ⟨(m.cl c).text.toArray⟩ o.k o.p o.b o.s (by omega) W
    rw [show ((ByteArray.mk (m.cl c).text.toArray).size : Int) = ((m.cl c).text.length : Int) by show ((m.cl c).text.toArray.size : Int) = _; simp, hfit] at this
    exact this
  have hsz : (((ByteArray.mk (m.cl c).text.toArray).size : Nat) : Int) = ((m.cl c).text.length : Int) := by show ((m.cl c).text.toArray.size : Int) = _; simp
  have e3 : (o.k == 0) = false := by simp [hk1]
  have e4 : (o.k == 1) = true := by simp [hk1]
  have hfl : 60 ≤ ((m.cl c).text.length : Int) := by omega
  clear h hk1 hr hfit hfull
  go_enter Try.func51, Try.ntmps51
  go_wp2_with (go_at_call 78; refine (HI.out _ ?_).mono ?_; exact bel_alloc (Below.refl _ _) _; rintro e w1 ⟨rfl, rfl⟩)
  refine (HR.out _).mono ?_
  rintro e w1 ⟨rfl, hb1⟩
  have hbw : Below w.heap.size w w1 := bel_trans (bel_alloc (Below.refl _ _) _) hb1
  have k0 : w1.cell? ⟨mb, 0, none⟩ = _ := (hbw.cell (p := ⟨mb, 0, none⟩) hlm).trans a0
  have k1 : w1.cell? ⟨L.tb, c, none⟩ = some (str (m.cl c).text) := (hbw.cell (p := ⟨L.tb, c, none⟩) hlt).trans ht
  obtain ⟨hc1, hf1⟩ := bcell hb1
  have o0 := hc1 w.heap.size 0 (by simp)
  have o1 := hc1 w.heap.size 1 (by simp)
  have o2 := hc1 w.heap.size 2 (by simp)
  have o3 := hc1 w.heap.size 3 (by simp)
  simp [go_sem] at o0 o1 o2 o3
  have hzz : w.heap.size < w1.heap.size := by have := hb1.size; simp at this; omega
  have HB : Hid (Below w.heap.size w w1) := hbw
  have HC : Hid (∀ W, Below w1.heap.size w1 W → (W.cell? ⟨mb, 0, none⟩ = some (.slice (some ⟨L.tb, 0, none⟩) m.n L.tcap) ∧ W.cell? ⟨L.tb, c, none⟩ = some (str (m.cl c).text) ∧ W.cell? ⟨w.heap.size, 0, none⟩ = some (.int .i64 o.k) ∧ W.cell? ⟨w.heap.size, 1, none⟩ = some (.int .i64 o.p) ∧ W.cell? ⟨w.heap.size, 2, none⟩ = some (.int .i64 o.b) ∧ W.cell? ⟨w.heap.size, 3, none⟩ = some (.int .i64 o.s)) ∧ Below w.heap.size w W) := fun W hW =>
    ⟨⟨(hW.cell (p := ⟨mb, 0, none⟩) (by show mb < _; omega)).trans k0, (hW.cell (p := ⟨L.tb, c, none⟩) (by show L.tb < _; omega)).trans k1, (hW.cell (p := ⟨w.heap.size, 0, none⟩) hzz).trans o0, (hW.cell (p := ⟨w.heap.size, 1, none⟩) hzz).trans o1, (hW.cell (p := ⟨w.heap.size, 2, none⟩) hzz).trans o2, (hW.cell (p := ⟨w.heap.size, 3, none⟩) hzz).trans o3⟩, bel_trans hbw hW⟩
  clear hb1 hbw hc1 hf1 HI HR a0 a1 a2 a3 a4 a5 a6 ht f
  go_wp2_with fail
  go_region_held3 (fun W => W.cell? ⟨mb, 0, none⟩ = some (.slice (some ⟨L.tb, 0, none⟩) m.n L.tcap) ∧ W.cell? ⟨L.tb, c, none⟩ = some (str (m.cl c).text) ∧ W.cell? ⟨w.heap.size, 0, none⟩ = some (.int .i64 o.k) ∧ W.cell? ⟨w.heap.size, 1, none⟩ = some (.int .i64 o.p) ∧ W.cell? ⟨w.heap.size, 2, none⟩ = some (.int .i64 o.b) ∧ W.cell? ⟨w.heap.size, 3, none⟩ = some (.int .i64 o.s)) (simp [go_sem, *]) ((go_at_call 79; refine (HF.out _).mono ?_; rintro e w2 ⟨rfl, hb2⟩; have hbx : Below w1.heap.size w1 w2 := bel_trans (by repeat (first | exact Below.refl _ _ | apply Below.drew | refine bel_alloc ?_ _)) hb2; obtain ⟨⟨t0, t1, t2, t3, t4, t5⟩, tb⟩ := HC.out w2 hbx; have HE : Hid (Below w.heap.size w w2) := tb; clear hb2 hbx tb))
  go_wp2
  go_ret
  exact ⟨rfl, HE.out⟩
theorem refType_busy (h : RefM w mb m L own) (c : Nat) (o : Op4) (hc : c < m.n) (hk1 : o.k = 1 ∨ o.k = 2) (hr : rightB o.k o.p o.b o.s = true) (hfit : fitsB (m.cl c).text.length o.k o.p = true) (hfull : o.k = 1 → (m.cl c).text.length < 60) (hbusy : 20 ≤ (m.cl c).ho.length) :
    Calls Try.prog 51 #[.pointer (some ⟨mb, 0, none⟩), .int .i64 (c : Int), .agg #[.int .i64 o.k, .int .i64 o.p, .int .i64 o.b, .int .i64 o.s]] w fun e w' => e = .returned (.int .i64 4) ∧ Below w.heap.size w w' := by
  obtain ⟨⟨a0, a1, a2, a3, a4, a5, a6⟩, f⟩ := h.pc 0 0 (fun _ => rfl)
  have ht := (h.pc 1 0 (fun _ => rfl)).1 c hc
  have hlm := h.lto h.o0
  have hlh := h.lto h.o2
  have hsd := ((h.pc 2 0 (fun _ => rfl)).1 c hc).2.2.2
  obtain ⟨qa, qc, hqv⟩ := rowq_len (h.pc 7 c (fun e => absurd e (by omega)) hc)
  have hsd' : w.cell? ⟨L.hb, c * 4 + 3, none⟩ = some (.slice qa (m.cl c).ho.length qc) := by rw [← hqv]; exact hsd
  clear hqv hsd
  have hlt := h.lto h.o1
  have hc' : (c : Int) < (m.n : Int) := by omega
  have HI : Hid (∀ W, Below w.heap.size w W → Calls Try.prog 78 #[.pointer (some ⟨mb, 0, none⟩), .int .i64 (c : Int)] W fun e w' => e = .returned (.bool true) ∧ W = w') := fun W hW => by
    have := is_any mb (some ⟨L.tb, 0, none⟩) m.n L.tcap c W ((hW.cell (p := ⟨mb, 0, none⟩) hlm).trans a0)
    rw [isB_nat hc] at this
    exact this
  have HR : Hid (∀ W, Calls Try.prog 74 #[.agg #[.int .i64 o.k, .int .i64 o.p, .int .i64 o.b, .int .i64 o.s]] W fun e w' => e = .returned (.int .i64 0) ∧ Below W.heap.size W w') := fun W => by have := refRight_any o.k o.p o.b o.s W; rw [hr] at this; exact this
  have HF : Hid (∀ W, Calls Try.prog 79 #[str (m.cl c).text, .agg #[.int .i64 o.k, .int .i64 o.p, .int .i64 o.b, .int .i64 o.s]] W fun e w' => e = .returned (.bool true) ∧ Below W.heap.size W w') := fun W => by
    have := refFits_any ⟨(m.cl c).text.toArray⟩ o.k o.p o.b o.s (by omega) W
    rw [show ((ByteArray.mk (m.cl c).text.toArray).size : Int) = ((m.cl c).text.length : Int) by show ((m.cl c).text.toArray.size : Int) = _; simp, hfit] at this
    exact this
  have hsz : (((ByteArray.mk (m.cl c).text.toArray).size : Nat) : Int) = ((m.cl c).text.length : Int) := by show ((m.cl c).text.toArray.size : Int) = _; simp
  have e3 : (o.k == 0) = false := by simp; omega
  have hbl : 20 ≤ ((m.cl c).ho.length : Int) := by omega
  have HX : Hid ((o.k = 1 ∨ o.k = 2) ∧ (o.k = 1 → (m.cl c).text.length < 60)) := ⟨hk1, hfull⟩
  clear h hk1 hr hfit hfull hbusy
  go_enter Try.func51, Try.ntmps51
  go_wp2_with (go_at_call 78; refine (HI.out _ ?_).mono ?_; exact bel_alloc (Below.refl _ _) _; rintro e w1 ⟨rfl, rfl⟩)
  refine (HR.out _).mono ?_
  rintro e w1 ⟨rfl, hb1⟩
  have hbw : Below w.heap.size w w1 := bel_trans (bel_alloc (Below.refl _ _) _) hb1
  have k0 : w1.cell? ⟨mb, 0, none⟩ = _ := (hbw.cell (p := ⟨mb, 0, none⟩) hlm).trans a0
  have k1 : w1.cell? ⟨L.tb, c, none⟩ = some (str (m.cl c).text) := (hbw.cell (p := ⟨L.tb, c, none⟩) hlt).trans ht
  obtain ⟨hc1, hf1⟩ := bcell hb1
  have o0 := hc1 w.heap.size 0 (by simp)
  have o1 := hc1 w.heap.size 1 (by simp)
  have o2 := hc1 w.heap.size 2 (by simp)
  have o3 := hc1 w.heap.size 3 (by simp)
  simp [go_sem] at o0 o1 o2 o3
  have hzz : w.heap.size < w1.heap.size := by have := hb1.size; simp at this; omega
  have HB : Hid (Below w.heap.size w w1) := hbw
  have HC : Hid (∀ W, Below w1.heap.size w1 W → (W.cell? ⟨mb, 0, none⟩ = some (.slice (some ⟨L.tb, 0, none⟩) m.n L.tcap) ∧ W.cell? ⟨L.tb, c, none⟩ = some (str (m.cl c).text) ∧ W.cell? ⟨w.heap.size, 0, none⟩ = some (.int .i64 o.k) ∧ W.cell? ⟨w.heap.size, 1, none⟩ = some (.int .i64 o.p) ∧ W.cell? ⟨w.heap.size, 2, none⟩ = some (.int .i64 o.b) ∧ W.cell? ⟨w.heap.size, 3, none⟩ = some (.int .i64 o.s)) ∧ (W.cell? ⟨mb, 2, none⟩ = some (.slice (some ⟨L.hb, 0, none⟩) m.n m.n) ∧ W.cell? ⟨L.hb, c * 4 + 3, none⟩ = some (.slice qa (m.cl c).ho.length qc)) ∧ Below w.heap.size w W) := fun W hW =>
    ⟨⟨(hW.cell (p := ⟨mb, 0, none⟩) (by show mb < _; omega)).trans k0, (hW.cell (p := ⟨L.tb, c, none⟩) (by show L.tb < _; omega)).trans k1, (hW.cell (p := ⟨w.heap.size, 0, none⟩) hzz).trans o0, (hW.cell (p := ⟨w.heap.size, 1, none⟩) hzz).trans o1, (hW.cell (p := ⟨w.heap.size, 2, none⟩) hzz).trans o2, (hW.cell (p := ⟨w.heap.size, 3, none⟩) hzz).trans o3⟩, ⟨((bel_trans hbw hW).cell (p := ⟨mb, 2, none⟩) hlm).trans a2, ((bel_trans hbw hW).cell (p := ⟨L.hb, c * 4 + 3, none⟩) hlh).trans hsd'⟩, bel_trans hbw hW⟩
  clear hb1 hbw hc1 hf1 HI HR a0 a1 a2 a3 a4 a5 a6 ht f
  go_wp2_with fail
  go_region_held3 (fun W => W.cell? ⟨mb, 0, none⟩ = some (.slice (some ⟨L.tb, 0, none⟩) m.n L.tcap) ∧ W.cell? ⟨L.tb, c, none⟩ = some (str (m.cl c).text) ∧ W.cell? ⟨w.heap.size, 0, none⟩ = some (.int .i64 o.k) ∧ W.cell? ⟨w.heap.size, 1, none⟩ = some (.int .i64 o.p) ∧ W.cell? ⟨w.heap.size, 2, none⟩ = some (.int .i64 o.b) ∧ W.cell? ⟨w.heap.size, 3, none⟩ = some (.int .i64 o.s)) (simp [go_sem, *]) ((go_at_call 79; refine (HF.out _).mono ?_; rintro e w2 ⟨rfl, hb2⟩; have hbx : Below w1.heap.size w1 w2 := bel_trans (by repeat (first | exact Below.refl _ _ | apply Below.drew | refine bel_alloc ?_ _)) hb2; obtain ⟨⟨t0, t1, t2, t3, t4, t5⟩, ⟨u0, u1⟩, tb⟩ := HC.out w2 hbx; have HE : Hid (Below w.heap.size w w2) := tb; clear hb2 hbx tb))
  clear hsd' HC HF HB k0 k1 o0 o1 o2 o3
  by_cases e1 : o.k = 1
  · have e4 : (o.k == 1) = true := by simp [e1]
    have hfl : ((m.cl c).text.length : Int) < 60 := by have := HX.out.2 e1; omega
    clear e1
    go_wp2
    all_goals go_ret
    all_goals exact ⟨rfl, HE.out⟩
  · have e4 : (o.k == 1) = false := by simp [e1]
    clear e1
    go_wp2
    all_goals go_ret
    all_goals exact ⟨rfl, HE.out⟩
end
end Go.Proofs.Ytabahmcbhapbiaa
