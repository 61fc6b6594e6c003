import Derived.Test.YtabahmcbhapbiaaQRow
import Derived.BigRegion
namespace Go.Proofs.Ytabahmcbhapbiaa
open Go.RowKit Go.Lib
set_option linter.unusedVariables false
set_option maxHeartbeats 2000000 in
theorem send_any (sb so : Nat) (sent came known : Int) (v : Value) (l : List Op4) (g : Option Nat) (ok op ob os1 : Int) (w : World) (hb : sb < w.heap.size)
    (h0 : w.cell? ⟨sb, so, none⟩ = some (.int .i64 sent)) (h1 : w.cell? ⟨sb, so + 1, none⟩ = some (.int .i64 came)) (h3 : w.cell? ⟨sb, so + 3, none⟩ = some v)
    (f0 : w.frozen? ⟨sb, so, none⟩ = false) (f3 : w.frozen? ⟨sb, so + 3, none⟩ = false) (hs0 : 0 ≤ sent) (hs1 : sent ≤ 1000000000000000000)
    (hq : RowQ w 4 v (flat4 l) g) (hg : g ≠ some sb) (hbig : (l.length + 1) * 32 ≤ 140737488355328) :
    Calls Try.prog 81 #[.pointer (some ⟨sb, so, none⟩), .agg #[.int .i64 ok, .int .i64 op, .int .i64 ob, .int .i64 os1]] w fun e w' =>
      e = .returned (.agg #[.int .i64 ok, .int .i64 op, .int .i64 ob, .int .i64 os1, .int .i64 sent, .int .i64 came]) ∧ ∃ v' g', w'.cell? ⟨sb, so, none⟩ = some (.int .i64 (sent + 1)) ∧ w'.cell? ⟨sb, so + 3, none⟩ = some v' ∧
        RowQ w' 4 v' (flat4 (l ++ [⟨ok, op, ob, os1⟩])) (some g') ∧ w.heap.size ≤ g' ∧ KeptX (fun k => k = sb) w w' ∧ (∀ j, j ≠ so → j ≠ so + 3 → w'.cell? ⟨sb, j, none⟩ = w.cell? ⟨sb, j, none⟩) ∧ (∀ j, w'.frozen? ⟨sb, j, none⟩ = w.frozen? ⟨sb, j, none⟩) := by
  obtain ⟨va, vc, hv⟩ := rowq_len hq
  subst hv
  have b1 : sb < w.heap.size + 1 := by omega
  have b2 : sb < w.heap.size + 1 + 1 := by omega
  have b3 : sb < w.heap.size + 1 + 1 + 1 := by omega
  obtain ⟨W0, hW0⟩ : ∃ W0, W0 = ((((w.setCell ⟨sb, so, none⟩ (.int .i64 (sent + 1))).alloc (.cells #[.int .i64 ok, .int .i64 op, .int .i64 ob, .int .i64 os1] 26)).alloc (.cells #[.int .i64 0, .int .i64 0, .int .i64 0, .int .i64 0, .int .i64 0, .int .i64 0] 147)).alloc
    (.cells #[.int .i64 ok, .int .i64 op, .int .i64 ob, .int .i64 os1, .int .i64 sent, .int .i64 came] 147)).drew := ⟨_, rfl⟩
  have hK0 : KeptX (fun k => k = sb) w W0 := by
    rw [hW0]; exact (((((KeptX.refl (fun k => k = sb) w).setCell (p := ⟨sb, so, none⟩) (fun _ => rfl) _).alloc _).alloc _).alloc _).drew
  have hz0 : W0.heap.size = w.heap.size + 1 + 1 + 1 := by rw [hW0]; simp
  have c0 : W0.cell? ⟨sb, so, none⟩ = some (.int .i64 (sent + 1)) := by rw [hW0]; simp [go_sem, b1, b2, hb, h0]
  have cj : ∀ j, j ≠ so → W0.cell? ⟨sb, j, none⟩ = w.cell? ⟨sb, j, none⟩ := fun j hj => by
    rw [hW0]
    simp [go_sem, b1, b2, hb, World.cell?_setCell_other _ _ _ _ (show (⟨sb, so, none⟩ : Addr) ≠ ⟨sb, j, none⟩ by simp only [ne_eq, Addr.mk.injEq]; omega)]
  have fj : ∀ j, W0.frozen? ⟨sb, j, none⟩ = w.frozen? ⟨sb, j, none⟩ := fun j => by rw [hW0]; simp [go_sem, b1, b2, hb]
  have m0 : ∀ j, W0.cell? ⟨w.heap.size, j, none⟩ = #[Value.int .i64 ok, .int .i64 op, .int .i64 ob, .int .i64 os1][j]? := fun j => by rw [hW0]; simp [go_sem]
  have m1 : ∀ j, W0.cell? ⟨w.heap.size + 1, j, none⟩ = #[Value.int .i64 0, .int .i64 0, .int .i64 0, .int .i64 0, .int .i64 0, .int .i64 0][j]? := fun j => by rw [hW0]; simp [go_sem]
  have m2 : ∀ j, W0.cell? ⟨w.heap.size + 1 + 1, j, none⟩ = #[Value.int .i64 ok, .int .i64 op, .int .i64 ob, .int .i64 os1, .int .i64 sent, .int .i64 came][j]? := fun j => by rw [hW0]; simp [go_sem]
  have n1 : ∀ j, W0.frozen? ⟨w.heap.size + 1, j, none⟩ = false := fun j => by rw [hW0]; simp [go_sem]
  -- both appends
  have HA : Hid (∀ Wl, Wl = W0 → ∃ v1 W1, (∀ ty, (Builtin.append_ #[49, 49] ty #[.slice none 0 0, .slice va l.length vc]).run Try.prog Wl = .ok v1 W1) ∧
      ((∀ j, j < 4 → W1.cell? ⟨w.heap.size, j, none⟩ = #[Value.int .i64 ok, .int .i64 op, .int .i64 ob, .int .i64 os1][j]?) ∧ w.heap.size < W1.heap.size ∧
      Hid (∃ v2 W2, (∀ ty, (Builtin.append_ #[49, 49] ty #[v1, .slice (some ⟨W1.heap.size, 0, none⟩) 1 1]).run Try.prog (W1.alloc (.cells #[.int .i64 ok, .int .i64 op, .int .i64 ob, .int .i64 os1] 26)) = .ok v2 W2) ∧
        (∃ a2 n2 c2 g2, v2 = .slice a2 n2 c2 ∧ RowQ W2 4 v2 (flat4 (l ++ [⟨ok, op, ob, os1⟩])) (some g2) ∧ w.heap.size + 1 + 1 + 1 ≤ g2 ∧ Below (w.heap.size + 1 + 1 + 1) W0 W2)))) := by
    intro Wl hWl
    rw [hWl]
    obtain ⟨v1, W1, e1, g1, q1, k1, d1⟩ := rowq_append (P := Try.prog) (t := 49) (tx := 49) W0 Try.underlying49 infoOp4 rfl (by decide) (RowQ.nil W0 4) (rowq_src Try.underlying49 (hq.keep hK0 (fun k hk e => hg (by rw [hk, e])))) (N := l.length) (by rw [flat4_len]; simp) (by omega) (by omega)
    rw [List.nil_append] at q1
    have kb1 : Below W0.heap.size W0 W1 := k1.below (Nat.le_refl _) (fun k _ h => by cases h)
    have hzz : w.heap.size + 1 + 1 + 1 ≤ W1.heap.size := by have := kb1.size; omega
    refine ⟨v1, W1, e1, fun j _ => ?_, by omega, ?_⟩
    · rw [kb1.cell (p := ⟨w.heap.size, j, none⟩) (by show w.heap.size < _; omega)]; exact m0 j
    · have hsrc : Src Try.prog 4 49 (.slice (some ⟨W1.heap.size, 0, none⟩) 1 1) 1 (flat4 [⟨ok, op, ob, os1⟩]) (W1.alloc (.cells #[.int .i64 ok, .int .i64 op, .int .i64 ob, .int .i64 os1] 26)) :=
        Src.ofSlice _ Try.underlying49 ⟨W1.heap.size, 0, none⟩ 1 1 _ rfl (fun j u hj => by
          rw [Addr.add_lit, Nat.zero_add, World.cell?_alloc_at (w := W1) _ _ _ j rfl]
          simpa [flat4, Op4.cells] using hj) (flat4_one _)
      have q1' := q1.keep (w' := W1.alloc (.cells #[.int .i64 ok, .int .i64 op, .int .i64 ob, .int .i64 os1] 26)) (F := fun _ => False) ((KeptX.refl _ _).alloc _) (fun _ _ h => h)
      obtain ⟨v2, W2, e2, g2, q2, k2, d2⟩ := rowq_append (P := Try.prog) (t := 49) (tx := 49) _ Try.underlying49 infoOp4 rfl (by decide) q1' hsrc (N := l.length + 1) (by rw [flat4_len, flat4_len]; simp; omega) hbig (by omega)
      rw [← flat4_append] at q2
      have hg1 : ∀ k, g1 = some k → w.heap.size + 1 + 1 + 1 ≤ k := fun k hk => by
        rcases d1 with d | d
        · rw [d] at hk; cases hk
        · rw [d] at hk; cases hk; omega
      have hne : ∃ gg, g2 = some gg := by
        rcases q2 with ⟨_, h, _⟩ | ⟨gg, _, _, _, h, _⟩
        · have := congrArg List.length h
          rw [flat4_len] at this
          simp at this
        · exact ⟨gg, h⟩
      obtain ⟨gg, rfl⟩ := hne
      obtain ⟨a2, c2, hv2⟩ := rowq_len q2
      refine ⟨v2, W2, e2, a2, _, c2, gg, hv2, q2, ?_, ?_⟩
      · rcases d2 with d | d
        · exact hg1 gg d.symm
        · cases d; simp; omega
      · refine ⟨k2.os.trans k1.os, k2.tape.trans k1.tape, k2.output.trans k1.output, by have := k2.size; simp at this; omega, fun k hk => ?_⟩
        have hk' : k < W0.heap.size := by omega
        rw [k2.block k (by simp; omega) (fun h => by have := hg1 k h; omega), Below.heap_alloc _ _ _ (by omega), kb1.block k hk']
  have HF : Hid (KeptX (fun k => k = sb) w W0 ∧ W0.heap.size = w.heap.size + 1 + 1 + 1 ∧ W0.cell? ⟨sb, so, none⟩ = some (.int .i64 (sent + 1)) ∧ (∀ j, j ≠ so → W0.cell? ⟨sb, j, none⟩ = w.cell? ⟨sb, j, none⟩) ∧ (∀ j, W0.frozen? ⟨sb, j, none⟩ = w.frozen? ⟨sb, j, none⟩) ∧
    (∀ j, W0.cell? ⟨w.heap.size + 1, j, none⟩ = #[Value.int .i64 0, .int .i64 0, .int .i64 0, .int .i64 0, .int .i64 0, .int .i64 0][j]?) ∧ (∀ j, W0.cell? ⟨w.heap.size + 1 + 1, j, none⟩ = #[Value.int .i64 ok, .int .i64 op, .int .i64 ob, .int .i64 os1, .int .i64 sent, .int .i64 came][j]?) ∧ (∀ j, W0.frozen? ⟨w.heap.size + 1, j, none⟩ = false)) :=
    ⟨hK0, hz0, c0, cj, fj, m1, m2, n1⟩
  have HX : Hid (∀ W2, Below (w.heap.size + 1 + 1 + 1) W0 W2 → W2.cell? ⟨sb, so + 3, none⟩ = some (.slice va l.length vc) ∧ W2.frozen? ⟨sb, so + 3, none⟩ = false ∧
      W2.cell? ⟨w.heap.size + 1 + 1, 0, none⟩ = some (.int .i64 ok) ∧ W2.cell? ⟨w.heap.size + 1 + 1, 1, none⟩ = some (.int .i64 op) ∧ W2.cell? ⟨w.heap.size + 1 + 1, 2, none⟩ = some (.int .i64 ob) ∧ W2.cell? ⟨w.heap.size + 1 + 1, 3, none⟩ = some (.int .i64 os1) ∧ W2.cell? ⟨w.heap.size + 1 + 1, 4, none⟩ = some (.int .i64 sent) ∧ W2.cell? ⟨w.heap.size + 1 + 1, 5, none⟩ = some (.int .i64 came) ∧
      W2.cell? ⟨w.heap.size + 1, 0, none⟩ = some (.int .i64 0) ∧ W2.cell? ⟨w.heap.size + 1, 1, none⟩ = some (.int .i64 0) ∧ W2.cell? ⟨w.heap.size + 1, 2, none⟩ = some (.int .i64 0) ∧ W2.cell? ⟨w.heap.size + 1, 3, none⟩ = some (.int .i64 0) ∧ W2.cell? ⟨w.heap.size + 1, 4, none⟩ = some (.int .i64 0) ∧ W2.cell? ⟨w.heap.size + 1, 5, none⟩ = some (.int .i64 0) ∧
      (∀ j, W2.frozen? ⟨w.heap.size + 1, j, none⟩ = false)) := fun W2 hb => by
    have e1 : ∀ j, W2.cell? ⟨w.heap.size + 1, j, none⟩ = _ := fun j => (hb.cell (p := ⟨w.heap.size + 1, j, none⟩) (by show w.heap.size + 1 < _; omega)).trans (m1 j)
    have e2 : ∀ j, W2.cell? ⟨w.heap.size + 1 + 1, j, none⟩ = _ := fun j => (hb.cell (p := ⟨w.heap.size + 1 + 1, j, none⟩) (by show w.heap.size + 1 + 1 < _; omega)).trans (m2 j)
    refine ⟨?_, ?_, e2 0, e2 1, e2 2, e2 3, e2 4, e2 5, e1 0, e1 1, e1 2, e1 3, e1 4, e1 5, fun j => ?_⟩
    · rw [hb.cell (p := ⟨sb, so + 3, none⟩) b3, cj (so + 3) (by omega)]; exact h3
    · rw [hb.frozen (p := ⟨sb, so + 3, none⟩) b3, fj]; exact f3
    · rw [hb.frozen (p := ⟨w.heap.size + 1, j, none⟩) (by show w.heap.size + 1 < _; omega)]; exact n1 j
  clear hq hK0 hz0 c0 cj fj m0 m1 m2 n1
  have q1 : ¬ (sb = w.heap.size + 1) := by omega
  have q2 : ¬ (sb = w.heap.size + 1 + 1) := by omega
  have HW0 : Hid (W0 = ((((w.setCell ⟨sb, so, none⟩ (.int .i64 (sent + 1))).alloc (.cells #[.int .i64 ok, .int .i64 op, .int .i64 ob, .int .i64 os1] 26)).alloc (.cells #[.int .i64 0, .int .i64 0, .int .i64 0, .int .i64 0, .int .i64 0, .int .i64 0] 147)).alloc
    (.cells #[.int .i64 ok, .int .i64 op, .int .i64 ob, .int .i64 os1, .int .i64 sent, .int .i64 came] 147)).drew) := hW0
  have tok1 : True := trivial
  clear hW0
  go_enter Try.func81, Try.ntmps81
  go_wp2
  go_region
  go_wp2_with (first | (at_builtin; have _t := tok1; refine wpList_append_ex _ rfl _ _ _ _ rfl _ _ rfl rfl _ (HA.out _ HW0.out.symm) ?_; rintro v1 W1 ⟨k0, z0, HA2⟩; clear tok1; have k00 := k0 0 (by decide); have k01 := k0 1 (by decide); have k02 := k0 2 (by decide); have k03 := k0 3 (by decide); simp only [List.getElem?_toArray, List.getElem?_cons_zero, List.getElem?_cons_succ] at k00 k01 k02 k03; clear k0) | (at_builtin; go_must (refine wpList_append_ex _ rfl _ _ _ _ rfl _ _ rfl rfl _ HA2.out ?_; rintro v2 W2 ⟨a2, n2, c2, g2, rfl, hq2, hg2, hb2⟩; obtain ⟨x0, x1, x2, x3, x4, x5, x6, x7, x8, x9, x10, x11, x12, x13, x14⟩ := HX.out W2 hb2; have HQ2 : Hid (RowQ W2 4 (.slice a2 n2 c2) (flat4 (l ++ [⟨ok, op, ob, os1⟩])) (some g2)) := hq2; have HB2 : Hid (Below (w.heap.size + 1 + 1 + 1) W0 W2) := hb2; clear hq2 hb2)))
  simp [bodyPost, results, Try.results81, go_sem, x0, x8, x9, x10, x11, x12, x13]
  obtain ⟨kK, hz, c0, cj, fj, _⟩ := HF.out
  have hb2 := HB2.out
  have kW : KeptX (fun k => k = sb) w W2 := ⟨hb2.os.trans kK.os, hb2.tape.trans kK.tape, hb2.output.trans kK.output, Nat.le_trans kK.size hb2.size, fun k hk hn => (hb2.block k (by omega)).trans (kK.block k hk hn), fun k o e ho => (hb2.block k (by have := (Array.getElem?_eq_some_iff.1 e).1; omega)).trans (kK.nc k o e ho)⟩
  refine ⟨(hb2.cell (p := ⟨sb, so, none⟩) b3).trans c0, g2, HQ2.out.keep (F := fun k => k = sb ∨ k = w.heap.size + 1) ?_ (fun k hk h => ?_), by omega, ?_, fun j hj1 hj2 => ?_, fun j => (hb2.frozen (p := ⟨sb, j, none⟩) b3).trans (fj j)⟩
  · exact ((((((((KeptX.refl _ _).setCell (p := ⟨sb, so + 3, none⟩) (fun _ => Or.inl rfl) _).setCell (p := ⟨w.heap.size + 1, 0, none⟩) (fun _ => Or.inr rfl) _).setCell (p := ⟨w.heap.size + 1, 1, none⟩) (fun _ => Or.inr rfl) _).setCell (p := ⟨w.heap.size + 1, 2, none⟩) (fun _ => Or.inr rfl) _).setCell (p := ⟨w.heap.size + 1, 3, none⟩) (fun _ => Or.inr rfl) _).setCell (p := ⟨w.heap.size + 1, 4, none⟩) (fun _ => Or.inr rfl) _).setCell (p := ⟨w.heap.size + 1, 5, none⟩) (fun _ => Or.inr rfl) _)
  · cases hk
    omega
  · exact (((((((kW.setCell (p := ⟨sb, so + 3, none⟩) (fun _ => rfl) _).setCell (p := ⟨w.heap.size + 1, 0, none⟩) (fun h => absurd h (by simp)) _).setCell (p := ⟨w.heap.size + 1, 1, none⟩) (fun h => absurd h (by simp)) _).setCell (p := ⟨w.heap.size + 1, 2, none⟩) (fun h => absurd h (by simp)) _).setCell (p := ⟨w.heap.size + 1, 3, none⟩) (fun h => absurd h (by simp)) _).setCell (p := ⟨w.heap.size + 1, 4, none⟩) (fun h => absurd h (by simp)) _).setCell (p := ⟨w.heap.size + 1, 5, none⟩) (fun h => absurd h (by simp)) _)
  · rw [World.cell?_setCell_other _ _ _ _ (by simp only [ne_eq, Addr.mk.injEq]; omega), hb2.cell (p := ⟨sb, j, none⟩) b3]
    exact cj j hj1
end Go.Proofs.Ytabahmcbhapbiaa
