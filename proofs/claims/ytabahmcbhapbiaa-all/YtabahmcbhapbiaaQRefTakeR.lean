import Derived.Test.YtabahmcbhapbiaaQRow
import Derived.Test.YtabahmcbhapbiaaQRefSend
import Derived.Test.YtabahmcbhapbiaaQMath
import Derived.Test.YtabahmcbhapbiaaQTurnAll
import Derived.Deep.RegionHeld3
import Derived.Deep.DeepCutAuto
import Derived.Deep.LoopGhost
namespace Go.Proofs.Ytabahmcbhapbiaa
open Go.RowKit Go.Lib
set_option linter.unusedVariables false

/-- An op that may be turned without a number running over. -/
def Bd (M : Int) (o : Op4) : Prop := (o.k = 0 ∨ o.k = 1 ∨ o.k = 2) ∧ 0 ≤ o.p ∧ o.p ≤ M
theorem bd_turn {M N : Int} {a b : Op4} (ha : Bd M a) (hb : Bd N b) : Bd (M + 1) (turn a b).1 ∧ Bd (N + 1) (turn a b).2 := by
  obtain ⟨ak, ap, ab, as1⟩ := a
  obtain ⟨bk, bp, bb, bs⟩ := b
  obtain ⟨ha1, ha2, ha3⟩ := ha
  obtain ⟨hb1, hb2, hb3⟩ := hb
  simp only at ha1 ha2 ha3 hb1 hb2 hb3
  unfold turn
  simp only
  repeat' split
  all_goals (refine ⟨⟨?_, ?_, ?_⟩, ⟨?_, ?_, ?_⟩⟩ <;> simp only <;> first | omega | simp)
theorem bd_cross {N : Int} : ∀ {l : List Op4} {M : Int} {o : Op4}, Bd M o → (∀ x ∈ l, Bd N x) → Bd (M + l.length) (cross o l).1 ∧ ∀ x ∈ (cross o l).2, Bd (N + 1) x
  | [], M, o, ho, _ => ⟨by rw [cross_nil]; simpa using ho, fun x hx => (by cases hx)⟩
  | y :: l, M, o, ho, hl => by
    have h := bd_turn ho (hl y (by simp))
    have ih := bd_cross (l := l) h.1 (fun x hx => hl x (by simp [hx]))
    rw [cross_cons]
    refine ⟨?_, fun x hx => ?_⟩
    · have := ih.1
      rw [show M + 1 + (l.length : Int) = M + ((y :: l).length : Int) by simp; omega] at this
      exact this
    · rcases List.mem_cons.1 hx with rfl | hx
      · exact h.2
      · exact ih.2 x hx
theorem cross_take (o : Op4) (L : List Op4) (k : Nat) (hk : k < L.length) : cross o (L.take (k + 1)) = ((turn (cross o (L.take k)).1 L[k]).1, (cross o (L.take k)).2 ++ [(turn (cross o (L.take k)).1 L[k]).2]) := by
  rw [List.take_add_one, List.getElem?_eq_getElem hk, cross_append]
  simp [cross_cons, cross_nil]

/-- One round: the op and one of the open ones are turned. -/
theorem rowq_cell4 {w : World} {gb off n cap : Nat} {l : List Op4} (h7 : ∀ j x, (flat4 l)[j]? = some x → w.cell? ⟨gb, off + j, none⟩ = some x) (k : Nat) (hk : k < l.length) :
    w.cell? ⟨gb, off + k * 4, none⟩ = some (.int .i64 l[k].k) ∧ w.cell? ⟨gb, off + k * 4 + 1, none⟩ = some (.int .i64 l[k].p) ∧ w.cell? ⟨gb, off + k * 4 + 2, none⟩ = some (.int .i64 l[k].b) ∧ w.cell? ⟨gb, off + k * 4 + 3, none⟩ = some (.int .i64 l[k].s) := by
  have g : ∀ i, i < 4 → ∀ v, l[k].cells[i]? = some v → w.cell? ⟨gb, off + (k * 4 + i), none⟩ = some v := fun i hi v hv => h7 _ v ((flat4_at l k i hk hi).trans hv)
  exact ⟨g 0 (by omega) _ rfl, g 1 (by omega) _ rfl, g 2 (by omega) _ rfl, g 3 (by omega) _ rfl⟩

/-- How the loop stands: 'n0': the first block that the call made; W0: the world ahead of the loop. -/
def TakeAt (n0 : Nat) (W0 : World) (r : Op4 × List Op4) (lv : Value) (W : World) : Prop :=
  ∃ (a : Option Addr) (n c : Nat) (g : Option Nat), lv = .slice a n c ∧ RowQ W 4 lv (flat4 r.2) g ∧ (∀ x, g = some x → n0 + 1 + 1 + 1 ≤ x) ∧ KeptX (fun k => k = n0 + 1 + 1) W0 W ∧
    W.cell? ⟨n0 + 1 + 1, 0, none⟩ = some (.int .i64 r.1.k) ∧ W.cell? ⟨n0 + 1 + 1, 1, none⟩ = some (.int .i64 r.1.p) ∧ W.cell? ⟨n0 + 1 + 1, 2, none⟩ = some (.int .i64 r.1.b) ∧ W.cell? ⟨n0 + 1 + 1, 3, none⟩ = some (.int .i64 r.1.s) ∧ (∀ j, W.frozen? ⟨n0 + 1 + 1, j, none⟩ = false)

/-- One round: the op is stored, the other one is appended. -/
theorem take_round {n0 : Nat} {W0 wr wc : World} (hz0 : W0.heap.size = n0 + 3) {r : Op4 × List Op4} {a : Option Addr} {n c ab bb : Nat} {u v : Op4} (hlen : (r.2.length + 1) * 32 ≤ 140737488355328) (hT : TakeAt n0 W0 r (.slice a n c) wr) (h2 : TwoAt wr wc ab bb u v) :
    ∃ v' W', (∀ ty, (Builtin.append_ #[49, 49] ty #[.slice a n c, .slice (some ⟨wc.heap.size, 0, none⟩) 1 1]).run Try.prog (((((wc.setCell ⟨n0 + 1 + 1, 0, none⟩ (.int .i64 u.k)).setCell ⟨n0 + 1 + 1, 1, none⟩ (.int .i64 u.p)).setCell ⟨n0 + 1 + 1, 2, none⟩ (.int .i64 u.b)).setCell ⟨n0 + 1 + 1, 3, none⟩ (.int .i64 u.s)).alloc (.cells #[.int .i64 v.k, .int .i64 v.p, .int .i64 v.b, .int .i64 v.s] 26)) = .ok v' W') ∧
      (∃ a' n' c', v' = .slice a' n' c') ∧ TakeAt n0 W0 (u, r.2 ++ [v]) v' W' := by
  obtain ⟨a0, n1, c1, g, hv, hq, hg, hk, y0, y1, y2, y3, yf⟩ := hT
  obtain ⟨hab, hbb, hbel, hu, hv4⟩ := h2
  show ∃ v' W', (∀ ty, (Builtin.append_ #[49, 49] ty #[.slice a n c, .slice (some ⟨wc.heap.size, 0, none⟩) 1 1]).run Try.prog ((put4 wc (n0 + 1 + 1) u).alloc (obj4 v 26)) = .ok v' W') ∧ _
  have hsz : n0 + 3 ≤ wr.heap.size := by have := hk.size; omega
  have hszc : wr.heap.size ≤ wc.heap.size := hbel.size
  have kc : KeptX (fun k => k = n0 + 1 + 1) W0 wc := hk.trans (KeptX.of_below (F := fun _ => False) hbel) (fun _ _ h => h.elim)
  have kp : KeptX (fun k => k = n0 + 1 + 1) W0 ((put4 wc (n0 + 1 + 1) u).alloc (obj4 v 26)) := (put4_keptX kc (fun _ => rfl) u).alloc _
  have hsp : ((put4 wc (n0 + 1 + 1) u).alloc (obj4 v 26)).heap.size = wc.heap.size + 1 := by rw [show ((put4 wc (n0 + 1 + 1) u).alloc (obj4 v 26)).heap.size = (put4 wc (n0 + 1 + 1) u).heap.size + 1 by simp, put4_size]
  have hq2 : RowQ ((put4 wc (n0 + 1 + 1) u).alloc (obj4 v 26)) 4 (.slice a n c) (flat4 r.2) g := by
    refine hq.keep (F := fun k => k = n0 + 1 + 1) ((put4_keptX (KeptX.of_below (F := fun k => k = n0 + 1 + 1) hbel) (fun _ => rfl) u).alloc _) (fun k hk1 e => ?_)
    have := hg k hk1
    omega
  have hsrc : Src Try.prog 4 49 (.slice (some ⟨wc.heap.size, 0, none⟩) 1 1) 1 (flat4 [v]) ((put4 wc (n0 + 1 + 1) u).alloc (obj4 v 26)) :=
    Src.ofSlice _ Try.underlying49 ⟨wc.heap.size, 0, none⟩ 1 1 _ rfl (fun j y hj => by
      rw [Addr.add_lit, Nat.zero_add]
      unfold obj4
      rw [World.cell?_alloc_at (w := put4 wc (n0 + 1 + 1) u) _ _ wc.heap.size j (put4_size _ _ _).symm]
      simpa [flat4, Op4.cells] using hj) (flat4_one _)
  obtain ⟨v2, W2, e2, g2, q2, k2, d2⟩ := rowq_append (P := Try.prog) (t := 49) (tx := 49) _ Try.underlying49 infoOp4 rfl (by decide) hq2 hsrc (N := r.2.length + 1) (by rw [flat4_len, flat4_len]; simp; omega) hlen (by omega)
  rw [← flat4_append] at q2
  obtain ⟨a2, c2, hv2⟩ := rowq_len q2
  have hg0 : ∀ k, g = some k → n0 + 1 + 1 + 1 ≤ k := hg
  have kk : KeptX (fun k => k = n0 + 1 + 1) W0 W2 := kp.trans k2 (fun i hi h => by have := hg0 i h; omega)
  have far : ¬ (fun k => g = some k) (n0 + 1 + 1) := fun h => by have := hg0 _ h; omega
  have hop : Op4At W2 (n0 + 1 + 1) 0 u := by
    refine op4at_keep (op4at_alloc (op4at_put (x0 := .int .i64 r.1.k) (x1 := .int .i64 r.1.p) (x2 := .int .i64 r.1.b) (x3 := .int .i64 r.1.s) ?_ ?_ ?_ ?_) _) k2 (by rw [hsp]; omega) far
    · rw [hbel.cell (p := ⟨n0 + 1 + 1, 0, none⟩) (by show n0 + 1 + 1 < _; omega)]; exact y0
    · rw [hbel.cell (p := ⟨n0 + 1 + 1, 1, none⟩) (by show n0 + 1 + 1 < _; omega)]; exact y1
    · rw [hbel.cell (p := ⟨n0 + 1 + 1, 2, none⟩) (by show n0 + 1 + 1 < _; omega)]; exact y2
    · rw [hbel.cell (p := ⟨n0 + 1 + 1, 3, none⟩) (by show n0 + 1 + 1 < _; omega)]; exact y3
  refine ⟨v2, W2, e2, ⟨_, _, _, hv2⟩, a2, _, c2, g2, hv2, q2, fun k hk1 => ?_, kk, hop.1, hop.2.1, hop.2.2.1, hop.2.2.2, fun j => ?_⟩
  · rcases d2 with d | d
    · exact hg0 k (d.symm.trans hk1)
    · rw [d] at hk1; cases hk1; rw [hsp]; omega
  · rw [k2.frozen (p := ⟨n0 + 1 + 1, j, none⟩) (by show n0 + 1 + 1 < _; rw [hsp]; omega) far]
    unfold put4 obj4
    simp [go_sem, hbel.frozen (p := ⟨n0 + 1 + 1, j, none⟩) (show n0 + 1 + 1 < _ by omega), yf j, show n0 + 1 + 1 < wc.heap.size by omega]
end Go.Proofs.Ytabahmcbhapbiaa
