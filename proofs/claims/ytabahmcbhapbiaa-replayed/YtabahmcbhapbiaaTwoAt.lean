import Derived.Test.YtabahmcbhapbiaaOps4
import Derived.Deep.RegionHeld3
namespace Go.Proofs.Ytabahmcbhapbiaa
open Go.RowKit Go.Lib
set_option linter.unusedVariables false

/-- An op's four cells, at the block b. -/
def Op4At (W : World) (b o : Nat) (u : Op4) : Prop :=
  W.cell? ⟨b, o, none⟩ = some (.int .i64 u.k) ∧ W.cell? ⟨b, o + 1, none⟩ = some (.int .i64 u.p) ∧ W.cell? ⟨b, o + 2, none⟩ = some (.int .i64 u.b) ∧ W.cell? ⟨b, o + 3, none⟩ = some (.int .i64 u.s)
def put4 (w : World) (b : Nat) (u : Op4) : World := (((w.setCell ⟨b, 0, none⟩ (.int .i64 u.k)).setCell ⟨b, 1, none⟩ (.int .i64 u.p)).setCell ⟨b, 2, none⟩ (.int .i64 u.b)).setCell ⟨b, 3, none⟩ (.int .i64 u.s)
def obj4 (u : Op4) (t : TypeId) : Obj := .cells #[.int .i64 u.k, .int .i64 u.p, .int .i64 u.b, .int .i64 u.s] t
theorem op4at_new (w : World) (u : Op4) (t : TypeId) : Op4At (w.alloc (obj4 u t)) w.heap.size 0 u := by
  unfold Op4At obj4; simp [go_sem]
theorem op4at_alloc {w : World} {b o : Nat} {u : Op4} (h : Op4At w b o u) (ob : Obj) : Op4At (w.alloc ob) b o u :=
  ⟨cell?_alloc_some ob h.1, cell?_alloc_some ob h.2.1, cell?_alloc_some ob h.2.2.1, cell?_alloc_some ob h.2.2.2⟩
theorem op4at_keep {F : Nat → Prop} {w w' : World} {b o : Nat} {u : Op4} (h : Op4At w b o u) (hk : KeptX F w w') (hb : b < w.heap.size) (hF : ¬ F b) : Op4At w' b o u :=
  ⟨(hk.cell (p := ⟨b, o, none⟩) hb hF).trans h.1, (hk.cell (p := ⟨b, o + 1, none⟩) hb hF).trans h.2.1, (hk.cell (p := ⟨b, o + 2, none⟩) hb hF).trans h.2.2.1, (hk.cell (p := ⟨b, o + 3, none⟩) hb hF).trans h.2.2.2⟩
theorem op4at_put {w : World} {b : Nat} {u : Op4} {x0 x1 x2 x3 : Value} (h0 : w.cell? ⟨b, 0, none⟩ = some x0) (h1 : w.cell? ⟨b, 1, none⟩ = some x1) (h2 : w.cell? ⟨b, 2, none⟩ = some x2) (h3 : w.cell? ⟨b, 3, none⟩ = some x3) : Op4At (put4 w b u) b 0 u := by
  unfold Op4At put4; simp [go_sem, h0, h1, h2, h3]
theorem op4at_put_far {w : World} {b c o : Nat} {u v : Op4} (h : Op4At w c o v) (hn : b ≠ c) : Op4At (put4 w b u) c o v := by
  have g : ∀ j, (put4 w b u).cell? ⟨c, j, none⟩ = w.cell? ⟨c, j, none⟩ := fun j => by
    unfold put4
    rw [World.cell?_setCell_far _ _ _ _ hn, World.cell?_setCell_far _ _ _ _ hn, World.cell?_setCell_far _ _ _ _ hn, World.cell?_setCell_far _ _ _ _ hn]
  exact ⟨(g _).trans h.1, (g _).trans h.2.1, (g _).trans h.2.2.1, (g _).trans h.2.2.2⟩
theorem put4_cell_far {w : World} {b c j : Nat} {u : Op4} (hn : b ≠ c) : (put4 w b u).cell? ⟨c, j, none⟩ = w.cell? ⟨c, j, none⟩ := by
  unfold put4
  rw [World.cell?_setCell_far _ _ _ _ hn, World.cell?_setCell_far _ _ _ _ hn, World.cell?_setCell_far _ _ _ _ hn, World.cell?_setCell_far _ _ _ _ hn]
theorem put4_size (w : World) (b : Nat) (u : Op4) : (put4 w b u).heap.size = w.heap.size := by unfold put4; simp [World.setCell]
theorem put4_keptX {F : Nat → Prop} {a w : World} (h : KeptX F a w) {b : Nat} (hb : b < a.heap.size → F b) (u : Op4) : KeptX F a (put4 w b u) := by
  unfold put4
  exact (((h.setCell (p := ⟨b, 0, none⟩) hb _).setCell (p := ⟨b, 1, none⟩) hb _).setCell (p := ⟨b, 2, none⟩) hb _).setCell (p := ⟨b, 3, none⟩) hb _
theorem put4_below {a w : World} (h : Below a.heap.size a w) {b : Nat} (hb : a.heap.size ≤ b) (u : Op4) : Below a.heap.size a (put4 w b u) := by
  unfold put4
  exact bel_set (bel_set (bel_set (bel_set h (p := ⟨b, 0, none⟩) hb _) (p := ⟨b, 1, none⟩) hb _) (p := ⟨b, 2, none⟩) hb _) (p := ⟨b, 3, none⟩) hb _

/-- Two results of a call, each at a new block. -/
def TwoAt (wr W : World) (ab bb : Nat) (u v : Op4) : Prop := wr.heap.size ≤ ab ∧ wr.heap.size ≤ bb ∧ Below wr.heap.size wr W ∧ Op4At W ab 0 u ∧ Op4At W bb 0 v
abbrev Zero4 (w : World) (b : Nat) : Prop := ∀ o : Nat, w.cell? ⟨b, o, none⟩ = [Value.int .i64 0, .int .i64 0, .int .i64 0, .int .i64 0][o]?
theorem Zero4.put {w : World} {b : Nat} {u : Op4} (h : Zero4 w b) : Op4At (put4 w b u) b 0 u := op4at_put (h 0) (h 1) (h 2) (h 3)
theorem two_aa {wr w1 : World} (hb : Below wr.heap.size wr w1) (u v : Op4) (t : TypeId) : TwoAt wr ((w1.alloc (obj4 u t)).alloc (obj4 v t)) w1.heap.size (w1.heap.size + 1) u v :=
  ⟨hb.size, Nat.le_succ_of_le hb.size, bel_alloc (bel_alloc hb _) _, op4at_alloc (op4at_new _ _ _) _, by have := op4at_new (w1.alloc (obj4 u t)) v t; rw [show (w1.alloc (obj4 u t)).heap.size = w1.heap.size + 1 by simp] at this; exact this⟩
theorem two_aa' {wr w1 : World} (hb : Below wr.heap.size wr w1) (u v : Op4) (t : TypeId) : TwoAt wr ((w1.alloc (obj4 v t)).alloc (obj4 u t)) (w1.heap.size + 1) w1.heap.size u v :=
  have h := two_aa hb v u t
  ⟨h.2.1, h.1, h.2.2.1, h.2.2.2.2, h.2.2.2.1⟩
theorem two_sa {wr w1 : World} (hb : Below wr.heap.size wr w1) (hz : Zero4 w1 wr.heap.size) (u v : Op4) (t : TypeId) : TwoAt wr ((put4 w1 wr.heap.size u).alloc (obj4 v t)) wr.heap.size w1.heap.size u v :=
  ⟨Nat.le_refl _, hb.size, bel_alloc (put4_below hb (Nat.le_refl _) _) _, op4at_alloc hz.put _, by have := op4at_new (put4 w1 wr.heap.size u) v t; rw [put4_size] at this; exact this⟩
theorem two_as {wr w1 : World} (hb : Below wr.heap.size wr w1) (hz : Zero4 w1 wr.heap.size) (u v : Op4) (t : TypeId) : TwoAt wr ((put4 w1 wr.heap.size v).alloc (obj4 u t)) w1.heap.size wr.heap.size u v :=
  have h := two_sa hb hz v u t
  ⟨h.2.1, h.1, h.2.2.1, h.2.2.2.2, h.2.2.2.1⟩
theorem two_ss {wr w1 : World} (hb : Below wr.heap.size wr w1) {a b : Nat} (ha : wr.heap.size ≤ a) (hb2 : wr.heap.size ≤ b) (hn : a ≠ b) (hz : Zero4 w1 a) (hz2 : Zero4 w1 b) (u v : Op4) : TwoAt wr (put4 (put4 w1 a u) b v) a b u v :=
  ⟨ha, hb2, put4_below (put4_below hb ha _) hb2 _, op4at_put_far hz.put (fun e => hn e.symm), op4at_put ((put4_cell_far hn).trans (hz2 0)) ((put4_cell_far hn).trans (hz2 1)) ((put4_cell_far hn).trans (hz2 2)) ((put4_cell_far hn).trans (hz2 3))⟩
/-! .. as the walk writes them -/
theorem lit_aa {wr w1 : World} (hb : Below wr.heap.size wr w1) (u v : Op4) (t : TypeId) : TwoAt wr ((w1.alloc (.cells #[.int .i64 u.k, .int .i64 u.p, .int .i64 u.b, .int .i64 u.s] t)).alloc (.cells #[.int .i64 v.k, .int .i64 v.p, .int .i64 v.b, .int .i64 v.s] t)) w1.heap.size (w1.heap.size + 1) u v := two_aa hb u v t
theorem lit_aa' {wr w1 : World} (hb : Below wr.heap.size wr w1) (u v : Op4) (t : TypeId) : TwoAt wr ((w1.alloc (.cells #[.int .i64 v.k, .int .i64 v.p, .int .i64 v.b, .int .i64 v.s] t)).alloc (.cells #[.int .i64 u.k, .int .i64 u.p, .int .i64 u.b, .int .i64 u.s] t)) (w1.heap.size + 1) w1.heap.size u v := two_aa' hb u v t
theorem lit_sa {wr w1 : World} (hb : Below wr.heap.size wr w1) (hz : Zero4 w1 wr.heap.size) (u v : Op4) (t : TypeId) : TwoAt wr (((((w1.setCell ⟨wr.heap.size, 0, none⟩ (.int .i64 u.k)).setCell ⟨wr.heap.size, 1, none⟩ (.int .i64 u.p)).setCell ⟨wr.heap.size, 2, none⟩ (.int .i64 u.b)).setCell ⟨wr.heap.size, 3, none⟩ (.int .i64 u.s)).alloc (.cells #[.int .i64 v.k, .int .i64 v.p, .int .i64 v.b, .int .i64 v.s] t)) wr.heap.size w1.heap.size u v := two_sa hb hz u v t
theorem lit_as {wr w1 : World} (hb : Below wr.heap.size wr w1) (hz : Zero4 w1 wr.heap.size) (u v : Op4) (t : TypeId) : TwoAt wr (((((w1.setCell ⟨wr.heap.size, 0, none⟩ (.int .i64 v.k)).setCell ⟨wr.heap.size, 1, none⟩ (.int .i64 v.p)).setCell ⟨wr.heap.size, 2, none⟩ (.int .i64 v.b)).setCell ⟨wr.heap.size, 3, none⟩ (.int .i64 v.s)).alloc (.cells #[.int .i64 u.k, .int .i64 u.p, .int .i64 u.b, .int .i64 u.s] t)) w1.heap.size wr.heap.size u v := two_as hb hz u v t
theorem lit_ss {wr w1 : World} (hb : Below wr.heap.size wr w1) (hz : Zero4 w1 wr.heap.size) (hz2 : Zero4 w1 (wr.heap.size + 1)) (u v : Op4) : TwoAt wr ((((((((w1.setCell ⟨wr.heap.size, 0, none⟩ (.int .i64 u.k)).setCell ⟨wr.heap.size, 1, none⟩ (.int .i64 u.p)).setCell ⟨wr.heap.size, 2, none⟩ (.int .i64 u.b)).setCell ⟨wr.heap.size, 3, none⟩ (.int .i64 u.s)).setCell ⟨(wr.heap.size + 1), 0, none⟩ (.int .i64 v.k)).setCell ⟨(wr.heap.size + 1), 1, none⟩ (.int .i64 v.p)).setCell ⟨(wr.heap.size + 1), 2, none⟩ (.int .i64 v.b)).setCell ⟨(wr.heap.size + 1), 3, none⟩ (.int .i64 v.s)) wr.heap.size (wr.heap.size + 1) u v := two_ss hb (Nat.le_refl _) (Nat.le_succ _) (Nat.ne_of_lt (Nat.lt_succ_self _)) hz hz2 u v
theorem lit_ss' {wr w1 : World} (hb : Below wr.heap.size wr w1) (hz : Zero4 w1 wr.heap.size) (hz2 : Zero4 w1 (wr.heap.size + 1)) (u v : Op4) : TwoAt wr ((((((((w1.setCell ⟨(wr.heap.size + 1), 0, none⟩ (.int .i64 u.k)).setCell ⟨(wr.heap.size + 1), 1, none⟩ (.int .i64 u.p)).setCell ⟨(wr.heap.size + 1), 2, none⟩ (.int .i64 u.b)).setCell ⟨(wr.heap.size + 1), 3, none⟩ (.int .i64 u.s)).setCell ⟨wr.heap.size, 0, none⟩ (.int .i64 v.k)).setCell ⟨wr.heap.size, 1, none⟩ (.int .i64 v.p)).setCell ⟨wr.heap.size, 2, none⟩ (.int .i64 v.b)).setCell ⟨wr.heap.size, 3, none⟩ (.int .i64 v.s)) (wr.heap.size + 1) wr.heap.size u v := two_ss hb (Nat.le_succ _) (Nat.le_refl _) (Nat.ne_of_gt (Nat.lt_succ_self _)) hz2 hz u v
end Go.Proofs.Ytabahmcbhapbiaa
