import Derived.Test.YtabahmcbhapbiaaQRow
namespace Go.Proofs.Ytabahmcbhapbiaa
open Go.RowKit Go.Lib
set_option linter.unusedVariables false

theorem infoDMsg : (Try.prog.info? 94).map (fun i => (i.zero, i.size, i.bytes)) = some (some (.agg #[.int .i64 0, .int .i64 0, .int .i64 0, .int .i64 0, .int .i64 0, .int .i64 0]), 6, 48) := by kernel_rfl

/-- An end: sent, came, the open ops, the queue; each of the two lists in a block of its own. -/
structure EndAt (w : World) (b o : Nat) (s c : Nat) (vo vq : Value) (l : List Op4) (q : List Msg) (go gq : Option Nat) : Prop where
  lt : b < w.heap.size
  c0 : w.cell? ⟨b, o, none⟩ = some (.int .i64 (s : Int))
  c1 : w.cell? ⟨b, o + 1, none⟩ = some (.int .i64 (c : Int))
  c2 : w.cell? ⟨b, o + 2, none⟩ = some vo
  c3 : w.cell? ⟨b, o + 3, none⟩ = some vq
  qo : RowQ w 4 vo (flat4 l) go
  qq : RowQ w 6 vq (flat6 q) gq
  fr : ∀ j, w.frozen? ⟨b, j, none⟩ = false
  no : go ≠ some b
  nq : gq ≠ some b
  ne : ∀ k, go = some k → gq ≠ some k

/-- What a call on an end may turn. -/
structure EndKept (w w' : World) (b o : Nat) (go gq go' gq' : Option Nat) : Prop where
  kx : KeptX (fun k => k = b ∨ go = some k ∨ gq = some k) w w'
  ot : ∀ j, (j < o ∨ o + 4 ≤ j) → w'.cell? ⟨b, j, none⟩ = w.cell? ⟨b, j, none⟩
  fo : ∀ k, go' = some k → go = some k ∨ w.heap.size ≤ k
  fq : ∀ k, gq' = some k → gq = some k ∨ w.heap.size ≤ k

/-- A call that set a cell of an end. -/
structure EndSet (w w' : World) (b o : Nat) (s c : Nat) (vo vq : Value) (l : List Op4) (q : List Msg) (go gq : Option Nat) : Prop where
  en : EndAt w' b o s c vo vq l q go gq
  kx : KeptX (fun k => k = b) w w'
  ot : ∀ j, (j < o ∨ o + 4 ≤ j) → w'.cell? ⟨b, j, none⟩ = w.cell? ⟨b, j, none⟩
/-- What turns no block of an end keeps it. -/
theorem EndAt.keep {w w' : World} {b o s c : Nat} {vo vq : Value} {l : List Op4} {q : List Msg} {go gq : Option Nat} {F : Nat → Prop} (h : EndAt w b o s c vo vq l q go gq) (hk : KeptX F w w') (hF : ∀ k, (k = b ∨ go = some k ∨ gq = some k) → ¬ F k) : EndAt w' b o s c vo vq l q go gq :=
  have cl : ∀ j, w'.cell? ⟨b, j, none⟩ = w.cell? ⟨b, j, none⟩ := fun j => hk.cell (p := ⟨b, j, none⟩) h.lt (hF b (Or.inl rfl))
  ⟨Nat.lt_of_lt_of_le h.lt hk.size, (cl _).trans h.c0, (cl _).trans h.c1, (cl _).trans h.c2, (cl _).trans h.c3, h.qo.keep hk (fun k e => hF k (Or.inr (Or.inl e))), h.qq.keep hk (fun k e => hF k (Or.inr (Or.inr e))),
    fun j => (hk.frozen (p := ⟨b, j, none⟩) h.lt (hF b (Or.inl rfl))).trans (h.fr j), h.no, h.nq, h.ne⟩
theorem EndAt.below {w w' : World} {b o s c : Nat} {vo vq : Value} {l : List Op4} {q : List Msg} {go gq : Option Nat} (h : EndAt w b o s c vo vq l q go gq) (hb : Below w.heap.size w w') : EndAt w' b o s c vo vq l q go gq :=
  h.keep (KeptX.of_below (F := fun _ => False) hb) (fun _ _ e => e)

section
variable {w : World} {b o s c : Nat} {vo vq : Value} {l : List Op4} {q : List Msg} {go gq : Option Nat}
theorem EndSet.below {w w1 w2 : World} (h : EndSet w w1 b o s c vo vq l q go gq) (hb : Below w1.heap.size w1 w2) : EndSet w w2 b o s c vo vq l q go gq :=
  ⟨h.en.below hb, h.kx.trans (KeptX.of_below (F := fun _ => False) hb) (fun _ _ e => e.elim), fun j hj => (hb.cell (p := ⟨b, j, none⟩) h.en.lt).trans (h.ot j hj)⟩
theorem EndAt.setO (h : EndAt w b o s c vo vq l q go gq) (v : Value) (l' : List Op4) (hq : RowQ w 4 v (flat4 l') go) : EndSet w (w.setCell ⟨b, o + 2, none⟩ v) b o s c v vq l' q go gq := by
  have hk : KeptX (fun k => k = b) w (w.setCell ⟨b, o + 2, none⟩ v) := (KeptX.refl (fun k => k = b) w).setCell (p := ⟨b, o + 2, none⟩) (fun _ => rfl) v
  have ho : ∀ j, j ≠ o + 2 → (w.setCell ⟨b, o + 2, none⟩ v).cell? ⟨b, j, none⟩ = w.cell? ⟨b, j, none⟩ := fun j hj => World.cell?_setCell_other _ _ _ _ (by simp only [ne_eq, Addr.mk.injEq]; omega)
  refine ⟨⟨Nat.lt_of_lt_of_le h.lt hk.size, (ho _ (by omega)).trans h.c0, (ho _ (by omega)).trans h.c1, by have := h.c2; simp [go_sem, this], (ho _ (by omega)).trans h.c3, hq.keep hk (fun k e e2 => h.no (by rw [e, e2])), h.qq.keep hk (fun k e e2 => h.nq (by rw [e, e2])), fun j => by rw [World.frozen?_setCell]; exact h.fr j, h.no, h.nq, h.ne⟩, hk, fun j hj => ho j (by omega)⟩
theorem EndAt.setQ (h : EndAt w b o s c vo vq l q go gq) (v : Value) (q' : List Msg) (hq : RowQ w 6 v (flat6 q') gq) : EndSet w (w.setCell ⟨b, o + 3, none⟩ v) b o s c vo v l q' go gq := by
  have hk : KeptX (fun k => k = b) w (w.setCell ⟨b, o + 3, none⟩ v) := (KeptX.refl (fun k => k = b) w).setCell (p := ⟨b, o + 3, none⟩) (fun _ => rfl) v
  have ho : ∀ j, j ≠ o + 3 → (w.setCell ⟨b, o + 3, none⟩ v).cell? ⟨b, j, none⟩ = w.cell? ⟨b, j, none⟩ := fun j hj => World.cell?_setCell_other _ _ _ _ (by simp only [ne_eq, Addr.mk.injEq]; omega)
  refine ⟨⟨Nat.lt_of_lt_of_le h.lt hk.size, (ho _ (by omega)).trans h.c0, (ho _ (by omega)).trans h.c1, (ho _ (by omega)).trans h.c2, by have := h.c3; simp [go_sem, this], h.qo.keep hk (fun k e e2 => h.no (by rw [e, e2])), hq.keep hk (fun k e e2 => h.nq (by rw [e, e2])), fun j => by rw [World.frozen?_setCell]; exact h.fr j, h.no, h.nq, h.ne⟩, hk, fun j hj => ho j (by omega)⟩
theorem EndAt.setC (h : EndAt w b o s c vo vq l q go gq) (c' : Nat) : EndSet w (w.setCell ⟨b, o + 1, none⟩ (.int .i64 (c' : Int))) b o s c' vo vq l q go gq := by
  have hk : KeptX (fun k => k = b) w (w.setCell ⟨b, o + 1, none⟩ (.int .i64 (c' : Int))) := (KeptX.refl (fun k => k = b) w).setCell (p := ⟨b, o + 1, none⟩) (fun _ => rfl) _
  have ho : ∀ j, j ≠ o + 1 → (w.setCell ⟨b, o + 1, none⟩ (.int .i64 (c' : Int))).cell? ⟨b, j, none⟩ = w.cell? ⟨b, j, none⟩ := fun j hj => World.cell?_setCell_other _ _ _ _ (by simp only [ne_eq, Addr.mk.injEq]; omega)
  refine ⟨⟨Nat.lt_of_lt_of_le h.lt hk.size, (ho _ (by omega)).trans h.c0, by have := h.c1; simp [go_sem, this], (ho _ (by omega)).trans h.c2, (ho _ (by omega)).trans h.c3, h.qo.keep hk (fun k e e2 => h.no (by rw [e, e2])), h.qq.keep hk (fun k e e2 => h.nq (by rw [e, e2])), fun j => by rw [World.frozen?_setCell]; exact h.fr j, h.no, h.nq, h.ne⟩, hk, fun j hj => ho j (by omega)⟩
end
/-- A list of rows, from the row d on. -/
theorem rowq4_drop {w : World} {a : Option Addr} {n cap : Nat} {l : List Op4} {g : Option Nat} (h : RowQ w 4 (.slice a n cap) (flat4 l) g) {d : Nat} (hd : d ≤ l.length) :
    (a = none ∧ n = 0 ∧ cap = 0 ∧ l = [] ∧ g = none) ∨ ∃ gb off, a = some ⟨gb, off, none⟩ ∧ g = some gb ∧ n = l.length ∧ n ≤ cap ∧ cap ≤ 9223372036854775807 ∧ RowQ w 4 (.slice (some ⟨gb, off + d * 4, none⟩) (l.length - d) (cap - d)) (flat4 (l.drop d)) g ∧ (cap = d → RowQ w 4 (.slice (some ⟨gb, off, none⟩) (l.length - d) 0) (flat4 (l.drop d)) g) := by
  rcases h with ⟨h1, h2, h3⟩ | ⟨gb, off, n', cap', hg, hv, h3, h4, h5, h6, h7, h8⟩
  · have e0 : l = [] := by
      have := congrArg List.length h2
      rw [flat4_len] at this
      exact List.length_eq_zero_iff.1 (by simp only [List.length_nil] at this; omega)
    cases h1
    exact Or.inl ⟨rfl, rfl, rfl, e0, h3⟩
  · cases hv
    have e0 : n = l.length := by rw [flat4_len] at h3; omega
    subst e0
    refine Or.inr ⟨gb, off, rfl, hg, rfl, h4, h5, Or.inr ⟨gb, off + d * 4, l.length - d, cap - d, hg, rfl, by rw [flat4_len, List.length_drop], by omega, by omega, h6, fun j y hj => ?_, fun j hj => ?_⟩, fun e => Or.inr ⟨gb, off, l.length - d, 0, hg, rfl, by rw [flat4_len, List.length_drop], by omega, by omega, h6, fun j y hj => ?_, fun j hj => by omega⟩⟩
    · rw [Nat.add_assoc]
      refine h7 (d * 4 + j) y ?_
      have : flat4 l = flat4 (l.take d) ++ flat4 (l.drop d) := by rw [← flat4_append, List.take_append_drop]
      rw [this, List.getElem?_append_right (by rw [flat4_len, List.length_take]; omega), flat4_len, List.length_take, show d * 4 + j - min d l.length * 4 = j by rw [Nat.min_eq_left hd]; omega]
      exact hj
    · rw [Nat.add_assoc]
      exact h8 (d * 4 + j) (by omega)
    · have := (List.getElem?_eq_some_iff.1 hj).1
      rw [flat4_len, List.length_drop] at this
      omega
/-- 'append(q, x)' of one message. -/
theorem app6 {W : World} {v : Value} {l : List Msg} {g : Option Nat} (hq : RowQ W 6 v (flat6 l) g) (x : Msg) (hlen : (l.length + 1) * 48 ≤ 140737488355328) :
    ∃ v' W', (∀ ty, (Builtin.append_ #[84, 84] ty #[v, .slice (some ⟨W.heap.size, 0, none⟩) 1 1]).run Try.prog (W.alloc (.cells #[.int .i64 x.o.k, .int .i64 x.o.p, .int .i64 x.o.b, .int .i64 x.o.s, .int .i64 (x.sent : Int), .int .i64 (x.came : Int)] 94)) = .ok v' W') ∧
      (∃ a n c, v' = .slice a n c) ∧ ∃ g', RowQ W' 6 v' (flat6 (l ++ [x])) g' ∧ KeptX (fun k => g = some k) W W' ∧ (∀ k, g' = some k → g = some k ∨ W.heap.size < k) := by
  have hsrc : Src Try.prog 6 84 (.slice (some ⟨W.heap.size, 0, none⟩) 1 1) 1 (flat6 [x]) (W.alloc (.cells #[.int .i64 x.o.k, .int .i64 x.o.p, .int .i64 x.o.b, .int .i64 x.o.s, .int .i64 (x.sent : Int), .int .i64 (x.came : Int)] 94)) :=
    Src.ofSlice _ Try.underlying84 ⟨W.heap.size, 0, none⟩ 1 1 _ rfl (fun j u hj => by
      rw [Addr.add_lit, Nat.zero_add, World.cell?_alloc_at (w := W) _ _ _ j rfl]
      simpa [flat6, Msg.cells] using hj) (flat6_one _)
  have q1 := hq.keep (w' := W.alloc (.cells #[.int .i64 x.o.k, .int .i64 x.o.p, .int .i64 x.o.b, .int .i64 x.o.s, .int .i64 (x.sent : Int), .int .i64 (x.came : Int)] 94)) (F := fun _ => False) ((KeptX.refl _ _).alloc _) (fun _ _ h => h)
  obtain ⟨v2, W2, e2, g2, q2, k2, d2⟩ := rowq_append (P := Try.prog) (t := 84) (tx := 84) _ Try.underlying84 infoDMsg rfl (by decide) q1 hsrc (N := l.length + 1) (by rw [flat6_len, flat6_len]; simp; omega) hlen (by omega)
  rw [← flat6_append] at q2
  obtain ⟨a2, c2, hv2⟩ := rowq6_len q2
  refine ⟨v2, W2, e2, ⟨_, _, _, hv2⟩, g2, q2, KeptX.trans ((KeptX.refl (fun k => g = some k) W).alloc _) k2 (fun _ _ e => e), fun k e => ?_⟩
  rcases d2 with d | d
  · exact Or.inl (by rw [← d]; exact e)
  · rw [d] at e
    cases e
    right; simp
/-- 'append(q, o)' of one op. -/
theorem app4 {W : World} {v : Value} {l : List Op4} {g : Option Nat} (hq : RowQ W 4 v (flat4 l) g) (x : Op4) (hlen : (l.length + 1) * 32 ≤ 140737488355328) :
    ∃ v' W', (∀ ty, (Builtin.append_ #[49, 49] ty #[v, .slice (some ⟨W.heap.size, 0, none⟩) 1 1]).run Try.prog (W.alloc (.cells #[.int .i64 x.k, .int .i64 x.p, .int .i64 x.b, .int .i64 x.s] 26)) = .ok v' W') ∧
      (∃ a n c, v' = .slice a n c) ∧ ∃ g', RowQ W' 4 v' (flat4 (l ++ [x])) g' ∧ KeptX (fun k => g = some k) W W' ∧ (∀ k, g' = some k → g = some k ∨ W.heap.size < k) := by
  have hsrc : Src Try.prog 4 49 (.slice (some ⟨W.heap.size, 0, none⟩) 1 1) 1 (flat4 [x]) (W.alloc (.cells #[.int .i64 x.k, .int .i64 x.p, .int .i64 x.b, .int .i64 x.s] 26)) :=
    Src.ofSlice _ Try.underlying49 ⟨W.heap.size, 0, none⟩ 1 1 _ rfl (fun j u hj => by
      rw [Addr.add_lit, Nat.zero_add, World.cell?_alloc_at (w := W) _ _ _ j rfl]
      simpa [flat4, Op4.cells] using hj) (flat4_one _)
  have q1 := hq.keep (w' := W.alloc (.cells #[.int .i64 x.k, .int .i64 x.p, .int .i64 x.b, .int .i64 x.s] 26)) (F := fun _ => False) ((KeptX.refl _ _).alloc _) (fun _ _ h => h)
  obtain ⟨v2, W2, e2, g2, q2, k2, d2⟩ := rowq_append (P := Try.prog) (t := 49) (tx := 49) _ Try.underlying49 infoOp4 rfl (by decide) q1 hsrc (N := l.length + 1) (by rw [flat4_len, flat4_len]; simp; omega) hlen (by omega)
  rw [← flat4_append] at q2
  obtain ⟨a2, c2, hv2⟩ := rowq_len q2
  refine ⟨v2, W2, e2, ⟨_, _, _, hv2⟩, g2, q2, KeptX.trans ((KeptX.refl (fun k => g = some k) W).alloc _) k2 (fun _ _ e => e), fun k e => ?_⟩
  rcases d2 with d | d
  · exact Or.inl (by rw [← d]; exact e)
  · rw [d] at e
    cases e
    right; simp
end Go.Proofs.Ytabahmcbhapbiaa
