import Derived.Test.YtabahmcbhapbiaaBase
import Derived.Lib.AppendZeros
import Derived.Deep.AppendSrc
import Derived.Shelf.Spec.SlicesInsert
namespace Go.Proofs.Ytabahmcbhapbiaa
open Go.RowKit Go.Lib
set_option linter.unusedVariables false

/-! ### What is kept but for some blocks -/
structure KeptX (F : Nat → Prop) (w w' : World) : Prop where
  os : w'.os = w.os
  tape : w'.tape = w.tape
  output : w'.output = w.output
  size : w.heap.size ≤ w'.heap.size
  block : ∀ k, k < w.heap.size → ¬ F k → w'.heap[k]? = w.heap[k]?
  nc : ∀ (k : Nat) (o : Obj), w.heap[k]? = some o → (∀ c t f, o ≠ .cells c t f) → w'.heap[k]? = some o
theorem KeptX.refl (F : Nat → Prop) (w : World) : KeptX F w w := ⟨rfl, rfl, rfl, Nat.le_refl _, fun _ _ _ => rfl, fun _ _ h _ => h⟩
theorem KeptX.of_below {F : Nat → Prop} {w w' : World} (h : Below w.heap.size w w') : KeptX F w w' := ⟨h.os, h.tape, h.output, h.size, fun k hk _ => h.block k hk, fun k o e _ => (h.block k (Array.getElem?_eq_some_iff.1 e).1).trans e⟩
theorem KeptX.below {F : Nat → Prop} {w w' : World} {B : Nat} (h : KeptX F w w') (hB : B ≤ w.heap.size) (hF : ∀ k, k < B → ¬ F k) : Below B w w' := ⟨h.os, h.tape, h.output, h.size, fun k hk => h.block k (by omega) (hF k hk)⟩
/-- Two steps: what the second may turn is what the first may, or new. -/
theorem KeptX.trans {F G : Nat → Prop} {a b c : World} (h : KeptX F a b) (k : KeptX G b c) (hG : ∀ i, i < a.heap.size → G i → F i) : KeptX F a c :=
  ⟨k.os.trans h.os, k.tape.trans h.tape, k.output.trans h.output, Nat.le_trans h.size k.size, fun i hi hn => (k.block i (Nat.lt_of_lt_of_le hi h.size) (fun hg => hn (hG i hi hg))).trans (h.block i hi hn), fun i o e ho => k.nc i o (h.nc i o e ho) ho⟩
theorem KeptX.mono {F G : Nat → Prop} {a b : World} (h : KeptX F a b) (hG : ∀ i, i < a.heap.size → F i → G i) : KeptX G a b :=
  ⟨h.os, h.tape, h.output, h.size, fun i hi hn => h.block i hi (fun hf => hn (hG i hi hf)), h.nc⟩
theorem KeptX.alloc {F : Nat → Prop} {a w : World} (h : KeptX F a w) (o : Obj) : KeptX F a (w.alloc o) :=
  ⟨h.os, h.tape, h.output, by simp; have := h.size; omega, fun k hk hn => (Below.heap_alloc _ _ _ (Nat.lt_of_lt_of_le hk h.size)).trans (h.block k hk hn), fun k o2 e ho => (Below.heap_alloc _ _ _ (Array.getElem?_eq_some_iff.1 (h.nc k o2 e ho)).1).trans (h.nc k o2 e ho)⟩
theorem KeptX.drew {F : Nat → Prop} {a w : World} (h : KeptX F a w) : KeptX F a w.drew := ⟨h.os, h.tape, h.output, h.size, h.block, h.nc⟩
theorem KeptX.drewN {F : Nat → Prop} {a w : World} (h : KeptX F a w) (n : Nat) : KeptX F a (w.drewN n) := ⟨h.os, h.tape, h.output, h.size, h.block, h.nc⟩
theorem heap_setCell_nc (w : World) (p : Addr) (u : Value) {k : Nat} {o : Obj} (h : w.heap[k]? = some o) (ho : ∀ c t f, o ≠ .cells c t f) : (w.setCell p u).heap[k]? = some o := by
  by_cases e : k = p.block
  · subst e
    unfold World.setCell
    simp only [Array.getElem?_modify, h, Option.map_some]
    cases o <;> first | rfl | exact absurd rfl (ho _ _ _)
  · exact (Below.heap_setCell _ _ _ _ e).trans h
theorem KeptX.setCell {F : Nat → Prop} {a w : World} (h : KeptX F a w) {p : Addr} (hp : p.block < a.heap.size → F p.block) (u : Value) : KeptX F a (w.setCell p u) :=
  ⟨h.os, h.tape, h.output, by have := h.size; simpa [World.setCell] using this, fun k hk hn => (Below.heap_setCell _ _ _ _ (fun e => hn (by subst e; exact hp hk))).trans (h.block k hk hn), fun k o e ho => heap_setCell_nc _ _ _ (h.nc k o e ho) ho⟩
theorem KeptX.setCells {F : Nat → Prop} {a : World} {b : Nat} (hp : b < a.heap.size → F b) : ∀ (vs : List Value) (o : Nat) (w : World), KeptX F a w → KeptX F a (w.setCells b o vs)
  | [], _, _, h => h
  | v :: r, o, w, h => KeptX.setCells hp r (o + 1) _ (h.setCell (p := ⟨b, o, none⟩) hp v)
theorem KeptX.cell {F : Nat → Prop} {w w' : World} (h : KeptX F w w') {p : Addr} (hp : p.block < w.heap.size) (hF : ¬ F p.block) : w'.cell? p = w.cell? p := World.cell?_of_block (w := w) (h.block p.block hp hF)
theorem KeptX.frozen {F : Nat → Prop} {w w' : World} (h : KeptX F w w') {p : Addr} (hp : p.block < w.heap.size) (hF : ¬ F p.block) : w'.frozen? p = w.frozen? p := World.frozen?_of_block (w := w) (h.block p.block hp hF)

/-! ### A slice that its holder alone has: nil, or a part of the block g -/
def RowQ (w : World) (size : Nat) (v : Value) (xs : List Value) (g : Option Nat) : Prop :=
  (v = .slice none 0 0 ∧ xs = [] ∧ g = none) ∨
  ∃ gb off n cap : Nat, g = some gb ∧ v = .slice (some ⟨gb, off, none⟩) n cap ∧ xs.length = n * size ∧ n ≤ cap ∧ cap ≤ 9223372036854775807 ∧ gb < w.heap.size ∧
    (∀ j x, xs[j]? = some x → w.cell? ⟨gb, off + j, none⟩ = some x) ∧ (∀ j, j < cap * size → (w.cell? ⟨gb, off + j, none⟩).isSome = true ∧ w.frozen? ⟨gb, off + j, none⟩ = false)

theorem RowQ.nil (w : World) (size : Nat) : RowQ w size (.slice none 0 0) [] none := Or.inl ⟨rfl, rfl, rfl⟩
theorem RowQ.keep {w w' : World} {size : Nat} {v : Value} {xs : List Value} {g : Option Nat} {F : Nat → Prop} (h : RowQ w size v xs g) (hk : KeptX F w w') (hF : ∀ k, g = some k → ¬ F k) : RowQ w' size v xs g := by
  rcases h with h | ⟨gb, off, n, cap, h1, h2, h3, h4, h5, h6, h7, h8⟩
  · exact Or.inl h
  · refine Or.inr ⟨gb, off, n, cap, h1, h2, h3, h4, h5, Nat.lt_of_lt_of_le h6 hk.size, fun j x hj => ?_, fun j hj => ?_⟩
    · rw [hk.cell (p := ⟨gb, off + j, none⟩) h6 (hF gb h1)]; exact h7 j x hj
    · rw [hk.cell (p := ⟨gb, off + j, none⟩) h6 (hF gb h1), hk.frozen (p := ⟨gb, off + j, none⟩) h6 (hF gb h1)]; exact h8 j hj
theorem RowQ.lt {w : World} {size : Nat} {v : Value} {xs : List Value} {g : Option Nat} (h : RowQ w size v xs g) : ∀ k, g = some k → k < w.heap.size := by
  intro k hk
  rcases h with ⟨_, _, h⟩ | ⟨gb, off, n, cap, h1, _, _, _, _, h6, _⟩
  · rw [h] at hk; cases hk
  · rw [h1] at hk; cases hk; exact h6

/-- 'append(v, x...)': the row takes what x holds. -/
theorem rowq_append {P : Program} {t tx e : TypeId} {z : Value} {size bytes : Nat} (W : World) (ht : P.underlying t = some (.slice e)) (hinfo : (P.info? e).map (fun i => (i.zero, i.size, i.bytes)) = some (some z, size, bytes))
    (hzc : z.cells.size = size) (hs0 : 0 < size) {v : Value} {xs : List Value} {g : Option Nat} (h : RowQ W size v xs g) {x : Value} {m : Nat} {news : List Value} (hsrc : Src P size tx x m news W) {N : Nat} (hN : xs.length + news.length = N * size)
    (hbig : N * bytes ≤ 140737488355328) (hN63 : N ≤ 9223372036854775807) :
    ∃ (v' : Value) (W' : World), (∀ ty, (Builtin.append_ #[t, tx] ty #[v, x]).run P W = .ok v' W') ∧ ∃ g', RowQ W' size v' (xs ++ news) g' ∧ KeptX (fun k => g = some k) W W' ∧ (g' = g ∨ g' = some W.heap.size) := by
  obtain ⟨i0, hi0, hz0, hzs, hzb⟩ := info_parts hinfo
  have hnl := hsrc.newsLen
  have grown : ∀ (base : Option Addr) (n cap : Nat), v = .slice base n cap → xs.length = n * size → cap < n + m → (Builtin.firstCells i0.size n (.slice base n cap)).run P W.drew = .ok xs.toArray W.drew →
      ∃ (v' : Value) (W' : World), (∀ ty, (Builtin.append_ #[t, tx] ty #[v, x]).run P W = .ok v' W') ∧ ∃ g', RowQ W' size v' (xs ++ news) g' ∧ KeptX (fun k => g = some k) W W' ∧ (g' = g ∨ g' = some W.heap.size) := by
    intro base n cap hv hxl hlt hold
    have hNn : N = n + m := by
      have : N * size = (n + m) * size := by rw [Nat.add_mul]; omega
      exact Nat.eq_of_mul_eq_mul_right hs0 this
    subst hNn
    have hG := grownCap_ge W (n + m) cap e
    have hG2 := grownCap_le_maxLen W (n + m) cap e (by unfold maxLen; omega)
    unfold maxLen at hG2
    refine ⟨_, _, fun ty => by rw [hv]; exact run_append_grow_src W t tx ty e i0 z ht hi0 hz0 base n cap xs hold x m news (by rw [hzs]; exact hsrc) hlt (by omega) (by rw [hzb]; exact growslice_fits hlt hbig), some W.heap.size, ?_, (KeptX.refl _ _).drew.alloc _, Or.inr rfl⟩
    refine Or.inr ⟨W.heap.size, 0, n + m, grownCap W (n + m) cap e, rfl, rfl, by rw [List.length_append]; exact hN, hG, by omega, by simp, fun j y hj => ?_, fun j hj => ?_⟩
    · rw [Nat.zero_add, World.cell?_alloc_at (w := W.drew) _ _ W.heap.size j rfl]
      have hjl := (List.getElem?_eq_some_iff.1 hj).1
      rw [Array.getElem?_append_left (by simpa using hjl)]
      simpa using hj
    · rw [Nat.zero_add]
      refine ⟨?_, World.frozen?_alloc_at (w := W.drew) _ _ W.heap.size j rfl⟩
      rw [World.cell?_alloc_at (w := W.drew) _ _ W.heap.size j rfl, Array.getElem?_eq_getElem]
      · rfl
      · have hzl : (Builtin.zeroCells z.cells (grownCap W (n + m) cap e - (n + m))).size = (grownCap W (n + m) cap e - (n + m)) * size := by
          simp [Builtin.zeroCells, hzc]
        rw [Array.size_append, hzl]
        simp only [List.size_toArray, List.length_append]
        rw [hN, ← Nat.add_mul]
        rw [show n + m + (grownCap W (n + m) cap e - (n + m)) = grownCap W (n + m) cap e by omega]
        exact hj
  rcases h with ⟨rfl, rfl, rfl⟩ | ⟨gb, off, n, cap, rfl, rfl, h3, h4, h5, h6, h7, h8⟩
  · by_cases hm : m = 0
    · subst hm
      have e0 : news = [] := List.length_eq_zero_iff.1 (by omega)
      subst e0
      refine ⟨.slice none 0 0, W, fun ty => ?_, none, RowQ.nil _ _, KeptX.refl _ _, Or.inl rfl⟩
      have hc := hsrc.cells
      rw [← hzs] at hc
      rcases hsrc.kind with ⟨e', hk⟩ | hk <;> simp [Builtin.append_, run_underlying ht, run_underlying hk, sizeOf, typeInfo, hi0, hsrc.len, hc]
    · refine grown none 0 0 rfl (by simp) (by omega) ?_
      exact run_firstCells_none W.drew i0.size 0 0 0
  · by_cases hroom : n + m ≤ cap
    · refine ⟨_, _, fun ty => run_append_room_src W t tx ty e i0 ht hi0 gb off n cap x m news (by rw [hzs]; exact hsrc) hroom (fun j hj => ?_) (fun j hj => ?_), some gb, ?_, KeptX.setCells (F := fun k => some gb = some k) (fun _ => rfl) _ _ _ (KeptX.refl _ _), Or.inl rfl⟩
      · rw [hzs, Nat.add_assoc]
        refine (h8 _ ?_).1
        have : (n + m) * size ≤ cap * size := Nat.mul_le_mul_right _ hroom
        rw [Nat.add_mul] at this
        omega
      · rw [hzs, Nat.add_assoc]
        refine (h8 _ ?_).2
        have : (n + m) * size ≤ cap * size := Nat.mul_le_mul_right _ hroom
        rw [Nat.add_mul] at this
        omega
      · have hle : (n + m) * size ≤ cap * size := Nat.mul_le_mul_right _ hroom
        rw [Nat.add_mul] at hle
        have hin : ∀ j, j < news.length → (W.cell? ⟨gb, off + n * size + j, none⟩).isSome = true := fun j hj => by
          rw [Nat.add_assoc]; exact (h8 _ (by omega)).1
        rw [hzs]
        refine Or.inr ⟨gb, off, n + m, cap, rfl, rfl, by rw [List.length_append, h3, hnl, Nat.add_mul], hroom, h5, ?_, fun j y hj => ?_, fun j hj => ?_⟩
        · exact Nat.lt_of_lt_of_le h6 (KeptX.setCells (F := fun _ => True) (fun _ => trivial) news _ _ (KeptX.refl _ _)).size
        · by_cases hjx : j < xs.length
          · rw [List.getElem?_append_left hjx] at hj
            rw [World.cell?_setCells_out gb _ _ _ _ (fun _ _ => Or.inl (by show off + j < off + n * size; omega))]
            exact h7 j y hj
          · rw [List.getElem?_append_right (by omega)] at hj
            have hjl := (List.getElem?_eq_some_iff.1 hj).1
            have := World.cell?_setCells_in gb news (off + n * size) W hin (j - xs.length) hjl
            rw [show off + n * size + (j - xs.length) = off + j by omega] at this
            rw [this]
            rw [List.getElem?_eq_getElem hjl] at hj
            exact hj
        · rw [World.frozen?_setCells]
          exact ⟨isSome_setCells gb news _ W hin _ (h8 j hj).1, (h8 j hj).2⟩
    · refine grown (some ⟨gb, off, none⟩) n cap rfl h3 (by omega) ?_
      rw [hzs]
      exact run_firstCells_some W.drew size n ⟨gb, off, none⟩ n cap xs h3 (fun j y hj => by rw [Addr.add_lit]; exact h7 j y hj)

/-! ### The append, for the walk -/
theorem wpList_append_ex {P : Program} (w : World) {ops : Array Oper} {rest : List Oper} {o : Oper} {a : Act} {Q : Exit → Act → World → Prop} (hgd : o.guard = none) (s x : Operand) (t tn : TypeId)
    (ho : o.op = .call { callee := .builtin .append, args := #[s, x], argTypes := #[t, tn] }) (vs vx : Value) (hs : a.eval s = vs) (hx : a.eval x = vx) (G : Value → World → Prop)
    (hr : ∃ v' w', (∀ ty, (Builtin.append_ #[t, tn] ty #[vs, vx]).run P w = .ok v' w') ∧ G v' w') (h : ∀ v' w', G v' w' → wpList P ops Q rest (a.put o.dst v') w') : wpList P ops Q (o :: rest) a w := by
  obtain ⟨v', w', h1, h2⟩ := hr
  exact Lib.wpList_append_run w hgd s x t tn ho vs vx hs hx v' w' (h1 _) (h v' w' h2)
/-- .. as one step of a region that draws. -/
theorem step_append_ex {P : Program} {ops : Array Oper} {o : Oper} {a : Act} {w : World} {K : Act → World → Prop} {Q : Exit → Act → World → Prop} {E : Prop}
    (hg : o.guard = none) (s x : Operand) (t tn : TypeId) (hop : o.op = Op.call { callee := Callee.builtin Builtin.append, args := #[s, x], argTypes := #[t, tn] })
    (vs vx : Value) (hs : a.eval s = vs) (hx : a.eval x = vx) (G : Value → World → Prop) (hr : ∃ v' w', (∀ ty, (Builtin.append_ #[t, tn] ty #[vs, vx]).run P w = .ok v' w') ∧ G v' w') (hK : ∀ v' w', G v' w' → K (a.put o.dst v') w') :
    if Region.wanted o (yielded ops a.tmps) = true then Oper.wp P o a w K Q else E := by
  obtain ⟨v', w', h1, h2⟩ := hr
  have hw : Region.wanted o (yielded ops a.tmps) = true := by simp [Region.wanted, hg]
  rw [if_pos hw]
  exact Lib.wp_append_run w s x t tn hop vs vx hs hx v' w' (h1 _) (hK v' w' h2)
end Go.Proofs.Ytabahmcbhapbiaa
