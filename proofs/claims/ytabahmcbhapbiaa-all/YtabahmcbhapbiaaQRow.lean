import Derived.Test.YtabahmcbhapbiaaQBase
import Derived.Lib.AppendZeros
import Derived.Deep.AppendSrc
import Derived.Shelf.Spec.SlicesInsert
import Derived.Test.YtabahmcbhapbiaaRows
import Derived.Test.YtabahmcbhapbiaaQMath
import Derived.BigRegion
import Derived.Deep.RegionHeld3
namespace Go.Proofs.Ytabahmcbhapbiaa
open Go.RowKit Go.Lib
set_option linter.unusedVariables false

/-! ### What is kept but for some blocks -/
structure KeptX (F : Nat → Prop) (w w' : World) : Prop where
  os : w'.os = w.os
  tape : w'.tape = w.tape
  output : w'.output = w.output
  size : w.heap.size ≤ w'.heap.size
  block : ∀ k, k < w.heap.size → ¬ F k → w'.heap[k]? = w.heap[k]?
  nc : ∀ (k : Nat) (o : Obj), w.heap[k]? = some o → (∀ c t f, o ≠ .cells c t f) → w'.heap[k]? = some o
theorem KeptX.refl (F : Nat → Prop) (w : World) : KeptX F w w := ⟨rfl, rfl, rfl, Nat.le_refl _, fun _ _ _ => rfl, fun _ _ h _ => h⟩
theorem KeptX.of_below {F : Nat → Prop} {w w' : World} (h : Below w.heap.size w w') : KeptX F w w' := ⟨h.os, h.tape, h.output, h.size, fun k hk _ => h.block k hk, fun k o e _ => (h.block k (Array.getElem?_eq_some_iff.1 e).1).trans e⟩
theorem KeptX.below {F : Nat → Prop} {w w' : World} {B : Nat} (h : KeptX F w w') (hB : B ≤ w.heap.size) (hF : ∀ k, k < B → ¬ F k) : Below B w w' := ⟨h.os, h.tape, h.output, h.size, fun k hk => h.block k (by omega) (hF k hk)⟩
/-- Two steps: what the second may turn is what the first may, or new. -/
theorem KeptX.trans {F G : Nat → Prop} {a b c : World} (h : KeptX F a b) (k : KeptX G b c) (hG : ∀ i, i < a.heap.size → G i → F i) : KeptX F a c :=
  ⟨k.os.trans h.os, k.tape.trans h.tape, k.output.trans h.output, Nat.le_trans h.size k.size, fun i hi hn => (k.block i (Nat.lt_of_lt_of_le hi h.size) (fun hg => hn (hG i hi hg))).trans (h.block i hi hn), fun i o e ho => k.nc i o (h.nc i o e ho) ho⟩
theorem KeptX.mono {F G : Nat → Prop} {a b : World} (h : KeptX F a b) (hG : ∀ i, i < a.heap.size → F i → G i) : KeptX G a b :=
  ⟨h.os, h.tape, h.output, h.size, fun i hi hn => h.block i hi (fun hf => hn (hG i hi hf)), h.nc⟩
theorem KeptX.alloc {F : Nat → Prop} {a w : World} (h : KeptX F a w) (o : Obj) : KeptX F a (w.alloc o) :=
  ⟨h.os, h.tape, h.output, by simp; have := h.size; omega, fun k hk hn => (Below.heap_alloc _ _ _ (Nat.lt_of_lt_of_le hk h.size)).trans (h.block k hk hn), fun k o2 e ho => (Below.heap_alloc _ _ _ (Array.getElem?_eq_some_iff.1 (h.nc k o2 e ho)).1).trans (h.nc k o2 e ho)⟩
theorem KeptX.drew {F : Nat → Prop} {a w : World} (h : KeptX F a w) : KeptX F a w.drew := ⟨h.os, h.tape, h.output, h.size, h.block, h.nc⟩
theorem KeptX.drewN {F : Nat → Prop} {a w : World} (h : KeptX F a w) (n : Nat) : KeptX F a (w.drewN n) := ⟨h.os, h.tape, h.output, h.size, h.block, h.nc⟩
theorem heap_setCell_nc (w : World) (p : Addr) (u : Value) {k : Nat} {o : Obj} (h : w.heap[k]? = some o) (ho : ∀ c t f, o ≠ .cells c t f) : (w.setCell p u).heap[k]? = some o := by
  by_cases e : k = p.block
  · subst e
    unfold World.setCell
    simp only [Array.getElem?_modify, h, Option.map_some]
    cases o <;> first | rfl | exact absurd rfl (ho _ _ _)
  · exact (Below.heap_setCell _ _ _ _ e).trans h
theorem KeptX.setCell {F : Nat → Prop} {a w : World} (h : KeptX F a w) {p : Addr} (hp : p.block < a.heap.size → F p.block) (u : Value) : KeptX F a (w.setCell p u) :=
  ⟨h.os, h.tape, h.output, by have := h.size; simpa [World.setCell] using this, fun k hk hn => (Below.heap_setCell _ _ _ _ (fun e => hn (by subst e; exact hp hk))).trans (h.block k hk hn), fun k o e ho => heap_setCell_nc _ _ _ (h.nc k o e ho) ho⟩
theorem KeptX.setCells {F : Nat → Prop} {a : World} {b : Nat} (hp : b < a.heap.size → F b) : ∀ (vs : List Value) (o : Nat) (w : World), KeptX F a w → KeptX F a (w.setCells b o vs)
  | [], _, _, h => h
  | v :: r, o, w, h => KeptX.setCells hp r (o + 1) _ (h.setCell (p := ⟨b, o, none⟩) hp v)
theorem KeptX.cell {F : Nat → Prop} {w w' : World} (h : KeptX F w w') {p : Addr} (hp : p.block < w.heap.size) (hF : ¬ F p.block) : w'.cell? p = w.cell? p := World.cell?_of_block (w := w) (h.block p.block hp hF)
theorem KeptX.frozen {F : Nat → Prop} {w w' : World} (h : KeptX F w w') {p : Addr} (hp : p.block < w.heap.size) (hF : ¬ F p.block) : w'.frozen? p = w.frozen? p := World.frozen?_of_block (w := w) (h.block p.block hp hF)

/-! ### A slice that its holder alone has: nil, or a part of the block g -/
def RowQ (w : World) (size : Nat) (v : Value) (xs : List Value) (g : Option Nat) : Prop :=
  (v = .slice none 0 0 ∧ xs = [] ∧ g = none) ∨
  ∃ gb off n cap : Nat, g = some gb ∧ v = .slice (some ⟨gb, off, none⟩) n cap ∧ xs.length = n * size ∧ n ≤ cap ∧ cap ≤ 9223372036854775807 ∧ gb < w.heap.size ∧
    (∀ j x, xs[j]? = some x → w.cell? ⟨gb, off + j, none⟩ = some x) ∧ (∀ j, j < cap * size → (w.cell? ⟨gb, off + j, none⟩).isSome = true ∧ w.frozen? ⟨gb, off + j, none⟩ = false)

theorem RowQ.nil (w : World) (size : Nat) : RowQ w size (.slice none 0 0) [] none := Or.inl ⟨rfl, rfl, rfl⟩
theorem RowQ.keep {w w' : World} {size : Nat} {v : Value} {xs : List Value} {g : Option Nat} {F : Nat → Prop} (h : RowQ w size v xs g) (hk : KeptX F w w') (hF : ∀ k, g = some k → ¬ F k) : RowQ w' size v xs g := by
  rcases h with h | ⟨gb, off, n, cap, h1, h2, h3, h4, h5, h6, h7, h8⟩
  · exact Or.inl h
  · refine Or.inr ⟨gb, off, n, cap, h1, h2, h3, h4, h5, Nat.lt_of_lt_of_le h6 hk.size, fun j x hj => ?_, fun j hj => ?_⟩
    · rw [hk.cell (p := ⟨gb, off + j, none⟩) h6 (hF gb h1)]; exact h7 j x hj
    · rw [hk.cell (p := ⟨gb, off + j, none⟩) h6 (hF gb h1), hk.frozen (p := ⟨gb, off + j, none⟩) h6 (hF gb h1)]; exact h8 j hj
theorem RowQ.lt {w : World} {size : Nat} {v : Value} {xs : List Value} {g : Option Nat} (h : RowQ w size v xs g) : ∀ k, g = some k → k < w.heap.size := by
  intro k hk
  rcases h with ⟨_, _, h⟩ | ⟨gb, off, n, cap, h1, _, _, _, _, h6, _⟩
  · rw [h] at hk; cases hk
  · rw [h1] at hk; cases hk; exact h6

/-- 'append(v, x...)': the row takes what x holds. -/
theorem rowq_append {P : Program} {t tx e : TypeId} {z : Value} {size bytes : Nat} (W : World) (ht : P.underlying t = some (.slice e)) (hinfo : (P.info? e).map (fun i => (i.zero, i.size, i.bytes)) = some (some z, size, bytes))
    (hzc : z.cells.size = size) (hs0 : 0 < size) {v : Value} {xs : List Value} {g : Option Nat} (h : RowQ W size v xs g) {x : Value} {m : Nat} {news : List Value} (hsrc : Src P size tx x m news W) {N : Nat} (hN : xs.length + news.length = N * size)
    (hbig : N * bytes ≤ 140737488355328) (hN63 : N ≤ 9223372036854775807) :
    ∃ (v' : Value) (W' : World), (∀ ty, (Builtin.append_ #[t, tx] ty #[v, x]).run P W = .ok v' W') ∧ ∃ g', RowQ W' size v' (xs ++ news) g' ∧ KeptX (fun k => g = some k) W W' ∧ (g' = g ∨ g' = some W.heap.size) := by
  obtain ⟨i0, hi0, hz0, hzs, hzb⟩ := info_parts hinfo
  have hnl := hsrc.newsLen
  have grown : ∀ (base : Option Addr) (n cap : Nat), v = .slice base n cap → xs.length = n * size → cap < n + m → (Builtin.firstCells i0.size n (.slice base n cap)).run P W.drew = .ok xs.toArray W.drew →
      ∃ (v' : Value) (W' : World), (∀ ty, (Builtin.append_ #[t, tx] ty #[v, x]).run P W = .ok v' W') ∧ ∃ g', RowQ W' size v' (xs ++ news) g' ∧ KeptX (fun k => g = some k) W W' ∧ (g' = g ∨ g' = some W.heap.size) := by
    intro base n cap hv hxl hlt hold
    have hNn : N = n + m := by
      have : N * size = (n + m) * size := by rw [Nat.add_mul]; omega
      exact Nat.eq_of_mul_eq_mul_right hs0 this
    subst hNn
    have hG := grownCap_ge W (n + m) cap e
    have hG2 := grownCap_le_maxLen W (n + m) cap e (by unfold maxLen; omega)
    unfold maxLen at hG2
    refine ⟨_, _, fun ty => by rw [hv]; exact run_append_grow_src W t tx ty e i0 z ht hi0 hz0 base n cap xs hold x m news (by rw [hzs]; exact hsrc) hlt (by omega) (by rw [hzb]; exact growslice_fits hlt hbig), some W.heap.size, ?_, (KeptX.refl _ _).drew.alloc _, Or.inr rfl⟩
    refine Or.inr ⟨W.heap.size, 0, n + m, grownCap W (n + m) cap e, rfl, rfl, by rw [List.length_append]; exact hN, hG, by omega, by simp, fun j y hj => ?_, fun j hj => ?_⟩
    · rw [Nat.zero_add, World.cell?_alloc_at (w := W.drew) _ _ W.heap.size j rfl]
      have hjl := (List.getElem?_eq_some_iff.1 hj).1
      rw [Array.getElem?_append_left (by simpa using hjl)]
      simpa using hj
    · rw [Nat.zero_add]
      refine ⟨?_, World.frozen?_alloc_at (w := W.drew) _ _ W.heap.size j rfl⟩
      rw [World.cell?_alloc_at (w := W.drew) _ _ W.heap.size j rfl, Array.getElem?_eq_getElem]
      · rfl
      · have hzl : (Builtin.zeroCells z.cells (grownCap W (n + m) cap e - (n + m))).size = (grownCap W (n + m) cap e - (n + m)) * size := by
          simp [Builtin.zeroCells, hzc]
        rw [Array.size_append, hzl]
        simp only [List.size_toArray, List.length_append]
        rw [hN, ← Nat.add_mul]
        rw [show n + m + (grownCap W (n + m) cap e - (n + m)) = grownCap W (n + m) cap e by omega]
        exact hj
  rcases h with ⟨rfl, rfl, rfl⟩ | ⟨gb, off, n, cap, rfl, rfl, h3, h4, h5, h6, h7, h8⟩
  · by_cases hm : m = 0
    · subst hm
      have e0 : news = [] := List.length_eq_zero_iff.1 (by omega)
      subst e0
      refine ⟨.slice none 0 0, W, fun ty => ?_, none, RowQ.nil _ _, KeptX.refl _ _, Or.inl rfl⟩
      have hc := hsrc.cells
      rw [← hzs] at hc
      rcases hsrc.kind with ⟨e', hk⟩ | hk <;> simp [Builtin.append_, run_underlying ht, run_underlying hk, sizeOf, typeInfo, hi0, hsrc.len, hc]
    · refine grown none 0 0 rfl (by simp) (by omega) ?_
      exact run_firstCells_none W.drew i0.size 0 0 0
  · by_cases hroom : n + m ≤ cap
    · refine ⟨_, _, fun ty => run_append_room_src W t tx ty e i0 ht hi0 gb off n cap x m news (by rw [hzs]; exact hsrc) hroom (fun j hj => ?_) (fun j hj => ?_), some gb, ?_, KeptX.setCells (F := fun k => some gb = some k) (fun _ => rfl) _ _ _ (KeptX.refl _ _), Or.inl rfl⟩
      · rw [hzs, Nat.add_assoc]
        refine (h8 _ ?_).1
        have : (n + m) * size ≤ cap * size := Nat.mul_le_mul_right _ hroom
        rw [Nat.add_mul] at this
        omega
      · rw [hzs, Nat.add_assoc]
        refine (h8 _ ?_).2
        have : (n + m) * size ≤ cap * size := Nat.mul_le_mul_right _ hroom
        rw [Nat.add_mul] at this
        omega
      · have hle : (n + m) * size ≤ cap * size := Nat.mul_le_mul_right _ hroom
        rw [Nat.add_mul] at hle
        have hin : ∀ j, j < news.length → (W.cell? ⟨gb, off + n * size + j, none⟩).isSome = true := fun j hj => by
          rw [Nat.add_assoc]; exact (h8 _ (by omega)).1
        rw [hzs]
        refine Or.inr ⟨gb, off, n + m, cap, rfl, rfl, by rw [List.length_append, h3, hnl, Nat.add_mul], hroom, h5, ?_, fun j y hj => ?_, fun j hj => ?_⟩
        · exact Nat.lt_of_lt_of_le h6 (KeptX.setCells (F := fun _ => True) (fun _ => trivial) news _ _ (KeptX.refl _ _)).size
        · by_cases hjx : j < xs.length
          · rw [List.getElem?_append_left hjx] at hj
            rw [World.cell?_setCells_out gb _ _ _ _ (fun _ _ => Or.inl (by show off + j < off + n * size; omega))]
            exact h7 j y hj
          · rw [List.getElem?_append_right (by omega)] at hj
            have hjl := (List.getElem?_eq_some_iff.1 hj).1
            have := World.cell?_setCells_in gb news (off + n * size) W hin (j - xs.length) hjl
            rw [show off + n * size + (j - xs.length) = off + j by omega] at this
            rw [this]
            rw [List.getElem?_eq_getElem hjl] at hj
            exact hj
        · rw [World.frozen?_setCells]
          exact ⟨isSome_setCells gb news _ W hin _ (h8 j hj).1, (h8 j hj).2⟩
    · refine grown (some ⟨gb, off, none⟩) n cap rfl h3 (by omega) ?_
      rw [hzs]
      exact run_firstCells_some W.drew size n ⟨gb, off, none⟩ n cap xs h3 (fun j y hj => by rw [Addr.add_lit]; exact h7 j y hj)

/-! ### The append, for the walk -/
theorem wpList_append_ex {P : Program} (w : World) {ops : Array Oper} {rest : List Oper} {o : Oper} {a : Act} {Q : Exit → Act → World → Prop} (hgd : o.guard = none) (s x : Operand) (t tn : TypeId)
    (ho : o.op = .call { callee := .builtin .append, args := #[s, x], argTypes := #[t, tn] }) (vs vx : Value) (hs : a.eval s = vs) (hx : a.eval x = vx) (G : Value → World → Prop)
    (hr : ∃ v' w', (∀ ty, (Builtin.append_ #[t, tn] ty #[vs, vx]).run P w = .ok v' w') ∧ G v' w') (h : ∀ v' w', G v' w' → wpList P ops Q rest (a.put o.dst v') w') : wpList P ops Q (o :: rest) a w := by
  obtain ⟨v', w', h1, h2⟩ := hr
  exact Lib.wpList_append_run w hgd s x t tn ho vs vx hs hx v' w' (h1 _) (h v' w' h2)
/-- .. as one step of a region that draws. -/
theorem step_append_ex {P : Program} {ops : Array Oper} {o : Oper} {a : Act} {w : World} {K : Act → World → Prop} {Q : Exit → Act → World → Prop} {E : Prop}
    (hg : o.guard = none) (s x : Operand) (t tn : TypeId) (hop : o.op = Op.call { callee := Callee.builtin Builtin.append, args := #[s, x], argTypes := #[t, tn] })
    (vs vx : Value) (hs : a.eval s = vs) (hx : a.eval x = vx) (G : Value → World → Prop) (hr : ∃ v' w', (∀ ty, (Builtin.append_ #[t, tn] ty #[vs, vx]).run P w = .ok v' w') ∧ G v' w') (hK : ∀ v' w', G v' w' → K (a.put o.dst v') w') :
    if Region.wanted o (yielded ops a.tmps) = true then Oper.wp P o a w K Q else E := by
  obtain ⟨v', w', h1, h2⟩ := hr
  have hw : Region.wanted o (yielded ops a.tmps) = true := by simp [Region.wanted, hg]
  rw [if_pos hw]
  exact Lib.wp_append_run w s x t tn hop vs vx hs hx v' w' (h1 _) (hK v' w' h2)
end Go.Proofs.Ytabahmcbhapbiaa

namespace Go.Proofs.Ytabahmcbhapbiaa
open Go.RowKit Go.Lib
set_option linter.unusedVariables false

/-! ### Ops in memory: four cells each -/
def Op4.cells (o : Op4) : List Value := [.int .i64 o.k, .int .i64 o.p, .int .i64 o.b, .int .i64 o.s]
def flat4 (l : List Op4) : List Value := l.flatMap Op4.cells
theorem flat4_len : ∀ l : List Op4, (flat4 l).length = l.length * 4
  | [] => rfl
  | o :: l => by
    show (o.cells ++ flat4 l).length = _
    rw [List.length_append, flat4_len l, List.length_cons]
    show 4 + _ = _
    omega
theorem flat4_append (a b : List Op4) : flat4 (a ++ b) = flat4 a ++ flat4 b := List.flatMap_append
theorem flat4_one (l : List Op4) : ∀ u ∈ flat4 l, u.oneCell' = true := by
  intro u hu
  obtain ⟨r, _, hr⟩ := List.mem_flatMap.1 hu
  simp only [Op4.cells, List.mem_cons, List.not_mem_nil, or_false] at hr
  rcases hr with rfl | rfl | rfl | rfl <;> rfl
theorem flat4_at : ∀ (l : List Op4) (k i : Nat) (hk : k < l.length), i < 4 → (flat4 l)[k * 4 + i]? = l[k].cells[i]?
  | r :: l, 0, i, _, hi => by
    show (r.cells ++ flat4 l)[0 * 4 + i]? = _
    rw [Nat.zero_mul, Nat.zero_add, List.getElem?_append_left (by show i < 4; exact hi)]; rfl
  | r :: l, k + 1, i, hk, hi => by
    show (r.cells ++ flat4 l)[(k + 1) * 4 + i]? = _
    rw [List.getElem?_append_right (by show 4 ≤ _; omega), show (k + 1) * 4 + i - r.cells.length = k * 4 + i by show (k + 1) * 4 + i - 4 = _; omega, flat4_at l k i (by simpa using hk) hi]
    rfl
theorem infoOp4 : (Try.prog.info? 26).map (fun i => (i.zero, i.size, i.bytes)) = some (some (.agg #[.int .i64 0, .int .i64 0, .int .i64 0, .int .i64 0]), 4, 32) := by kernel_rfl

theorem rowq_src {P : Program} {tx e : TypeId} {w : World} {v : Value} {l : List Op4} {g : Option Nat} (hk : P.underlying tx = some (.slice e)) (h : RowQ w 4 v (flat4 l) g) : Src P 4 tx v l.length (flat4 l) w := by
  rcases h with ⟨rfl, h2, _⟩ | ⟨gb, off, n, cap, _, rfl, h3, _, _, _, h7, _⟩
  · have e0 : l = [] := by
      have := congrArg List.length h2
      rw [flat4_len] at this
      exact List.length_eq_zero_iff.1 (by simp only [List.length_nil] at this; omega)
    subst e0
    exact Src.ofNil w hk 0
  · have e0 : n = l.length := by rw [flat4_len] at h3; omega
    subst e0
    exact Src.ofSlice w hk ⟨gb, off, none⟩ _ _ (flat4 l) (flat4_len l) (fun j u hj => by rw [Addr.add_lit]; exact h7 j u hj) (flat4_one l)
/-- The length of such a slice. -/
theorem rowq_len {w : World} {v : Value} {l : List Op4} {g : Option Nat} (h : RowQ w 4 v (flat4 l) g) : ∃ a c, v = .slice a l.length c := by
  rcases h with ⟨rfl, h2, _⟩ | ⟨gb, off, n, cap, _, rfl, h3, _⟩
  · have e0 : l = [] := by
      have := congrArg List.length h2
      rw [flat4_len] at this
      exact List.length_eq_zero_iff.1 (by simp only [List.length_nil] at this; omega)
    subst e0
    exact ⟨none, 0, rfl⟩
  · have e0 : n = l.length := by rw [flat4_len] at h3; omega
    subst e0
    exact ⟨_, _, rfl⟩

end Go.Proofs.Ytabahmcbhapbiaa

namespace Go.Proofs.Ytabahmcbhapbiaa
open Go.RowKit Go.Lib
set_option linter.unusedVariables false

/-- An op's four cells, at the block b. -/
def Op4At (W : World) (b o : Nat) (u : Op4) : Prop :=
  W.cell? ⟨b, o, none⟩ = some (.int .i64 u.k) ∧ W.cell? ⟨b, o + 1, none⟩ = some (.int .i64 u.p) ∧ W.cell? ⟨b, o + 2, none⟩ = some (.int .i64 u.b) ∧ W.cell? ⟨b, o + 3, none⟩ = some (.int .i64 u.s)
def put4 (w : World) (b : Nat) (u : Op4) : World := (((w.setCell ⟨b, 0, none⟩ (.int .i64 u.k)).setCell ⟨b, 1, none⟩ (.int .i64 u.p)).setCell ⟨b, 2, none⟩ (.int .i64 u.b)).setCell ⟨b, 3, none⟩ (.int .i64 u.s)
def obj4 (u : Op4) (t : TypeId) : Obj := .cells #[.int .i64 u.k, .int .i64 u.p, .int .i64 u.b, .int .i64 u.s] t
theorem op4at_new (w : World) (u : Op4) (t : TypeId) : Op4At (w.alloc (obj4 u t)) w.heap.size 0 u := by
  unfold Op4At obj4; simp [go_sem]
theorem op4at_alloc {w : World} {b o : Nat} {u : Op4} (h : Op4At w b o u) (ob : Obj) : Op4At (w.alloc ob) b o u :=
  ⟨cell?_alloc_some ob h.1, cell?_alloc_some ob h.2.1, cell?_alloc_some ob h.2.2.1, cell?_alloc_some ob h.2.2.2⟩
theorem op4at_keep {F : Nat → Prop} {w w' : World} {b o : Nat} {u : Op4} (h : Op4At w b o u) (hk : KeptX F w w') (hb : b < w.heap.size) (hF : ¬ F b) : Op4At w' b o u :=
  ⟨(hk.cell (p := ⟨b, o, none⟩) hb hF).trans h.1, (hk.cell (p := ⟨b, o + 1, none⟩) hb hF).trans h.2.1, (hk.cell (p := ⟨b, o + 2, none⟩) hb hF).trans h.2.2.1, (hk.cell (p := ⟨b, o + 3, none⟩) hb hF).trans h.2.2.2⟩
theorem op4at_put {w : World} {b : Nat} {u : Op4} {x0 x1 x2 x3 : Value} (h0 : w.cell? ⟨b, 0, none⟩ = some x0) (h1 : w.cell? ⟨b, 1, none⟩ = some x1) (h2 : w.cell? ⟨b, 2, none⟩ = some x2) (h3 : w.cell? ⟨b, 3, none⟩ = some x3) : Op4At (put4 w b u) b 0 u := by
  unfold Op4At put4; simp [go_sem, h0, h1, h2, h3]
theorem op4at_put_far {w : World} {b c o : Nat} {u v : Op4} (h : Op4At w c o v) (hn : b ≠ c) : Op4At (put4 w b u) c o v := by
  have g : ∀ j, (put4 w b u).cell? ⟨c, j, none⟩ = w.cell? ⟨c, j, none⟩ := fun j => by
    unfold put4
    rw [World.cell?_setCell_far _ _ _ _ hn, World.cell?_setCell_far _ _ _ _ hn, World.cell?_setCell_far _ _ _ _ hn, World.cell?_setCell_far _ _ _ _ hn]
  exact ⟨(g _).trans h.1, (g _).trans h.2.1, (g _).trans h.2.2.1, (g _).trans h.2.2.2⟩
theorem put4_cell_far {w : World} {b c j : Nat} {u : Op4} (hn : b ≠ c) : (put4 w b u).cell? ⟨c, j, none⟩ = w.cell? ⟨c, j, none⟩ := by
  unfold put4
  rw [World.cell?_setCell_far _ _ _ _ hn, World.cell?_setCell_far _ _ _ _ hn, World.cell?_setCell_far _ _ _ _ hn, World.cell?_setCell_far _ _ _ _ hn]
theorem put4_size (w : World) (b : Nat) (u : Op4) : (put4 w b u).heap.size = w.heap.size := by unfold put4; simp [World.setCell]
theorem put4_keptX {F : Nat → Prop} {a w : World} (h : KeptX F a w) {b : Nat} (hb : b < a.heap.size → F b) (u : Op4) : KeptX F a (put4 w b u) := by
  unfold put4
  exact (((h.setCell (p := ⟨b, 0, none⟩) hb _).setCell (p := ⟨b, 1, none⟩) hb _).setCell (p := ⟨b, 2, none⟩) hb _).setCell (p := ⟨b, 3, none⟩) hb _
theorem put4_below {a w : World} (h : Below a.heap.size a w) {b : Nat} (hb : a.heap.size ≤ b) (u : Op4) : Below a.heap.size a (put4 w b u) := by
  unfold put4
  exact bel_set (bel_set (bel_set (bel_set h (p := ⟨b, 0, none⟩) hb _) (p := ⟨b, 1, none⟩) hb _) (p := ⟨b, 2, none⟩) hb _) (p := ⟨b, 3, none⟩) hb _

/-- Two results of a call, each at a new block. -/
def TwoAt (wr W : World) (ab bb : Nat) (u v : Op4) : Prop := wr.heap.size ≤ ab ∧ wr.heap.size ≤ bb ∧ Below wr.heap.size wr W ∧ Op4At W ab 0 u ∧ Op4At W bb 0 v
abbrev Zero4 (w : World) (b : Nat) : Prop := ∀ o : Nat, w.cell? ⟨b, o, none⟩ = [Value.int .i64 0, .int .i64 0, .int .i64 0, .int .i64 0][o]?
theorem Zero4.put {w : World} {b : Nat} {u : Op4} (h : Zero4 w b) : Op4At (put4 w b u) b 0 u := op4at_put (h 0) (h 1) (h 2) (h 3)
theorem two_aa {wr w1 : World} (hb : Below wr.heap.size wr w1) (u v : Op4) (t : TypeId) : TwoAt wr ((w1.alloc (obj4 u t)).alloc (obj4 v t)) w1.heap.size (w1.heap.size + 1) u v :=
  ⟨hb.size, Nat.le_succ_of_le hb.size, bel_alloc (bel_alloc hb _) _, op4at_alloc (op4at_new _ _ _) _, by have := op4at_new (w1.alloc (obj4 u t)) v t; rw [show (w1.alloc (obj4 u t)).heap.size = w1.heap.size + 1 by simp] at this; exact this⟩
theorem two_aa' {wr w1 : World} (hb : Below wr.heap.size wr w1) (u v : Op4) (t : TypeId) : TwoAt wr ((w1.alloc (obj4 v t)).alloc (obj4 u t)) (w1.heap.size + 1) w1.heap.size u v :=
  have h := two_aa hb v u t
  ⟨h.2.1, h.1, h.2.2.1, h.2.2.2.2, h.2.2.2.1⟩
theorem two_sa {wr w1 : World} (hb : Below wr.heap.size wr w1) (hz : Zero4 w1 wr.heap.size) (u v : Op4) (t : TypeId) : TwoAt wr ((put4 w1 wr.heap.size u).alloc (obj4 v t)) wr.heap.size w1.heap.size u v :=
  ⟨Nat.le_refl _, hb.size, bel_alloc (put4_below hb (Nat.le_refl _) _) _, op4at_alloc hz.put _, by have := op4at_new (put4 w1 wr.heap.size u) v t; rw [put4_size] at this; exact this⟩
theorem two_as {wr w1 : World} (hb : Below wr.heap.size wr w1) (hz : Zero4 w1 wr.heap.size) (u v : Op4) (t : TypeId) : TwoAt wr ((put4 w1 wr.heap.size v).alloc (obj4 u t)) w1.heap.size wr.heap.size u v :=
  have h := two_sa hb hz v u t
  ⟨h.2.1, h.1, h.2.2.1, h.2.2.2.2, h.2.2.2.1⟩
theorem two_ss {wr w1 : World} (hb : Below wr.heap.size wr w1) {a b : Nat} (ha : wr.heap.size ≤ a) (hb2 : wr.heap.size ≤ b) (hn : a ≠ b) (hz : Zero4 w1 a) (hz2 : Zero4 w1 b) (u v : Op4) : TwoAt wr (put4 (put4 w1 a u) b v) a b u v :=
  ⟨ha, hb2, put4_below (put4_below hb ha _) hb2 _, op4at_put_far hz.put (fun e => hn e.symm), op4at_put ((put4_cell_far hn).trans (hz2 0)) ((put4_cell_far hn).trans (hz2 1)) ((put4_cell_far hn).trans (hz2 2)) ((put4_cell_far hn).trans (hz2 3))⟩
/-! .. as the walk writes them -/
theorem lit_aa {wr w1 : World} (hb : Below wr.heap.size wr w1) (u v : Op4) (t : TypeId) : TwoAt wr ((w1.alloc (.cells #[.int .i64 u.k, .int .i64 u.p, .int .i64 u.b, .int .i64 u.s] t)).alloc (.cells #[.int .i64 v.k, .int .i64 v.p, .int .i64 v.b, .int .i64 v.s] t)) w1.heap.size (w1.heap.size + 1) u v := two_aa hb u v t
theorem lit_aa' {wr w1 : World} (hb : Below wr.heap.size wr w1) (u v : Op4) (t : TypeId) : TwoAt wr ((w1.alloc (.cells #[.int .i64 v.k, .int .i64 v.p, .int .i64 v.b, .int .i64 v.s] t)).alloc (.cells #[.int .i64 u.k, .int .i64 u.p, .int .i64 u.b, .int .i64 u.s] t)) (w1.heap.size + 1) w1.heap.size u v := two_aa' hb u v t
theorem lit_sa {wr w1 : World} (hb : Below wr.heap.size wr w1) (hz : Zero4 w1 wr.heap.size) (u v : Op4) (t : TypeId) : TwoAt wr (((((w1.setCell ⟨wr.heap.size, 0, none⟩ (.int .i64 u.k)).setCell ⟨wr.heap.size, 1, none⟩ (.int .i64 u.p)).setCell ⟨wr.heap.size, 2, none⟩ (.int .i64 u.b)).setCell ⟨wr.heap.size, 3, none⟩ (.int .i64 u.s)).alloc (.cells #[.int .i64 v.k, .int .i64 v.p, .int .i64 v.b, .int .i64 v.s] t)) wr.heap.size w1.heap.size u v := two_sa hb hz u v t
theorem lit_as {wr w1 : World} (hb : Below wr.heap.size wr w1) (hz : Zero4 w1 wr.heap.size) (u v : Op4) (t : TypeId) : TwoAt wr (((((w1.setCell ⟨wr.heap.size, 0, none⟩ (.int .i64 v.k)).setCell ⟨wr.heap.size, 1, none⟩ (.int .i64 v.p)).setCell ⟨wr.heap.size, 2, none⟩ (.int .i64 v.b)).setCell ⟨wr.heap.size, 3, none⟩ (.int .i64 v.s)).alloc (.cells #[.int .i64 u.k, .int .i64 u.p, .int .i64 u.b, .int .i64 u.s] t)) w1.heap.size wr.heap.size u v := two_as hb hz u v t
theorem lit_ss {wr w1 : World} (hb : Below wr.heap.size wr w1) (hz : Zero4 w1 wr.heap.size) (hz2 : Zero4 w1 (wr.heap.size + 1)) (u v : Op4) : TwoAt wr ((((((((w1.setCell ⟨wr.heap.size, 0, none⟩ (.int .i64 u.k)).setCell ⟨wr.heap.size, 1, none⟩ (.int .i64 u.p)).setCell ⟨wr.heap.size, 2, none⟩ (.int .i64 u.b)).setCell ⟨wr.heap.size, 3, none⟩ (.int .i64 u.s)).setCell ⟨(wr.heap.size + 1), 0, none⟩ (.int .i64 v.k)).setCell ⟨(wr.heap.size + 1), 1, none⟩ (.int .i64 v.p)).setCell ⟨(wr.heap.size + 1), 2, none⟩ (.int .i64 v.b)).setCell ⟨(wr.heap.size + 1), 3, none⟩ (.int .i64 v.s)) wr.heap.size (wr.heap.size + 1) u v := two_ss hb (Nat.le_refl _) (Nat.le_succ _) (Nat.ne_of_lt (Nat.lt_succ_self _)) hz hz2 u v
theorem lit_ss' {wr w1 : World} (hb : Below wr.heap.size wr w1) (hz : Zero4 w1 wr.heap.size) (hz2 : Zero4 w1 (wr.heap.size + 1)) (u v : Op4) : TwoAt wr ((((((((w1.setCell ⟨(wr.heap.size + 1), 0, none⟩ (.int .i64 u.k)).setCell ⟨(wr.heap.size + 1), 1, none⟩ (.int .i64 u.p)).setCell ⟨(wr.heap.size + 1), 2, none⟩ (.int .i64 u.b)).setCell ⟨(wr.heap.size + 1), 3, none⟩ (.int .i64 u.s)).setCell ⟨wr.heap.size, 0, none⟩ (.int .i64 v.k)).setCell ⟨wr.heap.size, 1, none⟩ (.int .i64 v.p)).setCell ⟨wr.heap.size, 2, none⟩ (.int .i64 v.b)).setCell ⟨wr.heap.size, 3, none⟩ (.int .i64 v.s)) (wr.heap.size + 1) wr.heap.size u v := two_ss hb (Nat.le_succ _) (Nat.le_refl _) (Nat.ne_of_gt (Nat.lt_succ_self _)) hz2 hz u v
end Go.Proofs.Ytabahmcbhapbiaa

namespace Go.Proofs.Ytabahmcbhapbiaa
open Go.RowKit Go.Lib
set_option linter.unusedVariables false

/-! ### Messages in memory: six cells each -/
def Msg.cells (x : Msg) : List Value := [.int .i64 x.o.k, .int .i64 x.o.p, .int .i64 x.o.b, .int .i64 x.o.s, .int .i64 (x.sent : Int), .int .i64 (x.came : Int)]
def flat6 (l : List Msg) : List Value := l.flatMap Msg.cells
theorem flat6_len : ∀ l : List Msg, (flat6 l).length = l.length * 6
  | [] => rfl
  | o :: l => by
    show (o.cells ++ flat6 l).length = _
    rw [List.length_append, flat6_len l, List.length_cons]
    show 6 + _ = _
    omega
theorem flat6_append (a b : List Msg) : flat6 (a ++ b) = flat6 a ++ flat6 b := List.flatMap_append
theorem flat6_one (l : List Msg) : ∀ u ∈ flat6 l, u.oneCell' = true := by
  intro u hu
  obtain ⟨r, _, hr⟩ := List.mem_flatMap.1 hu
  simp only [Msg.cells, List.mem_cons, List.not_mem_nil, or_false] at hr
  rcases hr with rfl | rfl | rfl | rfl | rfl | rfl <;> rfl
theorem rowq6_len {w : World} {v : Value} {l : List Msg} {g : Option Nat} (h : RowQ w 6 v (flat6 l) g) : ∃ a c, v = .slice a l.length c := by
  rcases h with ⟨rfl, h2, _⟩ | ⟨gb, off, n, cap, _, rfl, h3, _⟩
  · have e0 : l = [] := by
      have := congrArg List.length h2
      rw [flat6_len] at this
      exact List.length_eq_zero_iff.1 (by simp only [List.length_nil] at this; omega)
    subst e0
    exact ⟨none, 0, rfl⟩
  · have e0 : n = l.length := by rw [flat6_len] at h3; omega
    subst e0
    exact ⟨_, _, rfl⟩
/-- A queue that isn't empty: where it lies, and its first message. -/
theorem rowq6_head {w : World} {v : Value} {x : Msg} {l : List Msg} {g : Option Nat} (h : RowQ w 6 v (flat6 (x :: l)) g) :
    ∃ gb off cap, g = some gb ∧ v = .slice (some ⟨gb, off, none⟩) (l.length + 1) cap ∧ l.length + 1 ≤ cap ∧ cap ≤ 9223372036854775807 ∧ gb < w.heap.size ∧
      (w.cell? ⟨gb, off, none⟩ = some (.int .i64 x.o.k) ∧ w.cell? ⟨gb, off + 1, none⟩ = some (.int .i64 x.o.p) ∧ w.cell? ⟨gb, off + 2, none⟩ = some (.int .i64 x.o.b) ∧ w.cell? ⟨gb, off + 3, none⟩ = some (.int .i64 x.o.s) ∧ w.cell? ⟨gb, off + 4, none⟩ = some (.int .i64 (x.sent : Int)) ∧ w.cell? ⟨gb, off + 5, none⟩ = some (.int .i64 (x.came : Int))) ∧
      RowQ w 6 (.slice (some ⟨gb, off + 6, none⟩) l.length (cap - 1)) (flat6 l) (some gb) := by
  rcases h with ⟨_, h2, _⟩ | ⟨gb, off, n, cap, hg, hv, h3, h4, h5, h6, h7, h8⟩
  · have := congrArg List.length h2
    rw [flat6_len] at this
    simp at this
  · have e0 : n = l.length + 1 := by rw [flat6_len, List.length_cons] at h3; omega
    subst e0
    have hc : ∀ j, j < 6 → (flat6 (x :: l))[j]? = x.cells[j]? := fun j hj => by
      show (x.cells ++ flat6 l)[j]? = _
      rw [List.getElem?_append_left (by show j < 6; exact hj)]
    refine ⟨gb, off, cap, hg, hv, h4, h5, h6, ⟨h7 0 _ (hc 0 (by decide)), h7 1 _ (hc 1 (by decide)), h7 2 _ (hc 2 (by decide)), h7 3 _ (hc 3 (by decide)), h7 4 _ (hc 4 (by decide)), h7 5 _ (hc 5 (by decide))⟩, Or.inr ⟨gb, off + 6, l.length, cap - 1, rfl, rfl, flat6_len l, by omega, by omega, h6, fun j y hj => ?_, fun j hj => ?_⟩⟩
    · rw [Nat.add_assoc]
      refine h7 (6 + j) y ?_
      show (x.cells ++ flat6 l)[6 + j]? = _
      rw [List.getElem?_append_right (by show 6 ≤ _; omega), show 6 + j - x.cells.length = j by show 6 + j - 6 = j; omega]
      exact hj
    · rw [Nat.add_assoc]
      exact h8 (6 + j) (by omega)
end Go.Proofs.Ytabahmcbhapbiaa
