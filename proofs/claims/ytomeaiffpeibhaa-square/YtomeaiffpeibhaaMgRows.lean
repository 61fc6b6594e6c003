import Derived.Test.YtomeaiffpeibhaaMem
import Derived.Test.YtomeaiffpeibhaaRows
namespace Go.Proofs.Ytomeaiffpeibhaa
open Go.RowKit Go.Lib
set_option linter.unusedVariables false
/-- Where a slice begins: at its block's head, or where the elder one did. -/
def OffOK (v v' : Value) : Prop := ∀ (gb off n c : Nat), v' = .slice (some ⟨gb, off, none⟩) n c → off = 0 ∨ ∃ n0 c0, v = .slice (some ⟨gb, off, none⟩) n0 c0
/-- A block that is new is nowhere frozen; an elder one as it was. -/
def FrzOK (g g' : Option Nat) (W W' : World) : Prop := ∀ gb, g' = some gb → (g = some gb ∧ ∀ j, W'.frozen? ⟨gb, j, none⟩ = W.frozen? ⟨gb, j, none⟩) ∨ ∀ j, W'.frozen? ⟨gb, j, none⟩ = false
/-- 'append(v, x...)': the row takes what x holds. -/
theorem rowq_append_off {P : Program} {t tx e : TypeId} {z : Value} {size bytes : Nat} (W : World) (ht : P.underlying t = some (.slice e)) (hinfo : (P.info? e).map (fun i => (i.zero, i.size, i.bytes)) = some (some z, size, bytes))
    (hzc : z.cells.size = size) (hs0 : 0 < size) {v : Value} {xs : List Value} {g : Option Nat} (h : RowQ W size v xs g) {x : Value} {m : Nat} {news : List Value} (hsrc : Src P size tx x m news W) {N : Nat} (hN : xs.length + news.length = N * size)
    (hbig : N * bytes ≤ 140737488355328) (hN63 : N ≤ 9223372036854775807) :
    ∃ (v' : Value) (W' : World), (∀ ty, (Builtin.append_ #[t, tx] ty #[v, x]).run P W = .ok v' W') ∧ ∃ g', RowQ W' size v' (xs ++ news) g' ∧ KeptX (fun k => g = some k) W W' ∧ ((g' = g ∨ g' = some W.heap.size) ∧ OffOK v v' ∧ FrzOK g g' W W') := by
  obtain ⟨i0, hi0, hz0, hzs, hzb⟩ := info_parts hinfo
  have hnl := hsrc.newsLen
  have grown : ∀ (base : Option Addr) (n cap : Nat), v = .slice base n cap → xs.length = n * size → cap < n + m → (Builtin.firstCells i0.size n (.slice base n cap)).run P W.drew = .ok xs.toArray W.drew →
      ∃ (v' : Value) (W' : World), (∀ ty, (Builtin.append_ #[t, tx] ty #[v, x]).run P W = .ok v' W') ∧ ∃ g', RowQ W' size v' (xs ++ news) g' ∧ KeptX (fun k => g = some k) W W' ∧ ((g' = g ∨ g' = some W.heap.size) ∧ OffOK v v' ∧ FrzOK g g' W W') := by
    intro base n cap hv hxl hlt hold
    have hNn : N = n + m := by
      have : N * size = (n + m) * size := by rw [Nat.add_mul]; omega
      exact Nat.eq_of_mul_eq_mul_right hs0 this
    subst hNn
    have hG := grownCap_ge W (n + m) cap e
    have hG2 := grownCap_le_maxLen W (n + m) cap e (by unfold maxLen; omega)
    unfold maxLen at hG2
    refine ⟨_, _, fun ty => by rw [hv]; exact run_append_grow_src W t tx ty e i0 z ht hi0 hz0 base n cap xs hold x m news (by rw [hzs]; exact hsrc) hlt (by omega) (by rw [hzb]; exact growslice_fits hlt hbig), some W.heap.size, ?_, (KeptX.refl _ _).drew.alloc _, Or.inr rfl, fun gb off n1 c1 e => (by cases e; exact Or.inl rfl), fun gb e => by cases e; exact Or.inr (fun j => World.frozen?_alloc_at (w := W.drew) _ _ W.heap.size j rfl)⟩
    refine Or.inr ⟨W.heap.size, 0, n + m, grownCap W (n + m) cap e, rfl, rfl, by rw [List.length_append]; exact hN, hG, by omega, by simp, fun j y hj => ?_, fun j hj => ?_⟩
    · rw [Nat.zero_add, World.cell?_alloc_at (w := W.drew) _ _ W.heap.size j rfl]
      have hjl := (List.getElem?_eq_some_iff.1 hj).1
      rw [Array.getElem?_append_left (by simpa using hjl)]
      simpa using hj
    · rw [Nat.zero_add]
      refine ⟨?_, World.frozen?_alloc_at (w := W.drew) _ _ W.heap.size j rfl⟩
      rw [World.cell?_alloc_at (w := W.drew) _ _ W.heap.size j rfl, Array.getElem?_eq_getElem]
      · rfl
      · have hzl : (Builtin.zeroCells z.cells (grownCap W (n + m) cap e - (n + m))).size = (grownCap W (n + m) cap e - (n + m)) * size := by
          simp [Builtin.zeroCells, hzc]
        rw [Array.size_append, hzl]
        simp only [List.size_toArray, List.length_append]
        rw [hN, ← Nat.add_mul]
        rw [show n + m + (grownCap W (n + m) cap e - (n + m)) = grownCap W (n + m) cap e by omega]
        exact hj
  rcases h with ⟨rfl, rfl, rfl⟩ | ⟨gb, off, n, cap, rfl, rfl, h3, h4, h5, h6, h7, h8⟩
  · by_cases hm : m = 0
    · subst hm
      have e0 : news = [] := List.length_eq_zero_iff.1 (by omega)
      subst e0
      refine ⟨.slice none 0 0, W, fun ty => ?_, none, RowQ.nil _ _, KeptX.refl _ _, Or.inl rfl, fun gb off n1 c1 e => (by cases e), fun gb e => (by cases e)⟩
      have hc := hsrc.cells
      rw [← hzs] at hc
      rcases hsrc.kind with ⟨e', hk⟩ | hk <;> simp [Builtin.append_, run_underlying ht, run_underlying hk, sizeOf, typeInfo, hi0, hsrc.len, hc]
    · refine grown none 0 0 rfl (by simp) (by omega) ?_
      exact run_firstCells_none W.drew i0.size 0 0 0
  · by_cases hroom : n + m ≤ cap
    · refine ⟨_, _, fun ty => run_append_room_src W t tx ty e i0 ht hi0 gb off n cap x m news (by rw [hzs]; exact hsrc) hroom (fun j hj => ?_) (fun j hj => ?_), some gb, ?_, KeptX.setCells (F := fun k => some gb = some k) (fun _ => rfl) _ _ _ (KeptX.refl _ _), Or.inl rfl, fun gb1 off1 n1 c1 e => (by cases e; exact Or.inr ⟨_, _, rfl⟩), fun gb1 e => Or.inl ⟨e, fun j => World.frozen?_setCells _ _ _ _ _⟩⟩
      · rw [hzs, Nat.add_assoc]
        refine (h8 _ ?_).1
        have : (n + m) * size ≤ cap * size := Nat.mul_le_mul_right _ hroom
        rw [Nat.add_mul] at this
        omega
      · rw [hzs, Nat.add_assoc]
        refine (h8 _ ?_).2
        have : (n + m) * size ≤ cap * size := Nat.mul_le_mul_right _ hroom
        rw [Nat.add_mul] at this
        omega
      · have hle : (n + m) * size ≤ cap * size := Nat.mul_le_mul_right _ hroom
        rw [Nat.add_mul] at hle
        have hin : ∀ j, j < news.length → (W.cell? ⟨gb, off + n * size + j, none⟩).isSome = true := fun j hj => by
          rw [Nat.add_assoc]; exact (h8 _ (by omega)).1
        rw [hzs]
        refine Or.inr ⟨gb, off, n + m, cap, rfl, rfl, by rw [List.length_append, h3, hnl, Nat.add_mul], hroom, h5, ?_, fun j y hj => ?_, fun j hj => ?_⟩
        · exact Nat.lt_of_lt_of_le h6 (KeptX.setCells (F := fun _ => True) (fun _ => trivial) news _ _ (KeptX.refl _ _)).size
        · by_cases hjx : j < xs.length
          · rw [List.getElem?_append_left hjx] at hj
            rw [World.cell?_setCells_out gb _ _ _ _ (fun _ _ => Or.inl (by show off + j < off + n * size; omega))]
            exact h7 j y hj
          · rw [List.getElem?_append_right (by omega)] at hj
            have hjl := (List.getElem?_eq_some_iff.1 hj).1
            have := World.cell?_setCells_in gb news (off + n * size) W hin (j - xs.length) hjl
            rw [show off + n * size + (j - xs.length) = off + j by omega] at this
            rw [this]
            rw [List.getElem?_eq_getElem hjl] at hj
            exact hj
        · rw [World.frozen?_setCells]
          exact ⟨isSome_setCells gb news _ W hin _ (h8 j hj).1, (h8 j hj).2⟩
    · refine grown (some ⟨gb, off, none⟩) n cap rfl h3 (by omega) ?_
      rw [hzs]
      exact run_firstCells_some W.drew size n ⟨gb, off, none⟩ n cap xs h3 (fun j y hj => by rw [Addr.add_lit]; exact h7 j y hj)

end Go.Proofs.Ytomeaiffpeibhaa

namespace Go.Proofs.Ytomeaiffpeibhaa
open Go.RowKit Go.Lib
set_option linter.unusedVariables false
/-- n rows in a row. -/
def flatN (row : Nat → List Value) (n : Nat) : List Value := (List.range n).flatMap row
theorem flatN_zero (row : Nat → List Value) : flatN row 0 = [] := rfl
theorem flatN_succ (row : Nat → List Value) (n : Nat) : flatN row (n + 1) = flatN row n ++ row n := by
  unfold flatN
  rw [List.range_succ, List.flatMap_append]
  simp
theorem flatN_len {row : Nat → List Value} {s : Nat} (h : ∀ i, (row i).length = s) : ∀ n, (flatN row n).length = n * s
  | 0 => by simp [flatN]
  | n + 1 => by rw [flatN_succ, List.length_append, flatN_len h n, h, Nat.add_mul]; simp
theorem flatN_at {row : Nat → List Value} {s : Nat} (h : ∀ i, (row i).length = s) {i k : Nat} (hk : k < s) : ∀ n, i < n → (flatN row n)[i * s + k]? = (row i)[k]?
  | n + 1, hi => by
    rw [flatN_succ]
    by_cases e : i < n
    · rw [List.getElem?_append_left (by
        rw [flatN_len h]
        have : (i + 1) * s ≤ n * s := Nat.mul_le_mul_right _ e
        rw [Nat.add_mul] at this
        omega)]
      exact flatN_at h hk n e
    · have e0 : i = n := by omega
      subst e0
      rw [List.getElem?_append_right (by rw [flatN_len h]; omega), flatN_len h, Nat.add_sub_cancel_left]
/-- 'append(q, x)' of one row. -/
theorem appN {t e : TypeId} {z : Value} {size bytes : Nat} {row : Nat → List Value} {W : World} {v : Value} {j : Nat} {g : Option Nat} (ht : Try.prog.underlying t = some (.slice e)) (hinfo : (Try.prog.info? e).map (fun i => (i.zero, i.size, i.bytes)) = some (some z, size, bytes))
    (hzc : z.cells.size = size) (hs0 : 0 < size) (hrow : ∀ i, (row i).length = size) (hone : ∀ u ∈ row j, u.oneCell' = true) (hq : RowQ W size v (flatN row j) g) (C : Array Value) (hC : C = (row j).toArray) (hbig : (j + 1) * bytes ≤ 140737488355328) (h63 : j + 1 ≤ 9223372036854775807) :
    ∃ v' W', (∀ ty, (Builtin.append_ #[t, t] ty #[v, .slice (some ⟨W.heap.size, 0, none⟩) 1 1]).run Try.prog (W.alloc (.cells C e)) = .ok v' W') ∧
      (∃ a n c, v' = .slice a n c) ∧ ∃ g', RowQ W' size v' (flatN row (j + 1)) g' ∧ KeptX (fun k => g = some k) W W' ∧ (∀ k, g' = some k → g = some k ∨ W.heap.size < k) ∧ OffOK v v' ∧ FrzOK g g' W W' := by
  have hsrc : Src Try.prog size t (.slice (some ⟨W.heap.size, 0, none⟩) 1 1) 1 (row j) (W.alloc (.cells C e)) :=
    Src.ofSlice _ ht ⟨W.heap.size, 0, none⟩ 1 1 _ (by rw [hrow, Nat.one_mul]) (fun k u hk => by
      rw [Addr.add_lit, Nat.zero_add, World.cell?_alloc_at (w := W) _ _ _ k rfl, hC]
      simpa using hk) hone
  have q1 := hq.keep (w' := W.alloc (.cells C e)) (F := fun _ => False) ((KeptX.refl _ _).alloc _) (fun _ _ h => h)
  obtain ⟨v2, W2, e2, g2, q2, k2, d2, o2, f2⟩ := rowq_append_off (P := Try.prog) (t := t) (tx := t) _ ht hinfo hzc hs0 q1 hsrc (N := j + 1) (by rw [flatN_len hrow, hrow, Nat.add_mul, Nat.one_mul]) hbig h63
  rw [← flatN_succ] at q2
  have hv2 : ∃ a n c, v2 = .slice a n c := by
    rcases q2 with ⟨h, _, _⟩ | ⟨gb, off, n, cap, _, h, _⟩
    · exact ⟨_, _, _, h⟩
    · exact ⟨_, _, _, h⟩
  refine ⟨v2, W2, e2, hv2, g2, q2, KeptX.trans ((KeptX.refl (fun k => g = some k) W).alloc _) k2 (fun _ _ e => e), fun k e => ?_, o2, fun gb e => (f2 gb e).imp (fun x => ⟨x.1, fun j => (x.2 j).trans (((KeptX.refl (fun _ => False) W).alloc _).frozen (p := ⟨gb, j, none⟩) (hq.lt gb x.1) (fun e => e))⟩) id⟩
  rcases d2 with d | d
  · exact Or.inl (by rw [← d]; exact e)
  · rw [d] at e
    cases e
    right; simp
/-- Rows that begin at their block's head. -/
def Off0 (v : Value) : Prop := ∀ (gb off n c : Nat), v = .slice (some ⟨gb, off, none⟩) n c → off = 0
theorem Off0.nil : Off0 (.slice none 0 0) := fun _ _ _ _ e => by cases e
theorem Off0.next {v v' : Value} (h : Off0 v) (k : OffOK v v') : Off0 v' := fun gb off n c e => (k gb off n c e).elim id (fun ⟨_, _, e2⟩ => h _ _ _ _ e2)
/-- The row as it lies, with something in it. -/
theorem rowN_open {W : World} {size : Nat} {v : Value} {row : Nat → List Value} {n : Nat} {g : Option Nat} (hs0 : 0 < size) (hrow : ∀ i, (row i).length = size) (hq : RowQ W size v (flatN row n) g) (h0 : Off0 v) (hn : 0 < n) :
    ∃ gb cap, g = some gb ∧ v = .slice (some ⟨gb, 0, none⟩) n cap ∧ gb < W.heap.size ∧ (∀ i k, i < n → k < size → W.cell? ⟨gb, i * size + k, none⟩ = (row i)[k]?) ∧ (∀ i, i < n * size → W.frozen? ⟨gb, i, none⟩ = false) := by
  rcases hq with ⟨_, h, _⟩ | ⟨gb, off, n', cap, hg, hv, h3, h4, h5, h6, h7, h8⟩
  · exfalso
    have := congrArg List.length h
    rw [flatN_len hrow] at this
    have h2 : 0 < n * size := Nat.mul_pos hn hs0
    rw [this] at h2
    exact absurd h2 (by simp)
  · have e0 := h0 _ _ _ _ hv
    subst e0
    have en : n' = n := by rw [flatN_len hrow] at h3; exact (Nat.eq_of_mul_eq_mul_right hs0 h3).symm
    subst en
    refine ⟨gb, cap, hg, hv, h6, fun i k hi hk => ?_, fun i hi => ?_⟩
    · have hat := flatN_at hrow hk n' hi
      obtain ⟨u, hu⟩ : ∃ u, (row i)[k]? = some u := ⟨_, List.getElem?_eq_getElem (by rw [hrow]; exact hk)⟩
      have := h7 (i * size + k) u (hat.trans hu)
      rw [Nat.zero_add] at this
      rw [this, hu]
    · have := (h8 i (Nat.lt_of_lt_of_le hi (Nat.mul_le_mul_right _ h4))).2
      rw [Nat.zero_add] at this
      exact this
end Go.Proofs.Ytomeaiffpeibhaa
