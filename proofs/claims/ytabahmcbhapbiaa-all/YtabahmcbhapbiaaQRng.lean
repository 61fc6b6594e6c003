import Derived.Test.YtabahmcbhapbiaaQRow
import Derived.RangeFuncNested
import Derived.RangeFuncLeaves
import Derived.Test.YtabahmcbhapbiaaQDevMoot
import Derived.RangeFuncBound
import Derived.RangeFuncCalls
import Derived.Shelf.Abstract
import Derived.Shelf.RegionOpen
import Derived.WalkKit
import Derived.OwnWalkIn
import Derived.TacticsInMore
import Derived.LoopNIn
import Derived.LoopIn
namespace Go.Proofs.Ytabahmcbhapbiaa
open Go.RowKit
set_option linter.unusedVariables false
/-! ### A range over a function whose body may turn all but the blocks that the iterator has laid (T) -/
section
variable {α : Type} {P : Program}
/-- What lies in the blocks of T lies as it lay. -/
structure KeepT (T : Nat → Prop) (W W' : World) : Prop where
  size : W.heap.size ≤ W'.heap.size
  same : ∀ k, T k → k < W.heap.size → W'.heap[k]? = W.heap[k]?
/-- Blocks of T alone are turned; new ones may be made. -/
structure TurnT (T : Nat → Prop) (W W' : World) : Prop where
  os : W'.os = W.os
  tape : W'.tape = W.tape
  output : W'.output = W.output
  size : W.heap.size ≤ W'.heap.size
  block : ∀ k, k < W.heap.size → ¬ T k → W'.heap[k]? = W.heap[k]?
theorem KeepT.refl (T : Nat → Prop) (W : World) : KeepT T W W := ⟨Nat.le_refl _, fun _ _ _ => rfl⟩
theorem KeepT.trans {T : Nat → Prop} {A B C : World} (h : KeepT T A B) (k : KeepT T B C) : KeepT T A C :=
  ⟨Nat.le_trans h.size k.size, fun i hi hl => (k.same i hi (Nat.lt_of_lt_of_le hl h.size)).trans (h.same i hi hl)⟩
theorem KeepT.mono {T T' : Nat → Prop} {A B : World} (h : KeepT T A B) (hT : ∀ k, T' k → T k) : KeepT T' A B := ⟨h.size, fun i hi hl => h.same i (hT i hi) hl⟩
theorem KeepT.of_below {T : Nat → Prop} {A B : World} (h : Below A.heap.size A B) : KeepT T A B := ⟨h.size, fun i _ hl => h.block i hl⟩
theorem TurnT.of_below {T : Nat → Prop} {A B : World} (h : Below A.heap.size A B) : TurnT T A B := ⟨h.os, h.tape, h.output, h.size, fun i hl _ => h.block i hl⟩
theorem TurnT.mono {T T' : Nat → Prop} {A B : World} (h : TurnT T A B) (hT : ∀ k, T k → T' k) : TurnT T' A B := ⟨h.os, h.tape, h.output, h.size, fun i hl hn => h.block i hl (fun e => hn (hT i e))⟩
theorem TurnT.put {T : Nat → Prop} (A : World) {l : Nat} (hl : T l) (o : Obj) : TurnT T A (A.putObj l o) := ⟨rfl, rfl, rfl, by simp, fun i _ hn => World.putObj_heap_other (fun e => hn (by rw [e]; exact hl))⟩
theorem KeepT.put {T : Nat → Prop} (A : World) {l : Nat} (hl : ¬ T l) (o : Obj) : KeepT T A (A.putObj l o) := ⟨by simp, fun i hi _ => World.putObj_heap_other (fun e => hl (by rw [← e]; exact hi))⟩
/-- A word that abides what is done to the blocks of T, and new blocks, which may become T's. -/
def Stable {β : Type} (J : (Nat → Prop) → β → World → Prop) : Prop := ∀ T T' s W W', J T s W → TurnT T W W' → (∀ k, T' k → T k ∨ (W.heap.size ≤ k ∧ k < W'.heap.size)) → J T' s W'
/-- An iterator's contract. -/
def SeqT (P : Program) (g : Nat) (lb : Array Value) (encs : α → Array Value) (Hc : World → Prop) (S Sp : List α → Prop) (N : Nat) (w : World) : Prop :=
  ∀ (l : Nat) (J Jx : (Nat → Prop) → List α → World → Prop) (W : World), Below w.heap.size w W → Stable J → Stable Jx → (∀ T pre W1, J T pre W1 → Hc W1) →
    (∀ T pre x W1, J T pre W1 → pre.length < N → YieldAt Fence.wide 0 P l (encs x) W1 fun e W' =>
      (e = .returned (.bool true) ∧ J T (pre ++ [x]) W' ∧ KeepT T W1 W') ∨ (e = .returned (.bool false) ∧ Jx T (pre ++ [x]) W' ∧ KeepT T W1 W')) →
    J (fun _ => False) [] W →
    CallsIn Fence.wide 0 P g (#[.func (.yield l) #[] #[]] ++ lb) W fun e W' => (∃ v, e = .returned v) ∧ ((∃ xs T, S xs ∧ J T xs W') ∨ (∃ pre T, Sp pre ∧ Jx T pre W'))
/-- How a round's body may be left. -/
def postT (I : (Nat → Prop) → List α → World → Prop) (Ix : Code → (Nat → Prop) → List α → World → Prop) (T : Nat → Prop) (xs : List α) (W : World) : Exit → Act → World → Prop
  | .normal, _, W' => KeepT T W W' ∧ I T xs W'
  | .ret, _, W' => KeepT T W W' ∧ Ix .ret T xs W'
  | .exit id, _, W' => KeepT T W W' ∧ Ix (.exit id) T xs W'
  | _, _, _ => False
set_option maxHeartbeats 1000000 in
/-- The range. -/
theorem range_T {g : Operand} {ps : Array Tmp} {assign body : Code} {Q : Exit → Act → World → Prop} {a : Act} {w : World} {gf : Nat} {lb : Array Value} (hg : a.eval g = .func (.func gf) #[] lb) (eg : ∀ args w, (callFunc gf args).run P w = .ok (.enter gf args) w)
    {encs : α → Array Value} {Hc : World → Prop} {S Sp : List α → Prop} {N : Nat} {w0 : World} (hseq : SeqT P gf lb encs Hc S Sp N w0) (hb0 : Below w0.heap.size w0 w) (hps : ∀ x, (encs x).size = ps.size)
    (I : (Nat → Prop) → List α → World → Prop) (Ix : Code → (Nat → Prop) → List α → World → Prop) (hI : Stable I) (hIx : ∀ c, Stable (Ix c)) (hHc : ∀ T pre W1, I T pre W1 → Hc W1) (h0 : I (fun _ => False) [] w)
    (Ax : α → Act → (Nat → Prop) → World → Prop) (hAx : ∀ x a' T W W', Ax x a' T W → TurnT T W W' → Ax x a' T W')
    (hassign : ∀ (l : Nat) (T : Nat → Prop) (pre : List α) (x : α) (W : World) (K : Act → World → Prop), I T pre W → T l → (∀ k, T k → k < W.heap.size) → (∀ a' W', Below W.heap.size W W' → Ax x a' T W' → K a' W') →
      assign.wpIn (Fence.wide.inRound l) 0 P (Exit.then K (fun _ _ _ => False)) { tmps := (ps.zip (encs x)).foldl (fun t (p, v) => t.setIfInBounds p v) a.tmps, defers := [] } W)
    (hbody : ∀ (l : Nat) (T : Nat → Prop) (pre : List α) (x : α) (a' : Act) (W : World), T l → (∀ k, T k → k < W.heap.size) → I T pre W → Ax x a' T W → pre.length < N → body.wpIn (Fence.wide.inRound l) 0 P (postT I Ix T (pre ++ [x]) W) a' W)
    (hdone : ∀ (D : Nat) (T : Nat → Prop) (xs : List α) (W : World), w.heap.size ≤ D → T D → (∀ k, T k → k < W.heap.size) → S xs → I T xs W → W.heap[D]? = some (.deferred (some [])) → Q .normal { a with defers := { target := .collected D, args := #[] } :: a.defers } W)
    (hstop : ∀ (D : Nat) (c : Code) (T : Nat → Prop) (pre : List α) (W : World), w.heap.size ≤ D → T D → (∀ k, T k → k < W.heap.size) → Sp pre → Ix c T pre W → W.heap[D]? = some (.deferred (some [])) → c.wpIn Fence.wide 0 P Q { a with defers := { target := .collected D, args := #[] } :: a.defers } W) :
    (Code.rangeFunc g ps assign body).wpIn Fence.wide 0 P Q a w := by
  refine wpIn_rangeFunc ?_
  intro fn hfn
  obtain ⟨rec, hrec⟩ : ∃ rec : LoopState → Option Code → Loop, rec = fun st pe => { state := st, pending := pe, fn, tmps := a.tmps, params := ps, assign, body, defers := w.heap.size } := ⟨_, rfl⟩
  obtain ⟨W1, hW1⟩ : ∃ W1, (w.alloc (.deferred (some []))).alloc (.loop (rec .ready none)) = W1 := ⟨_, rfl⟩
  have hz1 : W1.heap.size = w.heap.size + 2 := by rw [← hW1]; simp
  have hL1 : W1.heap[w.heap.size + 1]? = some (.loop (rec .ready none)) := by
    rw [← hW1]
    have := World.alloc_heap_new (w.alloc (.deferred (some []))) (.loop (rec .ready none))
    rwa [World.size_alloc] at this
  have hD1 : W1.heap[w.heap.size]? = some (.deferred (some [])) := by
    rw [← hW1]
    exact (Below.heap_alloc _ _ _ (by simp)).trans (World.alloc_heap_new w _)
  have hbw : Below w.heap.size w W1 := by
    rw [← hW1]
    exact ((Below.refl _ w).alloc (Nat.le_refl _) _).alloc (by simp) _
  have hb1 : Below w0.heap.size w0 W1 := hb0.trans (hbw.mono hb0.size)
  refine ⟨w.heap.size + 1, [{ target := .collected w.heap.size, args := #[] }], W1, { target := .fn (.func gf) lb, args := #[.func (.yield (w.heap.size + 1)) #[] #[]] }, W1, gf, #[.func (.yield (w.heap.size + 1)) #[] #[]] ++ lb, W1, ?_, ?_, fun _ _ => trivial, ?_, fun h => (by cases h), ?_⟩
  · rw [← hW1, hrec]
    exact run_enterLoop_outer _ _ _ _ _
  · simp only [resolve, hg]
    simp [go_sem]
  · simp [invoke, go_sem, eg]
  obtain ⟨X, hX⟩ : ∃ X : (Nat → Prop) → Nat → Prop, X = fun T k => T k ∨ k = w.heap.size + 1 ∨ k = w.heap.size := ⟨_, rfl⟩
  have XT : ∀ T k, T k → X T k := fun T k h => by rw [hX]; exact Or.inl h
  have XL : ∀ T, X T (w.heap.size + 1) := fun T => by rw [hX]; exact Or.inr (Or.inl rfl)
  have XD : ∀ T, X T w.heap.size := fun T => by rw [hX]; exact Or.inr (Or.inr rfl)
  have XW : ∀ (T : Nat → Prop) (W : World), (∀ k, T k → w.heap.size + 2 ≤ k ∧ k < W.heap.size) → w.heap.size + 1 < W.heap.size → ∀ k, X T k → k < W.heap.size := fun T W h1 h2 k hk => by
    rw [hX] at hk
    rcases hk with h | h | h
    · exact (h1 k h).2
    · omega
    · omega
  have st : ∀ {J : (Nat → Prop) → List α → World → Prop} (hJ : Stable J) (T T' : Nat → Prop) (s : List α) (W W' : World), J (X T) s W → TurnT T W W' → (∀ k, T' k → T k ∨ (W.heap.size ≤ k ∧ k < W'.heap.size)) → J (X T') s W' := fun {J} hJ T T' s W W' h ht hT => by
    refine hJ (X T) (X T') s W W' h (ht.mono (XT T)) (fun k hk => ?_)
    rw [hX] at hk ⊢
    rcases hk with hk | hk
    · exact (hT k hk).imp Or.inl id
    · exact Or.inl (Or.inr hk)
  have lows : ∀ {T T' : Nat → Prop} {W W' : World} {r s : Obj}, (∀ k, T k → w.heap.size + 2 ≤ k ∧ k < W.heap.size) → W.heap[w.heap.size + 1]? = some r → W.heap[w.heap.size]? = some s → TurnT T W W' → (∀ k, T' k → T k ∨ (W.heap.size ≤ k ∧ k < W'.heap.size)) →
      (∀ k, T' k → w.heap.size + 2 ≤ k ∧ k < W'.heap.size) ∧ W'.heap[w.heap.size + 1]? = some r ∧ W'.heap[w.heap.size]? = some s := fun {T T' W W' r s} hT hr hs ht hT' => by
    have l1 := (Array.getElem?_eq_some_iff.1 hr).1
    exact ⟨fun k hk => (hT' k hk).elim (fun h => by have := hT k h; have := ht.size; omega) (fun h => by omega), (ht.block _ l1 (fun h => by have := hT _ h; omega)).trans hr, (ht.block _ (by omega) (fun h => by have := hT _ h; omega)).trans hs⟩
  refine (hseq (w.heap.size + 1)
    (fun T pre W => I (X T) pre W ∧ (∀ k, T k → w.heap.size + 2 ≤ k ∧ k < W.heap.size) ∧ W.heap[w.heap.size + 1]? = some (.loop (rec .ready none)) ∧ W.heap[w.heap.size]? = some (.deferred (some [])))
    (fun T pre W => ∃ c, Ix c (X T) pre W ∧ (∀ k, T k → w.heap.size + 2 ≤ k ∧ k < W.heap.size) ∧ W.heap[w.heap.size + 1]? = some (.loop (rec .done (some c))) ∧ W.heap[w.heap.size]? = some (.deferred (some [])))
    W1 hb1 (fun T T' s W W' h ht hT => ⟨st hI T T' s W W' h.1 ht hT, lows h.2.1 h.2.2.1 h.2.2.2 ht hT⟩)
    (fun T T' s W W' h ht hT => by
      obtain ⟨c, h1, h2, h3, h4⟩ := h
      exact ⟨c, st (hIx c) T T' s W W' h1 ht hT, lows h2 h3 h4 ht hT⟩) (fun T pre W h => hHc _ _ _ h.1) ?_ ⟨?_, fun _ h => h.elim, hL1, hD1⟩).mono ?_
  · rintro T pre x W ⟨hi, hT, hl, hd⟩ hlen
    have nL : ¬ T (w.heap.size + 1) := fun h => by have := hT _ h; omega
    have hlt : w.heap.size + 1 < W.heap.size := (Array.getElem?_eq_some_iff.1 hl).1
    have hy := run_yield (P := P) (args := encs x) hl (by rw [hrec]; exact hps x)
    rw [hrec] at hy
    refine ⟨fn, _, assign, body, hy, roundIn_of_wpIn hfn (hassign _ (X T) pre x W _ hi (XL T) (XW T W hT hlt) ?_)⟩
    intro a' Wa hba hax
    have hla : Wa.heap[w.heap.size + 1]? = some (.loop (rec .ready none)) := (hba.block _ hlt).trans hl
    have hda : Wa.heap[w.heap.size]? = some (.deferred (some [])) := (hba.block _ (by omega)).trans hd
    have hia : I (X T) pre Wa := hI _ _ _ _ _ hi (TurnT.of_below hba) (fun k hk => Or.inl hk)
    have hlta : w.heap.size + 1 < Wa.heap.size := (Array.getElem?_eq_some_iff.1 hla).1
    refine ⟨_, run_beginRound hla (by rw [hrec]), ?_⟩
    obtain ⟨Wb, hWb⟩ : ∃ Wb, Wb = Wa.putObj (w.heap.size + 1) (.loop { rec .ready none with state := .busy }) := ⟨_, rfl⟩
    rw [← hWb]
    have hlb : Wb.heap[w.heap.size + 1]? = some (.loop { rec .ready none with state := .busy }) := by rw [hWb]; exact World.putObj_heap_same hlta
    have hdb : Wb.heap[w.heap.size]? = some (.deferred (some [])) := by rw [hWb]; exact (World.putObj_heap_other (by omega)).trans hda
    have htb : TurnT (X T) Wa Wb := by rw [hWb]; exact TurnT.put _ (XL T) _
    have hkb : KeepT T W Wb := (KeepT.of_below hba).trans (by rw [hWb]; exact KeepT.put _ nL _)
    have hszb : Wb.heap.size = Wa.heap.size := by rw [hWb]; simp
    refine wpIn_mono (hbody _ (X T) pre x a' Wb (XL T) (fun k hk => by have := XW T W hT hlt k hk; have := hba.size; omega) (hI _ _ _ _ _ hia htb (fun k hk => Or.inl hk)) (hAx _ _ _ _ _ hax htb) hlen) ?_
    have fin : ∀ (jump : Option Code) (W3 : World), KeepT (X T) Wb W3 →
        (Instr.endRound (w.heap.size + 1) jump).run P W3 = .ok (.bool jump.isNone) (W3.putObj (w.heap.size + 1) (.loop (rec (if jump.isNone then .ready else .done) jump))) ∧
        (W3.putObj (w.heap.size + 1) (.loop (rec (if jump.isNone then .ready else .done) jump))).heap[w.heap.size + 1]? = some (.loop (rec (if jump.isNone then .ready else .done) jump)) ∧
        (W3.putObj (w.heap.size + 1) (.loop (rec (if jump.isNone then .ready else .done) jump))).heap[w.heap.size]? = some (.deferred (some [])) ∧
        TurnT (X T) W3 (W3.putObj (w.heap.size + 1) (.loop (rec (if jump.isNone then .ready else .done) jump))) ∧ KeepT T W (W3.putObj (w.heap.size + 1) (.loop (rec (if jump.isNone then .ready else .done) jump))) := fun jump W3 hk3 => by
      have hl3 := (hk3.same _ (XL T) (by omega)).trans hlb
      have hd3 := (hk3.same _ (XD T) (by omega)).trans hdb
      have he := run_endRound (P := P) jump hl3
      rw [hrec] at he ⊢
      exact ⟨he, World.putObj_heap_same (Array.getElem?_eq_some_iff.1 hl3).1, (World.putObj_heap_other (by omega)).trans hd3, TurnT.put _ (XL T) _, (hkb.trans (hk3.mono (XT T))).trans (KeepT.put _ nL _)⟩
    rintro e a3 W3 hp
    cases e with
    | normal =>
      obtain ⟨hk3, hi3⟩ := hp
      obtain ⟨hr, hl4, hd4, ht4, hk4⟩ := fin none W3 hk3
      exact ⟨_, _, hr, .inl ⟨rfl, ⟨hI _ _ _ _ _ hi3 ht4 (fun k hk => Or.inl hk), fun k hk => ⟨(hT k hk).1, Nat.lt_of_lt_of_le (hT k hk).2 hk4.size⟩, hl4, hd4⟩, hk4⟩⟩
    | ret =>
      obtain ⟨hk3, hi3⟩ := hp
      obtain ⟨hr, hl4, hd4, ht4, hk4⟩ := fin (some .ret) W3 hk3
      exact ⟨_, _, hr, .inr ⟨rfl, ⟨.ret, hIx _ _ _ _ _ _ hi3 ht4 (fun k hk => Or.inl hk), fun k hk => ⟨(hT k hk).1, Nat.lt_of_lt_of_le (hT k hk).2 hk4.size⟩, hl4, hd4⟩, hk4⟩⟩
    | exit id =>
      obtain ⟨hk3, hi3⟩ := hp
      obtain ⟨hr, hl4, hd4, ht4, hk4⟩ := fin (some (.exit id)) W3 hk3
      exact ⟨_, _, hr, .inr ⟨rfl, ⟨.exit id, hIx _ _ _ _ _ _ hi3 ht4 (fun k hk => Or.inl hk), fun k hk => ⟨(hT k hk).1, Nat.lt_of_lt_of_le (hT k hk).2 hk4.size⟩, hl4, hd4⟩, hk4⟩⟩
    | goto t => exact hp.elim
    | panic ch => exact hp.elim
    | outgrown => exact hp.elim
  · exact hI _ _ _ _ _ h0 (TurnT.of_below hbw) (fun k hk => Or.inr (by rw [hX] at hk; rcases hk with h | h | h; exact h.elim; omega; omega))
  · rintro e W2 ⟨⟨v, rfl⟩, (⟨xs, T, hS, hi, hT, hl, hd⟩ | ⟨pre, T, hSp, c, hi, hT, hl, hd⟩)⟩
    · refine ⟨none, _, by have := run_endLoop (P := P) hl (by rw [hrec]; simp); rw [hrec] at this; exact this, hdone _ (X T) xs _ (Nat.le_refl _) (XD T) (fun k hk => by rw [World.putObj_size]; exact XW T W2 hT (Array.getElem?_eq_some_iff.1 hl).1 k hk) hS (hI _ _ _ _ _ hi (TurnT.put _ (XL T) _) (fun k hk => Or.inl hk)) ((World.putObj_heap_other (by omega)).trans hd)⟩
    · refine ⟨some c, _, by have := run_endLoop (P := P) hl (by rw [hrec]; simp); rw [hrec] at this; exact this, hstop _ c (X T) pre _ (Nat.le_refl _) (XD T) (fun k hk => by rw [World.putObj_size]; exact XW T W2 hT (Array.getElem?_eq_some_iff.1 hl).1 k hk) hSp (hIx _ _ _ _ _ _ hi (TurnT.put _ (XL T) _) (fun k hk => Or.inl hk)) ((World.putObj_heap_other (by omega)).trans hd)⟩
end
end Go.Proofs.Ytabahmcbhapbiaa

namespace Go.Proofs.Ytabahmcbhapbiaa
open Go.RowKit Go.Shelf
set_option linter.unusedVariables false
attribute [local go_sem] Oper.semAt_some
/-- An op, as yield takes it. -/
def enc4 (x : Op4) : Array Value := #[.agg #[.int .i64 x.k, .int .i64 x.p, .int .i64 x.b, .int .i64 x.s]]
/-- The history lies at b. -/
def HistC (b : Nat) (h : List Op4) (W : World) : Prop := b < W.heap.size ∧ ∀ j y, (flat4 h)[j]? = some y → W.cell? ⟨b, j, none⟩ = some y
theorem flat4_get {h : List Op4} {k : Nat} {x : Op4} (e : h[k]? = some x) : (flat4 h)[k * 4]? = some (.int .i64 x.k) ∧ (flat4 h)[k * 4 + 1]? = some (.int .i64 x.p) ∧ (flat4 h)[k * 4 + 2]? = some (.int .i64 x.b) ∧ (flat4 h)[k * 4 + 3]? = some (.int .i64 x.s) := by
  induction h generalizing k with
  | nil => simp at e
  | cons y r ih =>
    cases k with
    | zero =>
      simp at e
      subst e
      simp [flat4, Op4.cells]
    | succ k =>
      simp at e
      have := ih e
      have e2 : flat4 (y :: r) = Op4.cells y ++ flat4 r := rfl
      have l4 : (Op4.cells y).length = 4 := rfl
      rw [e2]
      refine ⟨?_, ?_, ?_, ?_⟩
      · rw [List.getElem?_append_right (by omega), l4, show (k + 1) * 4 - 4 = k * 4 by omega]; exact this.1
      · rw [List.getElem?_append_right (by omega), l4, show (k + 1) * 4 + 1 - 4 = k * 4 + 1 by omega]; exact this.2.1
      · rw [List.getElem?_append_right (by omega), l4, show (k + 1) * 4 + 2 - 4 = k * 4 + 2 by omega]; exact this.2.2.1
      · rw [List.getElem?_append_right (by omega), l4, show (k + 1) * 4 + 3 - 4 = k * 4 + 3 by omega]; exact this.2.2.2
set_option maxRecDepth 100000 in
set_option maxHeartbeats 2000000 in
/-- The server's iterator, where something is in the history. -/
theorem done1_in (l Bs vb b cap : Nat) (h : List Op4) (hlen : h.length ≤ 1000000000000000) (J Jx : (Nat → Prop) → List Op4 → World → Prop) (hJ : Stable J) (hJx : Stable Jx) (hC : ∀ T pre W1, J T pre W1 → HistC b h W1)
    (hY : ∀ T pre x W1, J T pre W1 → pre.length < h.length → YieldAt Fence.wide 0 Try.prog l (enc4 x) W1 fun e W' =>
      (e = .returned (.bool true) ∧ J T (pre ++ [x]) W' ∧ KeepT T W1 W') ∨ (e = .returned (.bool false) ∧ Jx T (pre ++ [x]) W' ∧ KeepT T W1 W'))
    (W : World) (hBs : W.cell? ⟨Bs, 0, none⟩ = some (.pointer (some ⟨vb, 0, none⟩))) (hv : W.cell? ⟨vb, 1, none⟩ = some (.slice (some ⟨b, 0, none⟩) h.length cap)) (h0 : J (fun _ => False) [] W) :
    CallsIn Fence.wide 0 Try.prog 68 #[.func (.yield l) #[] #[], .pointer (some ⟨Bs, 0, none⟩)] W fun e W' => (∃ v, e = .returned v) ∧ ((∃ xs T, xs = h ∧ J T xs W') ∨ (∃ pre T, pre <+: h ∧ Jx T pre W')) := by
  refine callsIn_of_wp Try.func68 rfl trivial ?_ rfl
  simp only [Try.ntmps68, List.size_toArray, List.length_cons, List.length_nil, Nat.reduceAdd, Nat.reduceSub, Array.replicate_succ, Array.replicate_zero, List.push_toArray, List.append_toArray, List.nil_append, List.cons_append]
  gi_wp2
  gi_loopw [10] (fun i wr => ∃ k : Nat, k ≤ h.length ∧ i = .int .i64 k ∧ J (fun _ => False) (h.take k) wr)
    (fun i _ => h.length - (intOf i).toNat)
  case atStart => exact ⟨0, Nat.zero_le _, rfl, h0⟩
  case round =>
    obtain ⟨k, hk, rfl, hJs⟩ := hrel
    by_cases hlt : k < h.length
    · obtain ⟨x, hx⟩ : ∃ x, h[k]? = some x := ⟨_, List.getElem?_eq_getElem hlt⟩
      obtain ⟨hbl, hcs⟩ := hC _ _ _ hJs
      obtain ⟨g0, g1, g2, g3⟩ := flat4_get hx
      have c0 := hcs _ _ g0
      have c1 := hcs _ _ g1
      have c2 := hcs _ _ g2
      have c3 := hcs _ _ g3
      have hlt' : (k : Int) < (h.length : Int) := by omega
      have hp : h.take k ++ [x] = h.take (k + 1) := by rw [List.take_add_one, hx]; rfl
      have hJ2 : J (fun _ => False) (h.take k) (wr.alloc (.cells #[.int .i64 x.k, .int .i64 x.p, .int .i64 x.b, .int .i64 x.s] 26)) := hJ _ _ _ _ _ hJs (TurnT.of_below (bel_alloc (Below.refl _ _) _)) (fun k e => e.elim)
      obtain ⟨fn, tmps, assign, body, hy, hR⟩ := hY _ _ x _ hJ2 (by rw [List.length_take]; omega)
      rw [hp] at hR
      dsimp only [enc4] at hy
      clear hJs hJ2 hbl hcs g0 g1 g2 g3 hC hY
      gi_wp2
      refine ⟨rfl, hR.mono ?_⟩
      rintro e W3 (⟨rfl, hJ3, _⟩ | ⟨rfl, hJx3, _⟩)
      · gi_wp2
        go_roundw
        case rel => exact ⟨k + 1, by omega, by go_num, hJ3⟩
        case measure => simp [intOf]; omega
      · gi_wp2
        refine bodyPost_ret (results_none rfl _ _ _) rfl ?_
        exact ⟨⟨_, rfl⟩, .inr ⟨_, _, List.take_prefix _ _, hJx3⟩⟩
    · obtain rfl : k = h.length := by omega
      gi_wp2
      go_end0
      exact ⟨⟨_, rfl⟩, .inl ⟨_, _, List.take_length, hJs⟩⟩
set_option maxRecDepth 100000 in
set_option maxHeartbeats 1000000 in
/-- .. where nothing is. -/
theorem done1_nil_in (l Bs vb : Nat) (J : (Nat → Prop) → List Op4 → World → Prop) (W : World) (hBs : W.cell? ⟨Bs, 0, none⟩ = some (.pointer (some ⟨vb, 0, none⟩))) (hv : W.cell? ⟨vb, 1, none⟩ = some (.slice none 0 0)) (h0 : J (fun _ => False) [] W) :
    CallsIn Fence.wide 0 Try.prog 68 #[.func (.yield l) #[] #[], .pointer (some ⟨Bs, 0, none⟩)] W fun e W' => (∃ v, e = .returned v) ∧ J (fun _ => False) [] W' := by
  refine callsIn_of_wp Try.func68 rfl trivial ?_ rfl
  simp only [Try.ntmps68, List.size_toArray, List.length_cons, List.length_nil, Nat.reduceAdd, Nat.reduceSub, Array.replicate_succ, Array.replicate_zero, List.push_toArray, List.append_toArray, List.nil_append, List.cons_append]
  gi_wp2
  gi_loopw [10] (fun i wr => i = .int .i64 0 ∧ J (fun _ => False) [] wr) (fun _ _ => 0)
  case atStart => exact ⟨rfl, h0⟩
  case round =>
    obtain ⟨rfl, hJs⟩ := hrel
    gi_wp2
    go_end0
    exact ⟨⟨_, rfl⟩, hJs⟩
/-- What the iterator reads: nothing, or the history's block. -/
def HistW (vd : Value) (h : List Op4) (W : World) : Prop := (vd = .slice none 0 0 ∧ h = []) ∨ ∃ b cap, vd = .slice (some ⟨b, 0, none⟩) h.length cap ∧ HistC b h W
/-- The server's iterator. -/
theorem done_stops (Bs vb : Nat) (vd : Value) (h : List Op4) (hlen : h.length ≤ 1000000000000000) (w : World) (hB : Bs < w.heap.size) (hV : vb < w.heap.size) (hBs : w.cell? ⟨Bs, 0, none⟩ = some (.pointer (some ⟨vb, 0, none⟩))) (hv : w.cell? ⟨vb, 1, none⟩ = some vd) :
    SeqT Try.prog 68 #[.pointer (some ⟨Bs, 0, none⟩)] enc4 (HistW vd h) (fun xs => xs = h) (fun pre => pre <+: h) h.length w := fun l J Jx W hW hJ hJx hC hY h0 => by
  have a1 := (hW.cell (p := ⟨Bs, 0, none⟩) hB).trans hBs
  have a2 := (hW.cell (p := ⟨vb, 1, none⟩) hV).trans hv
  rcases hC _ _ _ h0 with ⟨rfl, rfl⟩ | ⟨b, cap, rfl, hc⟩
  · exact (done1_nil_in l Bs vb J W a1 a2 h0).mono fun e W' he => ⟨he.1, .inl ⟨_, _, rfl, he.2⟩⟩
  · refine done1_in l Bs vb b cap h hlen J Jx hJ hJx (fun T pre W1 h1 => ?_) hY W a1 a2 h0
    rcases hC _ _ _ h1 with ⟨e, _⟩ | ⟨b2, cap2, e, hc2⟩
    · cases e
    · cases e; exact hc2
/-- The history of a moot, as the iterator reads it. -/
theorem DevM.histW {w : World} {mb : Nat} {m : Moo} {L : DLay} {own : Nat → Option Nat} (h : DevM w mb m L own) : ∃ vd, w.cell? ⟨L.vb, 1, none⟩ = some vd ∧ HistW vd m.hist w ∧ ∀ (b n c : Nat), vd = .slice (some ⟨b, 0, none⟩) n c → own b = some (100 + m.hist.length) := by
  obtain ⟨vd, g, x1, x2, x0, x3⟩ := h.hs
  refine ⟨vd, x1, ?_, fun b n c e => ?_⟩
  · rcases x2 with ⟨h1, h2, h3⟩ | ⟨gb, off, n, cap, hg, hv, h3, h4, h5, h6, h7, h8⟩
    · have e0 : m.hist = [] := by
        have := congrArg List.length h2
        rw [flat4_len] at this
        exact List.length_eq_zero_iff.1 (by simp only [List.length_nil] at this; omega)
      exact Or.inl ⟨h1, e0⟩
    · have e0 := x0 _ _ _ _ hv
      subst e0
      have en : n = m.hist.length := by rw [flat4_len] at h3; omega
      subst en
      exact Or.inr ⟨gb, cap, hv, h6, fun j y hj => by have := h7 j y hj; rwa [Nat.zero_add] at this⟩
  · rcases x2 with ⟨h1, _, _⟩ | ⟨gb, off, n', cap, hg, hv, _⟩
    · rw [h1] at e; cases e
    · rw [hv] at e
      cases e
      exact x3 _ hg
set_option maxHeartbeats 1000000 in
theorem sdone_any (p : Option Addr) (w : World) : Calls Try.prog 42 #[.pointer p] w fun e w' => e = .returned (.func (.func 68) #[] #[.pointer (some ⟨w.heap.size, 0, none⟩)]) ∧ w' = w.alloc (.cells #[.pointer p] 77) := by
  refine callsIn_wide (n := 0).1 (callsIn_of_wp Try.func42 rfl trivial ?_ rfl)
  simp only [Try.ntmps42, List.size_toArray, List.length_cons, List.length_nil, Nat.reduceAdd, Nat.reduceSub, Array.replicate_succ, Array.replicate_zero, List.push_toArray, List.append_toArray, List.nil_append, List.cons_append]
  gi_wp2
  go_ret
  exact ⟨rfl, rfl⟩
set_option maxHeartbeats 1000000 in
theorem history_any (p : Option Addr) (w : World) : Calls Try.prog 24 #[.pointer p] w fun e w' => e = .returned (.func (.func 41) #[] #[.pointer (some ⟨w.heap.size, 0, none⟩)]) ∧ w' = w.alloc (.cells #[.pointer p] 44) := by
  refine callsIn_wide (n := 0).1 (callsIn_of_wp Try.func24 rfl trivial ?_ rfl)
  simp only [Try.ntmps24, List.size_toArray, List.length_cons, List.length_nil, Nat.reduceAdd, Nat.reduceSub, Array.replicate_succ, Array.replicate_zero, List.push_toArray, List.append_toArray, List.nil_append, List.cons_append]
  gi_wp2
  go_ret
  exact ⟨rfl, rfl⟩
end Go.Proofs.Ytabahmcbhapbiaa

namespace Go.Proofs.Ytabahmcbhapbiaa
open Go.RowKit Go.Shelf
set_option linter.unusedVariables false
attribute [local go_sem] Oper.semAt_some
/-- The place of an op that came, in a round of History's own loop. -/
def HAx (l W0 : Nat) (p : Addr) (vb : Nat) (q : Value) (Bp : Nat) (x : Op4) (a : Act) (T : Nat → Prop) (W : World) : Prop :=
  ∃ bx, a = { tmps := #[.func (.yield l) #[] #[], .pointer (some ⟨Bp, 0, none⟩), .pointer (some ⟨W0, 0, none⟩), .pointer (some ⟨bx, 0, none⟩), .pointer (some p), .bool false, .pointer (some p), .pointer (some p), .pointer (some p), .pointer (some ⟨vb, 0, none⟩), q, .agg #[.int .i64 x.k, .int .i64 x.p, .int .i64 x.b, .int .i64 x.s], undef, undef, undef, undef], defers := [] } ∧ Op4At W bx 0 x ∧ bx < W.heap.size ∧ ¬ T bx
theorem cell_turnT {T : Nat → Prop} {W W' : World} (h : TurnT T W W') {b o : Nat} (hb : b < W.heap.size) (hn : ¬ T b) : W'.cell? ⟨b, o, none⟩ = W.cell? ⟨b, o, none⟩ := World.cell?_of_block (w := W) (h.block b hb hn)
theorem op4at_turnT {T : Nat → Prop} {W W' : World} (h : TurnT T W W') {b : Nat} (hb : b < W.heap.size) (hn : ¬ T b) {u : Op4} (hu : Op4At W b 0 u) : Op4At W' b 0 u := by
  obtain ⟨x0, x1, x2, x3⟩ := hu
  exact ⟨(cell_turnT h hb hn).trans x0, (cell_turnT h hb hn).trans x1, (cell_turnT h hb hn).trans x2, (cell_turnT h hb hn).trans x3⟩
set_option maxRecDepth 100000 in
set_option maxHeartbeats 2000000 in
/-- History's iterator. -/
theorem history_stops (Bp mb vb : Nat) (vd : Value) (h : List Op4) (hlen : h.length ≤ 1000000000000000) (w : World) (hB : Bp < w.heap.size) (hM : mb < w.heap.size) (hV : vb < w.heap.size) (hBp : w.cell? ⟨Bp, 0, none⟩ = some (.pointer (some ⟨mb, 0, none⟩))) (hm : w.cell? ⟨mb, 0, none⟩ = some (.pointer (some ⟨vb, 0, none⟩))) (hv : w.cell? ⟨vb, 1, none⟩ = some vd) :
    SeqT Try.prog 41 #[.pointer (some ⟨Bp, 0, none⟩)] enc4 (HistW vd h) (fun xs => xs = h) (fun pre => pre <+: h) h.length w := fun l J Jx W hW hJ hJx hC hY h0 => by
  have a1 := (hW.cell (p := ⟨Bp, 0, none⟩) hB).trans hBp
  have a2 := (hW.cell (p := ⟨mb, 0, none⟩) hM).trans hm
  have a3 := (hW.cell (p := ⟨vb, 1, none⟩) hV).trans hv
  have hs := hW.size
  have l1 : Bp < W.heap.size := by omega
  have l2 : mb < W.heap.size := by omega
  show CallsIn Fence.wide 0 Try.prog 41 #[.func (.yield l) #[] #[], .pointer (some ⟨Bp, 0, none⟩)] W _
  refine callsIn_of_wp_marks Try.func41 rfl trivial ?_ rfl
  simp only [Try.ntmps41, List.size_toArray, List.length_cons, List.length_nil, Nat.reduceAdd, Nat.reduceSub, Array.replicate_succ, Array.replicate_zero, List.push_toArray, List.append_toArray, List.nil_append, List.cons_append]
  gi_wp2
  refine ⟨trivial, rfl, (callsIn_wide.2 (sdone_any _ _)).mono ?_⟩
  rintro e w' ⟨rfl, rfl⟩
  gi_wp2
  have e1 : (W.alloc (.cells #[.func (.yield l) #[] #[]] 72)).heap.size = W.heap.size + 1 := by simp
  obtain ⟨W2, hW2⟩ : ∃ W2, W2 = (W.alloc (.cells #[.func (.yield l) #[] #[]] 72)).alloc (.cells #[.pointer (some ⟨vb, 0, none⟩)] 77) := ⟨_, rfl⟩
  have hb2 : Below W.heap.size W W2 := by rw [hW2]; exact bel_alloc (bel_alloc (Below.refl _ _) _) _
  have hz2 : W2.heap.size = W.heap.size + 2 := by rw [hW2]; simp
  have y2 : W2.cell? ⟨W.heap.size, 0, none⟩ = some (.func (.yield l) #[] #[]) := by rw [hW2]; simp [go_sem]
  have s2 : W2.cell? ⟨W.heap.size + 1, 0, none⟩ = some (.pointer (some ⟨vb, 0, none⟩)) := by rw [hW2, ← e1]; simp [go_sem]
  have v2 : W2.cell? ⟨vb, 1, none⟩ = some vd := (hb2.cell (p := ⟨vb, 1, none⟩) (by show vb < _; omega)).trans a3
  rw [← hW2]
  refine range_T (P := Try.prog) (gf := 68) (lb := #[.pointer (some ⟨W.heap.size + 1, 0, none⟩)]) rfl (enters_of Try.func68 (by kernel_rfl) rfl) (done_stops (W.heap.size + 1) vb vd h hlen W2 (by omega) (by omega) s2 v2) (Below.refl _ _) (fun _ => rfl)
    (fun T pre W' => J (fun k => T k ∨ k = W.heap.size) pre W' ∧ W'.cell? ⟨W.heap.size, 0, none⟩ = some (.func (.yield l) #[] #[]) ∧ ¬ T W.heap.size ∧ W.heap.size < W'.heap.size)
    (fun c T pre W' => c = .ret ∧ Jx (fun k => T k ∨ k = W.heap.size) pre W')
    (fun T T' s A B hi ht hT => ?_) (fun c T T' s A B hi ht hT => ?_) (fun T pre W1 hi => hC _ _ _ hi.1) ⟨?_, y2, fun e => e, by omega⟩
    (HAx l W.heap.size ⟨mb, 0, none⟩ vb (.func (.func 68) #[] #[.pointer (some ⟨W.heap.size + 1, 0, none⟩)]) Bp) (fun x a' T A B hx ht => ?_) ?assign ?body ?done ?stop
  · obtain ⟨i1, i2, i3, i4⟩ := hi
    have hs2 := ht.size
    refine ⟨hJ _ _ _ _ _ i1 (ht.mono (fun k e => Or.inl e)) (fun k e => ?_), (cell_turnT ht i4 i3).trans i2, fun e => ?_, by omega⟩
    · rcases e with e | e
      · exact (hT k e).imp Or.inl id
      · exact Or.inl (Or.inr e)
    · rcases hT _ e with x | x
      · exact i3 x
      · omega
  · obtain ⟨i1, i2⟩ := hi
    refine ⟨i1, hJx _ _ _ _ _ i2 (ht.mono (fun k e => Or.inl e)) (fun k e => ?_)⟩
    rcases e with e | e
    · exact (hT k e).imp Or.inl id
    · exact Or.inl (Or.inr e)
  · exact hJ _ _ _ _ _ h0 (TurnT.of_below hb2) (fun k e => by
      rcases e with e | e
      · exact e.elim
      · exact Or.inr (by omega))
  · obtain ⟨bx, rfl, h1, h2, h3⟩ := hx
    exact ⟨bx, rfl, op4at_turnT ht h2 h3 h1, Nat.lt_of_lt_of_le h2 ht.size, h3⟩
  case assign =>
    intro l2 T pre x A K hi hl hT hK
    dsimp only [enc4]
    gi_wp2
    exact hK _ _ (bel_alloc (Below.refl _ _) _) ⟨A.heap.size, rfl, op4at_new A x _, by simp, fun e => by have := hT _ e; omega⟩
  case body =>
    intro l2 T pre x a' A hl hT hi hx hlt
    obtain ⟨i1, i2, i3, i4⟩ := hi
    obtain ⟨bx, rfl, h1, h2, h3⟩ := hx
    obtain ⟨x0, x1, x2, x3⟩ := h1
    obtain ⟨fn, tmps, assign, body, hy, hR⟩ := hY _ _ x _ i1 hlt
    dsimp only [enc4] at hy
    gi_wp2
    refine ⟨rfl, (show RoundIn (Fence.wide.inRound l2) 0 Try.prog l fn tmps assign body A _ from hR).mono ?_⟩
    rintro e W3 (⟨rfl, hJ3, hk3⟩ | ⟨rfl, hJx3, hk3⟩)
    · gi_wp2
      exact ⟨hk3.mono (fun k e => Or.inl e), hJ3, (World.cell?_of_block (w := A) (a := ⟨W.heap.size, 0, none⟩) (hk3.same _ (Or.inr rfl) i4)).trans i2, i3, Nat.lt_of_lt_of_le i4 hk3.size⟩
    · gi_wp2
      exact ⟨hk3.mono (fun k e => Or.inl e), rfl, hJx3⟩
  case done =>
    rintro D T xs A hD tD hT rfl ⟨i1, i2, i3, i4⟩ hK
    gi_wp2
    refine ⟨by simp, .inl ⟨_, _, rfl, run_takeDeferred hK, ?_⟩⟩
    exact ⟨_, results_none rfl _ _ _, ⟨_, rfl⟩, .inl ⟨_, _, rfl, hJ _ _ _ _ _ i1 (TurnT.put _ (Or.inl tD) _) (fun k e => Or.inl e)⟩⟩
  case stop =>
    rintro D c T pre A hD tD hT hp ⟨rfl, i2⟩ hK
    gi_wp2
    refine ⟨by simp, .inl ⟨_, _, rfl, run_takeDeferred hK, ?_⟩⟩
    exact ⟨_, results_none rfl _ _ _, ⟨_, rfl⟩, .inr ⟨_, _, hp, hJx _ _ _ _ _ i2 (TurnT.put _ (Or.inl tD) _) (fun k e => Or.inl e)⟩⟩
theorem eqIn_func_nil (d : Nat) (w : World) (f : Fn) (a b : Array Value) {ps rs : Array TypeId} {v : Bool} (h : Try.prog.underlying 57 = some (.func ps rs v)) : (Op.equalIn (d + 1) 57 (.func f a b) .nilFunc).run Try.prog w = .ok false w := by
  simp [Op.equalIn, go_sem, run_underlying h]
/-- A function is not nil. -/
theorem func_nil (f : Fn) (a b : Array Value) (w : World) : Sem.run Try.prog (binOp BinOp.eql 57 (.func f a b) .nilFunc) w = .ok (.bool false) w := by
  have h2 : (Op.equal 57 (.func f a b) .nilFunc).run Try.prog w = .ok false w := eqIn_func_nil 9999 w f a b Try.underlying57
  simp [binOp, go_sem, h2]
end Go.Proofs.Ytabahmcbhapbiaa
