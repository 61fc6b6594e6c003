import Derived.Test.YtabahmcbhapbiaaMem
import Derived.RangeFuncNested
import Derived.RangeFuncLeaves
import Derived.Test.YtabahmcbhapbiaaDevMoot
import Derived.RangeFuncBound
import Derived.RangeFuncCalls
import Derived.Shelf.Abstract
import Derived.Shelf.RegionOpen
import Derived.WalkKit
import Derived.OwnWalkIn
import Derived.TacticsInMore
import Derived.LoopNIn
import Derived.LoopIn
import Derived.Test.YtabahmcbhapbiaaJRoom
import Derived.ProofKit
import Derived.OpenShut
import Derived.SizedLaws
import Derived.Below
namespace Go.Proofs.Ytabahmcbhapbiaa
open Go.RowKit
set_option linter.unusedVariables false
/-! ### A range over a function whose body may turn all but the blocks that the iterator has laid (T) -/
section
variable {α : Type} {P : Program}
/-- What lies in the blocks of T lies as it lay. -/
structure KeepT (T : Nat → Prop) (W W' : World) : Prop where
  size : W.heap.size ≤ W'.heap.size
  same : ∀ k, T k → k < W.heap.size → W'.heap[k]? = W.heap[k]?
/-- Blocks of T alone are turned; new ones may be made. -/
structure TurnT (T : Nat → Prop) (W W' : World) : Prop where
  os : W'.os = W.os
  tape : W'.tape = W.tape
  output : W'.output = W.output
  size : W.heap.size ≤ W'.heap.size
  block : ∀ k, k < W.heap.size → ¬ T k → W'.heap[k]? = W.heap[k]?
theorem KeepT.refl (T : Nat → Prop) (W : World) : KeepT T W W := ⟨Nat.le_refl _, fun _ _ _ => rfl⟩
theorem KeepT.trans {T : Nat → Prop} {A B C : World} (h : KeepT T A B) (k : KeepT T B C) : KeepT T A C :=
  ⟨Nat.le_trans h.size k.size, fun i hi hl => (k.same i hi (Nat.lt_of_lt_of_le hl h.size)).trans (h.same i hi hl)⟩
theorem KeepT.mono {T T' : Nat → Prop} {A B : World} (h : KeepT T A B) (hT : ∀ k, T' k → T k) : KeepT T' A B := ⟨h.size, fun i hi hl => h.same i (hT i hi) hl⟩
theorem KeepT.of_below {T : Nat → Prop} {A B : World} (h : Below A.heap.size A B) : KeepT T A B := ⟨h.size, fun i _ hl => h.block i hl⟩
theorem TurnT.of_below {T : Nat → Prop} {A B : World} (h : Below A.heap.size A B) : TurnT T A B := ⟨h.os, h.tape, h.output, h.size, fun i hl _ => h.block i hl⟩
theorem TurnT.mono {T T' : Nat → Prop} {A B : World} (h : TurnT T A B) (hT : ∀ k, T k → T' k) : TurnT T' A B := ⟨h.os, h.tape, h.output, h.size, fun i hl hn => h.block i hl (fun e => hn (hT i e))⟩
theorem TurnT.put {T : Nat → Prop} (A : World) {l : Nat} (hl : T l) (o : Obj) : TurnT T A (A.putObj l o) := ⟨rfl, rfl, rfl, by simp, fun i _ hn => World.putObj_heap_other (fun e => hn (by rw [e]; exact hl))⟩
theorem KeepT.put {T : Nat → Prop} (A : World) {l : Nat} (hl : ¬ T l) (o : Obj) : KeepT T A (A.putObj l o) := ⟨by simp, fun i hi _ => World.putObj_heap_other (fun e => hl (by rw [← e]; exact hi))⟩
/-- A word that abides what is done to the blocks of T, and new blocks, which may become T's. -/
def Stable {β : Type} (J : (Nat → Prop) → β → World → Prop) : Prop := ∀ T T' s W W', J T s W → TurnT T W W' → (∀ k, T' k → T k ∨ (W.heap.size ≤ k ∧ k < W'.heap.size)) → J T' s W'
/-- An iterator's contract. -/
def SeqT (P : Program) (g : Nat) (lb : Array Value) (encs : α → Array Value) (Hc : World → Prop) (S Sp : List α → Prop) (N : Nat) (w : World) : Prop :=
  ∀ (l : Nat) (J Jx : (Nat → Prop) → List α → World → Prop) (W : World), Below w.heap.size w W → Stable J → Stable Jx → (∀ T pre W1, J T pre W1 → Hc W1) →
    (∀ T pre x W1, J T pre W1 → pre.length < N → YieldAt Fence.wide 0 P l (encs x) W1 fun e W' =>
      (e = .returned (.bool true) ∧ J T (pre ++ [x]) W' ∧ KeepT T W1 W') ∨ (e = .returned (.bool false) ∧ Jx T (pre ++ [x]) W' ∧ KeepT T W1 W')) →
    J (fun _ => False) [] W →
    CallsIn Fence.wide 0 P g (#[.func (.yield l) #[] #[]] ++ lb) W fun e W' => (∃ v, e = .returned v) ∧ ((∃ xs T, S xs ∧ J T xs W') ∨ (∃ pre T, Sp pre ∧ Jx T pre W'))
/-- How a round's body may be left. -/
def postT (I : (Nat → Prop) → List α → World → Prop) (Ix : Code → (Nat → Prop) → List α → World → Prop) (T : Nat → Prop) (xs : List α) (W : World) : Exit → Act → World → Prop
  | .normal, _, W' => KeepT T W W' ∧ I T xs W'
  | .ret, _, W' => KeepT T W W' ∧ Ix .ret T xs W'
  | .exit id, _, W' => KeepT T W W' ∧ Ix (.exit id) T xs W'
  | _, _, _ => False
set_option maxHeartbeats 1000000 in
/-- The range. -/
theorem range_T {g : Operand} {ps : Array Tmp} {assign body : Code} {Q : Exit → Act → World → Prop} {a : Act} {w : World} {gf : Nat} {lb : Array Value} (hg : a.eval g = .func (.func gf) #[] lb) (eg : ∀ args w, (callFunc gf args).run P w = .ok (.enter gf args) w)
    {encs : α → Array Value} {Hc : World → Prop} {S Sp : List α → Prop} {N : Nat} {w0 : World} (hseq : SeqT P gf lb encs Hc S Sp N w0) (hb0 : Below w0.heap.size w0 w) (hps : ∀ x, (encs x).size = ps.size)
    (I : (Nat → Prop) → List α → World → Prop) (Ix : Code → (Nat → Prop) → List α → World → Prop) (hI : Stable I) (hIx : ∀ c, Stable (Ix c)) (hHc : ∀ T pre W1, I T pre W1 → Hc W1) (h0 : I (fun _ => False) [] w)
    (Ax : α → Act → (Nat → Prop) → World → Prop) (hAx : ∀ x a' T W W', Ax x a' T W → TurnT T W W' → Ax x a' T W')
    (hassign : ∀ (l : Nat) (T : Nat → Prop) (pre : List α) (x : α) (W : World) (K : Act → World → Prop), I T pre W → T l → (∀ k, T k → k < W.heap.size) → (∀ a' W', Below W.heap.size W W' → Ax x a' T W' → K a' W') →
      assign.wpIn (Fence.wide.inRound l) 0 P (Exit.then K (fun _ _ _ => False)) { tmps := (ps.zip (encs x)).foldl (fun t (p, v) => t.setIfInBounds p v) a.tmps, defers := [] } W)
    (hbody : ∀ (l : Nat) (T : Nat → Prop) (pre : List α) (x : α) (a' : Act) (W : World), T l → (∀ k, T k → k < W.heap.size) → I T pre W → Ax x a' T W → pre.length < N → body.wpIn (Fence.wide.inRound l) 0 P (postT I Ix T (pre ++ [x]) W) a' W)
    (hdone : ∀ (D : Nat) (T : Nat → Prop) (xs : List α) (W : World), w.heap.size ≤ D → T D → (∀ k, T k → k < W.heap.size) → S xs → I T xs W → W.heap[D]? = some (.deferred (some [])) → Q .normal { a with defers := { target := .collected D, args := #[] } :: a.defers } W)
    (hstop : ∀ (D : Nat) (c : Code) (T : Nat → Prop) (pre : List α) (W : World), w.heap.size ≤ D → T D → (∀ k, T k → k < W.heap.size) → Sp pre → Ix c T pre W → W.heap[D]? = some (.deferred (some [])) → c.wpIn Fence.wide 0 P Q { a with defers := { target := .collected D, args := #[] } :: a.defers } W) :
    (Code.rangeFunc g ps assign body).wpIn Fence.wide 0 P Q a w := by
  refine wpIn_rangeFunc ?_
  intro fn hfn
  obtain ⟨rec, hrec⟩ : ∃ rec : LoopState → Option Code → Loop, rec = fun st pe => { state := st, pending := pe, fn, tmps := a.tmps, params := ps, assign, body, defers := w.heap.size } := ⟨_, rfl⟩
  obtain ⟨W1, hW1⟩ : ∃ W1, (w.alloc (.deferred (some []))).alloc (.loop (rec .ready none)) = W1 := ⟨_, rfl⟩
  have hz1 : W1.heap.size = w.heap.size + 2 := by rw [← hW1]; simp
  have hL1 : W1.heap[w.heap.size + 1]? = some (.loop (rec .ready none)) := by
    rw [← hW1]
    have := World.alloc_heap_new (w.alloc (.deferred (some []))) (.loop (rec .ready none))
    rwa [World.size_alloc] at this
  have hD1 : W1.heap[w.heap.size]? = some (.deferred (some [])) := by
    rw [← hW1]
    exact (Below.heap_alloc _ _ _ (by simp)).trans (World.alloc_heap_new w _)
  have hbw : Below w.heap.size w W1 := by
    rw [← hW1]
    exact ((Below.refl _ w).alloc (Nat.le_refl _) _).alloc (by simp) _
  have hb1 : Below w0.heap.size w0 W1 := hb0.trans (hbw.mono hb0.size)
  refine ⟨w.heap.size + 1, [{ target := .collected w.heap.size, args := #[] }], W1, { target := .fn (.func gf) lb, args := #[.func (.yield (w.heap.size + 1)) #[] #[]] }, W1, gf, #[.func (.yield (w.heap.size + 1)) #[] #[]] ++ lb, W1, ?_, ?_, fun _ _ => trivial, ?_, fun h => (by cases h), ?_⟩
  · rw [← hW1, hrec]
    exact run_enterLoop_outer _ _ _ _ _
  · simp only [resolve, hg]
    simp [go_sem]
  · simp [invoke, go_sem, eg]
  obtain ⟨X, hX⟩ : ∃ X : (Nat → Prop) → Nat → Prop, X = fun T k => T k ∨ k = w.heap.size + 1 ∨ k = w.heap.size := ⟨_, rfl⟩
  have XT : ∀ T k, T k → X T k := fun T k h => by rw [hX]; exact Or.inl h
  have XL : ∀ T, X T (w.heap.size + 1) := fun T => by rw [hX]; exact Or.inr (Or.inl rfl)
  have XD : ∀ T, X T w.heap.size := fun T => by rw [hX]; exact Or.inr (Or.inr rfl)
  have XW : ∀ (T : Nat → Prop) (W : World), (∀ k, T k → w.heap.size + 2 ≤ k ∧ k < W.heap.size) → w.heap.size + 1 < W.heap.size → ∀ k, X T k → k < W.heap.size := fun T W h1 h2 k hk => by
    rw [hX] at hk
    rcases hk with h | h | h
    · exact (h1 k h).2
    · omega
    · omega
  have st : ∀ {J : (Nat → Prop) → List α → World → Prop} (hJ : Stable J) (T T' : Nat → Prop) (s : List α) (W W' : World), J (X T) s W → TurnT T W W' → (∀ k, T' k → T k ∨ (W.heap.size ≤ k ∧ k < W'.heap.size)) → J (X T') s W' := fun {J} hJ T T' s W W' h ht hT => by
    refine hJ (X T) (X T') s W W' h (ht.mono (XT T)) (fun k hk => ?_)
    rw [hX] at hk ⊢
    rcases hk with hk | hk
    · exact (hT k hk).imp Or.inl id
    · exact Or.inl (Or.inr hk)
  have lows : ∀ {T T' : Nat → Prop} {W W' : World} {r s : Obj}, (∀ k, T k → w.heap.size + 2 ≤ k ∧ k < W.heap.size) → W.heap[w.heap.size + 1]? = some r → W.heap[w.heap.size]? = some s → TurnT T W W' → (∀ k, T' k → T k ∨ (W.heap.size ≤ k ∧ k < W'.heap.size)) →
      (∀ k, T' k → w.heap.size + 2 ≤ k ∧ k < W'.heap.size) ∧ W'.heap[w.heap.size + 1]? = some r ∧ W'.heap[w.heap.size]? = some s := fun {T T' W W' r s} hT hr hs ht hT' => by
    have l1 := (Array.getElem?_eq_some_iff.1 hr).1
    exact ⟨fun k hk => (hT' k hk).elim (fun h => by have := hT k h; have := ht.size; omega) (fun h => by omega), (ht.block _ l1 (fun h => by have := hT _ h; omega)).trans hr, (ht.block _ (by omega) (fun h => by have := hT _ h; omega)).trans hs⟩
  refine (hseq (w.heap.size + 1)
    (fun T pre W => I (X T) pre W ∧ (∀ k, T k → w.heap.size + 2 ≤ k ∧ k < W.heap.size) ∧ W.heap[w.heap.size + 1]? = some (.loop (rec .ready none)) ∧ W.heap[w.heap.size]? = some (.deferred (some [])))
    (fun T pre W => ∃ c, Ix c (X T) pre W ∧ (∀ k, T k → w.heap.size + 2 ≤ k ∧ k < W.heap.size) ∧ W.heap[w.heap.size + 1]? = some (.loop (rec .done (some c))) ∧ W.heap[w.heap.size]? = some (.deferred (some [])))
    W1 hb1 (fun T T' s W W' h ht hT => ⟨st hI T T' s W W' h.1 ht hT, lows h.2.1 h.2.2.1 h.2.2.2 ht hT⟩)
    (fun T T' s W W' h ht hT => by
      obtain ⟨c, h1, h2, h3, h4⟩ := h
      exact ⟨c, st (hIx c) T T' s W W' h1 ht hT, lows h2 h3 h4 ht hT⟩) (fun T pre W h => hHc _ _ _ h.1) ?_ ⟨?_, fun _ h => h.elim, hL1, hD1⟩).mono ?_
  · rintro T pre x W ⟨hi, hT, hl, hd⟩ hlen
    have nL : ¬ T (w.heap.size + 1) := fun h => by have := hT _ h; omega
    have hlt : w.heap.size + 1 < W.heap.size := (Array.getElem?_eq_some_iff.1 hl).1
    have hy := run_yield (P := P) (args := encs x) hl (by rw [hrec]; exact hps x)
    rw [hrec] at hy
    refine ⟨fn, _, assign, body, hy, roundIn_of_wpIn hfn (hassign _ (X T) pre x W _ hi (XL T) (XW T W hT hlt) ?_)⟩
    intro a' Wa hba hax
    have hla : Wa.heap[w.heap.size + 1]? = some (.loop (rec .ready none)) := (hba.block _ hlt).trans hl
    have hda : Wa.heap[w.heap.size]? = some (.deferred (some [])) := (hba.block _ (by omega)).trans hd
    have hia : I (X T) pre Wa := hI _ _ _ _ _ hi (TurnT.of_below hba) (fun k hk => Or.inl hk)
    have hlta : w.heap.size + 1 < Wa.heap.size := (Array.getElem?_eq_some_iff.1 hla).1
    refine ⟨_, run_beginRound hla (by rw [hrec]), ?_⟩
    obtain ⟨Wb, hWb⟩ : ∃ Wb, Wb = Wa.putObj (w.heap.size + 1) (.loop { rec .ready none with state := .busy }) := ⟨_, rfl⟩
    rw [← hWb]
    have hlb : Wb.heap[w.heap.size + 1]? = some (.loop { rec .ready none with state := .busy }) := by rw [hWb]; exact World.putObj_heap_same hlta
    have hdb : Wb.heap[w.heap.size]? = some (.deferred (some [])) := by rw [hWb]; exact (World.putObj_heap_other (by omega)).trans hda
    have htb : TurnT (X T) Wa Wb := by rw [hWb]; exact TurnT.put _ (XL T) _
    have hkb : KeepT T W Wb := (KeepT.of_below hba).trans (by rw [hWb]; exact KeepT.put _ nL _)
    have hszb : Wb.heap.size = Wa.heap.size := by rw [hWb]; simp
    refine wpIn_mono (hbody _ (X T) pre x a' Wb (XL T) (fun k hk => by have := XW T W hT hlt k hk; have := hba.size; omega) (hI _ _ _ _ _ hia htb (fun k hk => Or.inl hk)) (hAx _ _ _ _ _ hax htb) hlen) ?_
    have fin : ∀ (jump : Option Code) (W3 : World), KeepT (X T) Wb W3 →
        (Instr.endRound (w.heap.size + 1) jump).run P W3 = .ok (.bool jump.isNone) (W3.putObj (w.heap.size + 1) (.loop (rec (if jump.isNone then .ready else .done) jump))) ∧
        (W3.putObj (w.heap.size + 1) (.loop (rec (if jump.isNone then .ready else .done) jump))).heap[w.heap.size + 1]? = some (.loop (rec (if jump.isNone then .ready else .done) jump)) ∧
        (W3.putObj (w.heap.size + 1) (.loop (rec (if jump.isNone then .ready else .done) jump))).heap[w.heap.size]? = some (.deferred (some [])) ∧
        TurnT (X T) W3 (W3.putObj (w.heap.size + 1) (.loop (rec (if jump.isNone then .ready else .done) jump))) ∧ KeepT T W (W3.putObj (w.heap.size + 1) (.loop (rec (if jump.isNone then .ready else .done) jump))) := fun jump W3 hk3 => by
      have hl3 := (hk3.same _ (XL T) (by omega)).trans hlb
      have hd3 := (hk3.same _ (XD T) (by omega)).trans hdb
      have he := run_endRound (P := P) jump hl3
      rw [hrec] at he ⊢
      exact ⟨he, World.putObj_heap_same (Array.getElem?_eq_some_iff.1 hl3).1, (World.putObj_heap_other (by omega)).trans hd3, TurnT.put _ (XL T) _, (hkb.trans (hk3.mono (XT T))).trans (KeepT.put _ nL _)⟩
    rintro e a3 W3 hp
    cases e with
    | normal =>
      obtain ⟨hk3, hi3⟩ := hp
      obtain ⟨hr, hl4, hd4, ht4, hk4⟩ := fin none W3 hk3
      exact ⟨_, _, hr, .inl ⟨rfl, ⟨hI _ _ _ _ _ hi3 ht4 (fun k hk => Or.inl hk), fun k hk => ⟨(hT k hk).1, Nat.lt_of_lt_of_le (hT k hk).2 hk4.size⟩, hl4, hd4⟩, hk4⟩⟩
    | ret =>
      obtain ⟨hk3, hi3⟩ := hp
      obtain ⟨hr, hl4, hd4, ht4, hk4⟩ := fin (some .ret) W3 hk3
      exact ⟨_, _, hr, .inr ⟨rfl, ⟨.ret, hIx _ _ _ _ _ _ hi3 ht4 (fun k hk => Or.inl hk), fun k hk => ⟨(hT k hk).1, Nat.lt_of_lt_of_le (hT k hk).2 hk4.size⟩, hl4, hd4⟩, hk4⟩⟩
    | exit id =>
      obtain ⟨hk3, hi3⟩ := hp
      obtain ⟨hr, hl4, hd4, ht4, hk4⟩ := fin (some (.exit id)) W3 hk3
      exact ⟨_, _, hr, .inr ⟨rfl, ⟨.exit id, hIx _ _ _ _ _ _ hi3 ht4 (fun k hk => Or.inl hk), fun k hk => ⟨(hT k hk).1, Nat.lt_of_lt_of_le (hT k hk).2 hk4.size⟩, hl4, hd4⟩, hk4⟩⟩
    | goto t => exact hp.elim
    | panic ch => exact hp.elim
    | outgrown => exact hp.elim
  · exact hI _ _ _ _ _ h0 (TurnT.of_below hbw) (fun k hk => Or.inr (by rw [hX] at hk; rcases hk with h | h | h; exact h.elim; omega; omega))
  · rintro e W2 ⟨⟨v, rfl⟩, (⟨xs, T, hS, hi, hT, hl, hd⟩ | ⟨pre, T, hSp, c, hi, hT, hl, hd⟩)⟩
    · refine ⟨none, _, by have := run_endLoop (P := P) hl (by rw [hrec]; simp); rw [hrec] at this; exact this, hdone _ (X T) xs _ (Nat.le_refl _) (XD T) (fun k hk => by rw [World.putObj_size]; exact XW T W2 hT (Array.getElem?_eq_some_iff.1 hl).1 k hk) hS (hI _ _ _ _ _ hi (TurnT.put _ (XL T) _) (fun k hk => Or.inl hk)) ((World.putObj_heap_other (by omega)).trans hd)⟩
    · refine ⟨some c, _, by have := run_endLoop (P := P) hl (by rw [hrec]; simp); rw [hrec] at this; exact this, hstop _ c (X T) pre _ (Nat.le_refl _) (XD T) (fun k hk => by rw [World.putObj_size]; exact XW T W2 hT (Array.getElem?_eq_some_iff.1 hl).1 k hk) hSp (hIx _ _ _ _ _ _ hi (TurnT.put _ (XL T) _) (fun k hk => Or.inl hk)) ((World.putObj_heap_other (by omega)).trans hd)⟩
end
end Go.Proofs.Ytabahmcbhapbiaa
namespace Go.Proofs.Ytabahmcbhapbiaa
open Go.RowKit Go.Shelf
set_option linter.unusedVariables false
attribute [local go_sem] Oper.semAt_some
/-- An op, as yield takes it. -/
def enc4 (x : Op4) : Array Value := #[.agg #[.int .i64 x.k, .int .i64 x.p, .int .i64 x.b, .int .i64 x.s]]
/-- The history lies at b. -/
def HistC (b : Nat) (h : List Op4) (W : World) : Prop := b < W.heap.size ∧ ∀ j y, (flat4 h)[j]? = some y → W.cell? ⟨b, j, none⟩ = some y
theorem flat4_get {h : List Op4} {k : Nat} {x : Op4} (e : h[k]? = some x) : (flat4 h)[k * 4]? = some (.int .i64 x.k) ∧ (flat4 h)[k * 4 + 1]? = some (.int .i64 x.p) ∧ (flat4 h)[k * 4 + 2]? = some (.int .i64 x.b) ∧ (flat4 h)[k * 4 + 3]? = some (.int .i64 x.s) := by
  induction h generalizing k with
  | nil => simp at e
  | cons y r ih =>
    cases k with
    | zero =>
      simp at e
      subst e
      simp [flat4, Op4.cells]
    | succ k =>
      simp at e
      have := ih e
      have e2 : flat4 (y :: r) = Op4.cells y ++ flat4 r := rfl
      have l4 : (Op4.cells y).length = 4 := rfl
      rw [e2]
      refine ⟨?_, ?_, ?_, ?_⟩
      · rw [List.getElem?_append_right (by omega), l4, show (k + 1) * 4 - 4 = k * 4 by omega]; exact this.1
      · rw [List.getElem?_append_right (by omega), l4, show (k + 1) * 4 + 1 - 4 = k * 4 + 1 by omega]; exact this.2.1
      · rw [List.getElem?_append_right (by omega), l4, show (k + 1) * 4 + 2 - 4 = k * 4 + 2 by omega]; exact this.2.2.1
      · rw [List.getElem?_append_right (by omega), l4, show (k + 1) * 4 + 3 - 4 = k * 4 + 3 by omega]; exact this.2.2.2
set_option maxRecDepth 100000 in
set_option maxHeartbeats 2000000 in
/-- The server's iterator, where something is in the history. -/
theorem done1_in (l Bs vb b cap : Nat) (h : List Op4) (hlen : h.length ≤ 1000000000000000) (J Jx : (Nat → Prop) → List Op4 → World → Prop) (hJ : Stable J) (hJx : Stable Jx) (hC : ∀ T pre W1, J T pre W1 → HistC b h W1)
    (hY : ∀ T pre x W1, J T pre W1 → pre.length < h.length → YieldAt Fence.wide 0 Try.prog l (enc4 x) W1 fun e W' =>
      (e = .returned (.bool true) ∧ J T (pre ++ [x]) W' ∧ KeepT T W1 W') ∨ (e = .returned (.bool false) ∧ Jx T (pre ++ [x]) W' ∧ KeepT T W1 W'))
    (W : World) (hBs : W.cell? ⟨Bs, 0, none⟩ = some (.pointer (some ⟨vb, 0, none⟩))) (hv : W.cell? ⟨vb, 1, none⟩ = some (.slice (some ⟨b, 0, none⟩) h.length cap)) (h0 : J (fun _ => False) [] W) :
    CallsIn Fence.wide 0 Try.prog 68 #[.func (.yield l) #[] #[], .pointer (some ⟨Bs, 0, none⟩)] W fun e W' => (∃ v, e = .returned v) ∧ ((∃ xs T, xs = h ∧ J T xs W') ∨ (∃ pre T, pre <+: h ∧ Jx T pre W')) := by
  refine callsIn_of_wp Try.func68 rfl trivial ?_ rfl
  simp only [Try.ntmps68, List.size_toArray, List.length_cons, List.length_nil, Nat.reduceAdd, Nat.reduceSub, Array.replicate_succ, Array.replicate_zero, List.push_toArray, List.append_toArray, List.nil_append, List.cons_append]
  gi_wp2
  gi_loopw [10] (fun i wr => ∃ k : Nat, k ≤ h.length ∧ i = .int .i64 k ∧ J (fun _ => False) (h.take k) wr)
    (fun i _ => h.length - (intOf i).toNat)
  case atStart => exact ⟨0, Nat.zero_le _, rfl, h0⟩
  case round =>
    obtain ⟨k, hk, rfl, hJs⟩ := hrel
    by_cases hlt : k < h.length
    · obtain ⟨x, hx⟩ : ∃ x, h[k]? = some x := ⟨_, List.getElem?_eq_getElem hlt⟩
      obtain ⟨hbl, hcs⟩ := hC _ _ _ hJs
      obtain ⟨g0, g1, g2, g3⟩ := flat4_get hx
      have c0 := hcs _ _ g0
      have c1 := hcs _ _ g1
      have c2 := hcs _ _ g2
      have c3 := hcs _ _ g3
      have hlt' : (k : Int) < (h.length : Int) := by omega
      have hp : h.take k ++ [x] = h.take (k + 1) := by rw [List.take_add_one, hx]; rfl
      have hJ2 : J (fun _ => False) (h.take k) (wr.alloc (.cells #[.int .i64 x.k, .int .i64 x.p, .int .i64 x.b, .int .i64 x.s] 26)) := hJ _ _ _ _ _ hJs (TurnT.of_below (bel_alloc (Below.refl _ _) _)) (fun k e => e.elim)
      obtain ⟨fn, tmps, assign, body, hy, hR⟩ := hY _ _ x _ hJ2 (by rw [List.length_take]; omega)
      rw [hp] at hR
      dsimp only [enc4] at hy
      clear hJs hJ2 hbl hcs g0 g1 g2 g3 hC hY
      gi_wp2
      refine ⟨rfl, hR.mono ?_⟩
      rintro e W3 (⟨rfl, hJ3, _⟩ | ⟨rfl, hJx3, _⟩)
      · gi_wp2
        go_roundw
        case rel => exact ⟨k + 1, by omega, by go_num, hJ3⟩
        case measure => simp [intOf]; omega
      · gi_wp2
        refine bodyPost_ret (results_none rfl _ _ _) rfl ?_
        exact ⟨⟨_, rfl⟩, .inr ⟨_, _, List.take_prefix _ _, hJx3⟩⟩
    · obtain rfl : k = h.length := by omega
      gi_wp2
      go_end0
      exact ⟨⟨_, rfl⟩, .inl ⟨_, _, List.take_length, hJs⟩⟩
set_option maxRecDepth 100000 in
set_option maxHeartbeats 1000000 in
/-- .. where nothing is. -/
theorem done1_nil_in (l Bs vb : Nat) (J : (Nat → Prop) → List Op4 → World → Prop) (W : World) (hBs : W.cell? ⟨Bs, 0, none⟩ = some (.pointer (some ⟨vb, 0, none⟩))) (hv : W.cell? ⟨vb, 1, none⟩ = some (.slice none 0 0)) (h0 : J (fun _ => False) [] W) :
    CallsIn Fence.wide 0 Try.prog 68 #[.func (.yield l) #[] #[], .pointer (some ⟨Bs, 0, none⟩)] W fun e W' => (∃ v, e = .returned v) ∧ J (fun _ => False) [] W' := by
  refine callsIn_of_wp Try.func68 rfl trivial ?_ rfl
  simp only [Try.ntmps68, List.size_toArray, List.length_cons, List.length_nil, Nat.reduceAdd, Nat.reduceSub, Array.replicate_succ, Array.replicate_zero, List.push_toArray, List.append_toArray, List.nil_append, List.cons_append]
  gi_wp2
  gi_loopw [10] (fun i wr => i = .int .i64 0 ∧ J (fun _ => False) [] wr) (fun _ _ => 0)
  case atStart => exact ⟨rfl, h0⟩
  case round =>
    obtain ⟨rfl, hJs⟩ := hrel
    gi_wp2
    go_end0
    exact ⟨⟨_, rfl⟩, hJs⟩
/-- What the iterator reads: nothing, or the history's block. -/
def HistW (vd : Value) (h : List Op4) (W : World) : Prop := (vd = .slice none 0 0 ∧ h = []) ∨ ∃ b cap, vd = .slice (some ⟨b, 0, none⟩) h.length cap ∧ HistC b h W
/-- The server's iterator. -/
theorem done_stops (Bs vb : Nat) (vd : Value) (h : List Op4) (hlen : h.length ≤ 1000000000000000) (w : World) (hB : Bs < w.heap.size) (hV : vb < w.heap.size) (hBs : w.cell? ⟨Bs, 0, none⟩ = some (.pointer (some ⟨vb, 0, none⟩))) (hv : w.cell? ⟨vb, 1, none⟩ = some vd) :
    SeqT Try.prog 68 #[.pointer (some ⟨Bs, 0, none⟩)] enc4 (HistW vd h) (fun xs => xs = h) (fun pre => pre <+: h) h.length w := fun l J Jx W hW hJ hJx hC hY h0 => by
  have a1 := (hW.cell (p := ⟨Bs, 0, none⟩) hB).trans hBs
  have a2 := (hW.cell (p := ⟨vb, 1, none⟩) hV).trans hv
  rcases hC _ _ _ h0 with ⟨rfl, rfl⟩ | ⟨b, cap, rfl, hc⟩
  · exact (done1_nil_in l Bs vb J W a1 a2 h0).mono fun e W' he => ⟨he.1, .inl ⟨_, _, rfl, he.2⟩⟩
  · refine done1_in l Bs vb b cap h hlen J Jx hJ hJx (fun T pre W1 h1 => ?_) hY W a1 a2 h0
    rcases hC _ _ _ h1 with ⟨e, _⟩ | ⟨b2, cap2, e, hc2⟩
    · cases e
    · cases e; exact hc2
/-- The history of a moot, as the iterator reads it. -/
theorem DevM.histW {w : World} {mb : Nat} {m : Moo} {L : DLay} {own : Nat → Option Nat} (h : DevM w mb m L own) : ∃ vd, w.cell? ⟨L.vb, 1, none⟩ = some vd ∧ HistW vd m.hist w ∧ ∀ (b n c : Nat), vd = .slice (some ⟨b, 0, none⟩) n c → own b = some (100 + m.hist.length) := by
  obtain ⟨vd, g, x1, x2, x0, x3⟩ := h.hs
  refine ⟨vd, x1, ?_, fun b n c e => ?_⟩
  · rcases x2 with ⟨h1, h2, h3⟩ | ⟨gb, off, n, cap, hg, hv, h3, h4, h5, h6, h7, h8⟩
    · have e0 : m.hist = [] := by
        have := congrArg List.length h2
        rw [flat4_len] at this
        exact List.length_eq_zero_iff.1 (by simp only [List.length_nil] at this; omega)
      exact Or.inl ⟨h1, e0⟩
    · have e0 := x0 _ _ _ _ hv
      subst e0
      have en : n = m.hist.length := by rw [flat4_len] at h3; omega
      subst en
      exact Or.inr ⟨gb, cap, hv, h6, fun j y hj => by have := h7 j y hj; rwa [Nat.zero_add] at this⟩
  · rcases x2 with ⟨h1, _, _⟩ | ⟨gb, off, n', cap, hg, hv, _⟩
    · rw [h1] at e; cases e
    · rw [hv] at e
      cases e
      exact x3 _ hg
set_option maxHeartbeats 1000000 in
theorem sdone_any (p : Option Addr) (w : World) : Calls Try.prog 42 #[.pointer p] w fun e w' => e = .returned (.func (.func 68) #[] #[.pointer (some ⟨w.heap.size, 0, none⟩)]) ∧ w' = w.alloc (.cells #[.pointer p] 77) := by
  refine callsIn_wide (n := 0).1 (callsIn_of_wp Try.func42 rfl trivial ?_ rfl)
  simp only [Try.ntmps42, List.size_toArray, List.length_cons, List.length_nil, Nat.reduceAdd, Nat.reduceSub, Array.replicate_succ, Array.replicate_zero, List.push_toArray, List.append_toArray, List.nil_append, List.cons_append]
  gi_wp2
  go_ret
  exact ⟨rfl, rfl⟩
set_option maxHeartbeats 1000000 in
theorem history_any (p : Option Addr) (w : World) : Calls Try.prog 24 #[.pointer p] w fun e w' => e = .returned (.func (.func 41) #[] #[.pointer (some ⟨w.heap.size, 0, none⟩)]) ∧ w' = w.alloc (.cells #[.pointer p] 44) := by
  refine callsIn_wide (n := 0).1 (callsIn_of_wp Try.func24 rfl trivial ?_ rfl)
  simp only [Try.ntmps24, List.size_toArray, List.length_cons, List.length_nil, Nat.reduceAdd, Nat.reduceSub, Array.replicate_succ, Array.replicate_zero, List.push_toArray, List.append_toArray, List.nil_append, List.cons_append]
  gi_wp2
  go_ret
  exact ⟨rfl, rfl⟩
end Go.Proofs.Ytabahmcbhapbiaa
namespace Go.Proofs.Ytabahmcbhapbiaa
open Go.RowKit Go.Shelf
set_option linter.unusedVariables false
attribute [local go_sem] Oper.semAt_some
/-- The place of an op that came, in a round of History's own loop. -/
def HAx (l W0 : Nat) (p : Addr) (vb : Nat) (q : Value) (Bp : Nat) (x : Op4) (a : Act) (T : Nat → Prop) (W : World) : Prop :=
  ∃ bx, a = { tmps := #[.func (.yield l) #[] #[], .pointer (some ⟨Bp, 0, none⟩), .pointer (some ⟨W0, 0, none⟩), .pointer (some ⟨bx, 0, none⟩), .pointer (some p), .bool false, .pointer (some p), .pointer (some p), .pointer (some p), .pointer (some ⟨vb, 0, none⟩), q, .agg #[.int .i64 x.k, .int .i64 x.p, .int .i64 x.b, .int .i64 x.s], undef, undef, undef, undef], defers := [] } ∧ Op4At W bx 0 x ∧ bx < W.heap.size ∧ ¬ T bx
theorem cell_turnT {T : Nat → Prop} {W W' : World} (h : TurnT T W W') {b o : Nat} (hb : b < W.heap.size) (hn : ¬ T b) : W'.cell? ⟨b, o, none⟩ = W.cell? ⟨b, o, none⟩ := World.cell?_of_block (w := W) (h.block b hb hn)
theorem op4at_turnT {T : Nat → Prop} {W W' : World} (h : TurnT T W W') {b : Nat} (hb : b < W.heap.size) (hn : ¬ T b) {u : Op4} (hu : Op4At W b 0 u) : Op4At W' b 0 u := by
  obtain ⟨x0, x1, x2, x3⟩ := hu
  exact ⟨(cell_turnT h hb hn).trans x0, (cell_turnT h hb hn).trans x1, (cell_turnT h hb hn).trans x2, (cell_turnT h hb hn).trans x3⟩
set_option maxRecDepth 100000 in
set_option maxHeartbeats 2000000 in
/-- History's iterator. -/
theorem history_stops (Bp mb vb : Nat) (vd : Value) (h : List Op4) (hlen : h.length ≤ 1000000000000000) (w : World) (hB : Bp < w.heap.size) (hM : mb < w.heap.size) (hV : vb < w.heap.size) (hBp : w.cell? ⟨Bp, 0, none⟩ = some (.pointer (some ⟨mb, 0, none⟩))) (hm : w.cell? ⟨mb, 0, none⟩ = some (.pointer (some ⟨vb, 0, none⟩))) (hv : w.cell? ⟨vb, 1, none⟩ = some vd) :
    SeqT Try.prog 41 #[.pointer (some ⟨Bp, 0, none⟩)] enc4 (HistW vd h) (fun xs => xs = h) (fun pre => pre <+: h) h.length w := fun l J Jx W hW hJ hJx hC hY h0 => by
  have a1 := (hW.cell (p := ⟨Bp, 0, none⟩) hB).trans hBp
  have a2 := (hW.cell (p := ⟨mb, 0, none⟩) hM).trans hm
  have a3 := (hW.cell (p := ⟨vb, 1, none⟩) hV).trans hv
  have hs := hW.size
  have l1 : Bp < W.heap.size := by omega
  have l2 : mb < W.heap.size := by omega
  show CallsIn Fence.wide 0 Try.prog 41 #[.func (.yield l) #[] #[], .pointer (some ⟨Bp, 0, none⟩)] W _
  refine callsIn_of_wp_marks Try.func41 rfl trivial ?_ rfl
  simp only [Try.ntmps41, List.size_toArray, List.length_cons, List.length_nil, Nat.reduceAdd, Nat.reduceSub, Array.replicate_succ, Array.replicate_zero, List.push_toArray, List.append_toArray, List.nil_append, List.cons_append]
  gi_wp2
  refine ⟨trivial, rfl, (callsIn_wide.2 (sdone_any _ _)).mono ?_⟩
  rintro e w' ⟨rfl, rfl⟩
  gi_wp2
  have e1 : (W.alloc (.cells #[.func (.yield l) #[] #[]] 72)).heap.size = W.heap.size + 1 := by simp
  obtain ⟨W2, hW2⟩ : ∃ W2, W2 = (W.alloc (.cells #[.func (.yield l) #[] #[]] 72)).alloc (.cells #[.pointer (some ⟨vb, 0, none⟩)] 77) := ⟨_, rfl⟩
  have hb2 : Below W.heap.size W W2 := by rw [hW2]; exact bel_alloc (bel_alloc (Below.refl _ _) _) _
  have hz2 : W2.heap.size = W.heap.size + 2 := by rw [hW2]; simp
  have y2 : W2.cell? ⟨W.heap.size, 0, none⟩ = some (.func (.yield l) #[] #[]) := by rw [hW2]; simp [go_sem]
  have s2 : W2.cell? ⟨W.heap.size + 1, 0, none⟩ = some (.pointer (some ⟨vb, 0, none⟩)) := by rw [hW2, ← e1]; simp [go_sem]
  have v2 : W2.cell? ⟨vb, 1, none⟩ = some vd := (hb2.cell (p := ⟨vb, 1, none⟩) (by show vb < _; omega)).trans a3
  rw [← hW2]
  refine range_T (P := Try.prog) (gf := 68) (lb := #[.pointer (some ⟨W.heap.size + 1, 0, none⟩)]) rfl (enters_of Try.func68 (by kernel_rfl) rfl) (done_stops (W.heap.size + 1) vb vd h hlen W2 (by omega) (by omega) s2 v2) (Below.refl _ _) (fun _ => rfl)
    (fun T pre W' => J (fun k => T k ∨ k = W.heap.size) pre W' ∧ W'.cell? ⟨W.heap.size, 0, none⟩ = some (.func (.yield l) #[] #[]) ∧ ¬ T W.heap.size ∧ W.heap.size < W'.heap.size)
    (fun c T pre W' => c = .ret ∧ Jx (fun k => T k ∨ k = W.heap.size) pre W')
    (fun T T' s A B hi ht hT => ?_) (fun c T T' s A B hi ht hT => ?_) (fun T pre W1 hi => hC _ _ _ hi.1) ⟨?_, y2, fun e => e, by omega⟩
    (HAx l W.heap.size ⟨mb, 0, none⟩ vb (.func (.func 68) #[] #[.pointer (some ⟨W.heap.size + 1, 0, none⟩)]) Bp) (fun x a' T A B hx ht => ?_) ?assign ?body ?done ?stop
  · obtain ⟨i1, i2, i3, i4⟩ := hi
    have hs2 := ht.size
    refine ⟨hJ _ _ _ _ _ i1 (ht.mono (fun k e => Or.inl e)) (fun k e => ?_), (cell_turnT ht i4 i3).trans i2, fun e => ?_, by omega⟩
    · rcases e with e | e
      · exact (hT k e).imp Or.inl id
      · exact Or.inl (Or.inr e)
    · rcases hT _ e with x | x
      · exact i3 x
      · omega
  · obtain ⟨i1, i2⟩ := hi
    refine ⟨i1, hJx _ _ _ _ _ i2 (ht.mono (fun k e => Or.inl e)) (fun k e => ?_)⟩
    rcases e with e | e
    · exact (hT k e).imp Or.inl id
    · exact Or.inl (Or.inr e)
  · exact hJ _ _ _ _ _ h0 (TurnT.of_below hb2) (fun k e => by
      rcases e with e | e
      · exact e.elim
      · exact Or.inr (by omega))
  · obtain ⟨bx, rfl, h1, h2, h3⟩ := hx
    exact ⟨bx, rfl, op4at_turnT ht h2 h3 h1, Nat.lt_of_lt_of_le h2 ht.size, h3⟩
  case assign =>
    intro l2 T pre x A K hi hl hT hK
    dsimp only [enc4]
    gi_wp2
    exact hK _ _ (bel_alloc (Below.refl _ _) _) ⟨A.heap.size, rfl, op4at_new A x _, by simp, fun e => by have := hT _ e; omega⟩
  case body =>
    intro l2 T pre x a' A hl hT hi hx hlt
    obtain ⟨i1, i2, i3, i4⟩ := hi
    obtain ⟨bx, rfl, h1, h2, h3⟩ := hx
    obtain ⟨x0, x1, x2, x3⟩ := h1
    obtain ⟨fn, tmps, assign, body, hy, hR⟩ := hY _ _ x _ i1 hlt
    dsimp only [enc4] at hy
    gi_wp2
    refine ⟨rfl, (show RoundIn (Fence.wide.inRound l2) 0 Try.prog l fn tmps assign body A _ from hR).mono ?_⟩
    rintro e W3 (⟨rfl, hJ3, hk3⟩ | ⟨rfl, hJx3, hk3⟩)
    · gi_wp2
      exact ⟨hk3.mono (fun k e => Or.inl e), hJ3, (World.cell?_of_block (w := A) (a := ⟨W.heap.size, 0, none⟩) (hk3.same _ (Or.inr rfl) i4)).trans i2, i3, Nat.lt_of_lt_of_le i4 hk3.size⟩
    · gi_wp2
      exact ⟨hk3.mono (fun k e => Or.inl e), rfl, hJx3⟩
  case done =>
    rintro D T xs A hD tD hT rfl ⟨i1, i2, i3, i4⟩ hK
    gi_wp2
    refine ⟨by simp, .inl ⟨_, _, rfl, run_takeDeferred hK, ?_⟩⟩
    exact ⟨_, results_none rfl _ _ _, ⟨_, rfl⟩, .inl ⟨_, _, rfl, hJ _ _ _ _ _ i1 (TurnT.put _ (Or.inl tD) _) (fun k e => Or.inl e)⟩⟩
  case stop =>
    rintro D c T pre A hD tD hT hp ⟨rfl, i2⟩ hK
    gi_wp2
    refine ⟨by simp, .inl ⟨_, _, rfl, run_takeDeferred hK, ?_⟩⟩
    exact ⟨_, results_none rfl _ _ _, ⟨_, rfl⟩, .inr ⟨_, _, hp, hJx _ _ _ _ _ i2 (TurnT.put _ (Or.inl tD) _) (fun k e => Or.inl e)⟩⟩
theorem eqIn_func_nil (d : Nat) (w : World) (f : Fn) (a b : Array Value) {ps rs : Array TypeId} {v : Bool} (h : Try.prog.underlying 57 = some (.func ps rs v)) : (Op.equalIn (d + 1) 57 (.func f a b) .nilFunc).run Try.prog w = .ok false w := by
  simp [Op.equalIn, go_sem, run_underlying h]
/-- A function is not nil. -/
theorem func_nil (f : Fn) (a b : Array Value) (w : World) : Sem.run Try.prog (binOp BinOp.eql 57 (.func f a b) .nilFunc) w = .ok (.bool false) w := by
  have h2 : (Op.equal 57 (.func f a b) .nilFunc).run Try.prog w = .ok false w := eqIn_func_nil 9999 w f a b Try.underlying57
  simp [binOp, go_sem, h2]
end Go.Proofs.Ytabahmcbhapbiaa
namespace Go.Proofs.Ytabahmcbhapbiaa
open Go.RowKit Go.Lib
set_option linter.unusedVariables false
attribute [local go_sem] Oper.semAt_some
/-- A function that leaves with such marks. -/
theorem leaves_marks {fn : Func} {tmps : Array Value} {R : Ending → World → Prop} {b : Nat} : ∀ (Ds : List Nat) (W : World), MarksAt b Ds W → (∀ W', TurnT (fun k => b ≤ k) W W' → LeavesIn Fence.wide 0 Try.prog fn tmps R [] .returning W') → LeavesInM Fence.wide 0 Try.prog fn tmps R (marks Ds) .returning W
  | [], W, _, h => h W ⟨rfl, rfl, rfl, Nat.le_refl _, fun _ _ _ => rfl⟩
  | D :: Ds, W, hm, h => by
    refine ⟨by simp, .inl ⟨_, _, rfl, run_takeDeferred (hm.is D (by simp)), ?_⟩⟩
    have hD : b ≤ D := hm.ge D (by simp)
    have hnd := List.nodup_cons.1 hm.nd
    refine leaves_marks Ds _ ⟨hnd.2, fun x e => hm.ge x (by simp [e]), fun x e => ?_⟩ (fun W' hW' => h W' ?_)
    · exact (World.putObj_heap_other (fun e2 => hnd.1 (by rw [← e2]; exact e))).trans (hm.is x (by simp [e]))
    · have h1 := TurnT.put (T := fun k => b ≤ k) W hD (.deferred none)
      exact ⟨hW'.os.trans h1.os, hW'.tape.trans h1.tape, hW'.output.trans h1.output, Nat.le_trans h1.size hW'.size, fun k hk hn => (hW'.block k (Nat.lt_of_lt_of_le hk h1.size) hn).trans (h1.block k hk hn)⟩
/-- The last op of a list. -/
def lastOp (l : List Op4) : Op4 := l.getLastD ⟨0, 0, 0, 0⟩
theorem lastOp_snoc (l : List Op4) (x : Op4) : lastOp (l ++ [x]) = x := by unfold lastOp; simp
/-- Counting a history: how many there were, and the last one. -/
structure LoopI (W7 : World) (bn bl : Nat) (T : Nat → Prop) (pre : List Op4) (W : World) : Prop where
  kx : KeptX (fun k => k = bn ∨ k = bl) W7 W
  cn : W.cell? ⟨bn, 0, none⟩ = some (.int .i64 (pre.length : Int))
  fn : W.frozen? ⟨bn, 0, none⟩ = false
  lp : Op4At W bl 0 (lastOp pre)
  fl : ∀ j, W.frozen? ⟨bl, j, none⟩ = false
  tt : ∀ k, T k → W7.heap.size ≤ k
theorem LoopI.stable {W7 : World} {bn bl : Nat} (hn : bn < W7.heap.size) (hl : bl < W7.heap.size) : Stable (LoopI W7 bn bl) := fun T T' s W W' h ht hT => by
  obtain ⟨kx, cn, fn, lp, fl, tt⟩ := h
  have hs := kx.size
  have nt : ∀ k, k < W7.heap.size → ¬ T k := fun k hk e => by have := tt k e; omega
  have bk : ∀ k, k < W7.heap.size → W'.heap[k]? = W.heap[k]? := fun k hk => ht.block k (by omega) (nt k hk)
  refine ⟨⟨ht.os.trans kx.os, ht.tape.trans kx.tape, ht.output.trans kx.output, Nat.le_trans hs ht.size, fun k hk hF => (bk k hk).trans (kx.block k hk hF), fun k o e ho => (bk k (Array.getElem?_eq_some_iff.1 e).1).trans (kx.nc k o e ho)⟩, (World.cell?_of_block (w := W) (a := ⟨bn, 0, none⟩) (bk bn hn)).trans cn, (World.frozen?_of_block (w := W) (a := ⟨bn, 0, none⟩) (bk bn hn)).trans fn, op4at_turnT ht (by omega) (nt bl hl) lp, fun j => (World.frozen?_of_block (w := W) (a := ⟨bl, j, none⟩) (bk bl hl)).trans (fl j), fun k e => ?_⟩
  rcases hT k e with x | x
  · exact tt k x
  · omega
/-- One more has come. -/
theorem LoopI.step {W7 : World} {bn bl : Nat} {T : Nat → Prop} {pre : List Op4} {W : World} {x : Op4} (h : LoopI W7 bn bl T pre W) (hn : bn < W7.heap.size) (hl : bl < W7.heap.size) (hne : bn ≠ bl) :
    KeepT T W ((put4 W bl x).setCell ⟨bn, 0, none⟩ (.int .i64 ((pre.length : Int) + 1))) ∧ LoopI W7 bn bl T (pre ++ [x]) ((put4 W bl x).setCell ⟨bn, 0, none⟩ (.int .i64 ((pre.length : Int) + 1))) := by
  obtain ⟨kx, cn, fn, lp, fl, tt⟩ := h
  have hs := kx.size
  have k1 : KeptX (fun k => k = bn ∨ k = bl) W (put4 W bl x) := put4_keptX (KeptX.refl _ W) (fun _ => Or.inr rfl) x
  have k2 : KeptX (fun k => k = bn ∨ k = bl) W ((put4 W bl x).setCell ⟨bn, 0, none⟩ (.int .i64 ((pre.length : Int) + 1))) := k1.setCell (p := ⟨bn, 0, none⟩) (fun _ => Or.inl rfl) _
  have kb : KeptX (fun k => k = bl) W (put4 W bl x) := put4_keptX (F := fun k => k = bl) (KeptX.refl _ W) (fun _ => rfl) x
  have cb : (put4 W bl x).cell? ⟨bn, 0, none⟩ = some (.int .i64 (pre.length : Int)) := (kb.cell (p := ⟨bn, 0, none⟩) (by show bn < _; omega) hne).trans cn
  refine ⟨⟨k2.size, fun k hk hlt => k2.block k hlt (fun e => ?_)⟩, ⟨kx.trans k2 (fun _ _ e => e), ?_, ?_, ?_, fun j => ?_, tt⟩⟩
  · have := tt k hk
    omega
  · rw [List.length_append, List.length_singleton]
    simp [go_sem, cb]
  · rw [World.frozen?_setCell]
    exact (kb.frozen (p := ⟨bn, 0, none⟩) (by show bn < _; omega) hne).trans fn
  · rw [lastOp_snoc]
    obtain ⟨z0, z1, z2, z3⟩ := lp
    have hz : Op4At (put4 W bl x) bl 0 x := op4at_put z0 z1 z2 z3
    exact op4at_keep hz ((KeptX.refl (fun k => k = bn) _).setCell (p := ⟨bn, 0, none⟩) (fun _ => rfl) _) (by rw [put4_size]; omega) (fun e => hne e.symm)
  · rw [World.frozen?_setCell]
    unfold put4
    rw [World.frozen?_setCell, World.frozen?_setCell, World.frozen?_setCell, World.frozen?_setCell]
    exact fl j
/-- What a body must achieve that never panics. -/
def postM (fn : Func) (R : Ending → World → Prop) : Exit → Act → World → Prop
  | .normal, a, w | .ret, a, w => LeavesInM Fence.wide 0 Try.prog fn a.tmps R a.defers .returning w
  | _, _, _ => False
theorem postM_body {fn : Func} {R : Ending → World → Prop} : ∀ e a w, postM fn R e a w → bodyPostM Fence.wide 0 Try.prog fn R e a w
  | .normal, _, _, h | .ret, _, _, h => h
  | .panic _, _, _, h => h.elim
  | .outgrown, _, _, h => h.elim
  | .exit _, _, _, h => h.elim
  | .goto _, _, _, h => h.elim
/-- The list of ops in memory. -/
def OpsAt (w : World) (sa : Option Addr) (n : Nat) (f : Nat → Op4) : Prop :=
  n ≤ 4398046510990 ∧ ∀ i, i < n → (I64 (f i).k ∧ I64 (f i).p ∧ I64 (f i).b ∧ I64 (f i).s) ∧ ∃ a, sa = some a ∧ w.cell? (a.add (i * 4)) = some (.int .i64 (f i).k) ∧ w.cell? (a.add (i * 4 + 1)) = some (.int .i64 (f i).p) ∧ w.cell? (a.add (i * 4 + 2)) = some (.int .i64 (f i).b) ∧ w.cell? (a.add (i * 4 + 3)) = some (.int .i64 (f i).s)
theorem OpsAt.below {w W : World} {sa : Option Addr} {n : Nat} {f : Nat → Op4} (h : OpsAt w sa n f) (hb : Below w.heap.size w W) : OpsAt W sa n f := by
  refine ⟨h.1, fun i hi => ?_⟩
  obtain ⟨h1, a, h2, c0, c1, c2, c3⟩ := h.2 i hi
  refine ⟨h1, a, h2, ?_, ?_, ?_, ?_⟩
  all_goals (rw [hb.cell (block_lt_of_cell (by assumption))]; assumption)
/-- How Alone stands ahead of a round. -/
def AlR (w : World) (rb mb n0 n : Nat) (ft : List UInt8) (ty : Nat → Nat) (ds : List Deferred) (vs vc vi : Value) (W : World) : Prop :=
  ∃ (j : Nat) (m : Moo) (hs : List Op4) (t : List UInt8) (Ds : List Nat), j ≤ n ∧ hs.length ≤ j ∧ vi = .int .i64 (j : Int) ∧ vc = .int .i64 (hs.length : Int) ∧ vs = dstr t ∧ t.length ≤ 60 ∧ ds = marks Ds ∧ Rm w W (fun x => x = rb) rb mb ft m ty 0 ∧ Aln ft m hs t n0 ∧ MarksAt w.heap.size Ds W
theorem add_off (a : Addr) (i : Nat) {k : Nat} (hk : k ≠ 0) : a.add (i + k) = ⟨(a.add i).block, (a.add i).off + k, none⟩ := by
  rw [← Deep.add_add]
  generalize a.add i = p
  simp [Addr.add, hk]
theorem al_len {t u : List UInt8} {k p b s : Int} (h : app t ⟨k, p, b, s⟩ = some u) (ht : t.length ≤ 60) (hf : ¬ (k = 1 ∧ 60 ≤ t.length)) (hk : k = 1 ∨ k = 2) : u.length ≤ 60 := by
  have := app_grow h
  simp only [grow] at this
  rcases hk with rfl | rfl
  · simp at this; omega
  · simp at this; omega
theorem al_meas {n j : Nat} (h : j < n) : n - (RowKit.intOf (.int .i64 ((j : Int) + 1))).toNat < n - (RowKit.intOf (.int .i64 (j : Int))).toNat := by
  simp [RowKit.intOf]
  omega
set_option maxRecDepth 8000 in
set_option maxHeartbeats 4000000 in
theorem alone_any (cl : Int) (hcl : I64 cl) (u : List UInt8) (hu : u.length ≤ 200000000000000) (who : Int) (hwho : I64 who) (sa : Option Addr) (n cap : Nat) (f : Nat → Op4) (w : World) (hs : OpsAt w sa n f) :
    Calls Try.prog 11 #[.int .i64 cl, dstr u, .int .i64 who, .slice sa n cap] w fun e w' => e = .returned (.bool true) ∧ Below w.heap.size w w' := by
  have HO := hidP (opened_new cl hcl u hu w)
  have hbig : n ≤ 4398046510990 := hs.1
  have hbigi : (n : Int) ≤ 4398046510990 := by omega
  have HS := hidP hs
  clear hs hu hcl
  refine (callsIn_wide (n := 0)).1 (callsIn_of_wp_marks Try.func11 rfl trivial (wpIn_wide.2 (Code.wp_mono postM_body ?_)) rfl)
  simp only [Try.ntmps11, List.size_toArray, List.length_cons, List.length_nil, Nat.reduceAdd, Nat.reduceSub, Array.replicate_succ, Array.replicate_zero, List.push_toArray, List.append_toArray, List.nil_append, List.cons_append]
  go_wp2_with fail
  refine HO.out.mono ?_
  rintro e w1 ⟨rb, mb, ft, n0, ty0, rfl, hr0⟩
  clear HO
  have q0 := hr0.1.ra.c0
  have q1 : w1.cell? ⟨rb, 1, none⟩ = some (.int .i64 (n0 : Int)) := hr0.1.ra.c1
  have q2 := hr0.1.ra.c2
  have n1 := hr0.2.1
  have n4 := hr0.2.2.1
  have HP := hidP (fun Wx => pick_any who hwho n0 (by omega) (by omega) Wx)
  have hc0 := pickN_lt who (n := n0) (by omega)
  generalize pickN who n0 = c at *
  have HR0 := hidP hr0
  clear hr0
  go_wp2_with fail
  refine (HP.out _).mono ?_
  rintro e w2 ⟨rfl, rfl⟩
  clear HP
  go_wp2_with fail
  refine wp_loop (fun a' w' => ∃ (ds : List Deferred) (u8 u11 u12 u13 u14 u15 u16 u17 u18 u19 u20 u21 u22 u23 u24 u25 u26 u27 u43 u44 u45 u46 u47 u48 u49 u50 u51 u52 u53 u54 u55 u56 u57 u58 u59 u60 u61 u62 u63 u64 u65 u66 u67 u68 u69 u70 u71 u72 u73 u74 u75 u76 u77 u78 u79 u80 u81 u82 u83 u84 u85 u86 u87 u88 u89 u90 u91 u92 u93 u94 u95 u96 u97 u98 u99 u100 u101 u102 u103 u104 u105 u106 u107 u108 u109 u110 u111 u112 u113 u114 u115 u116 u117 u118 u119 u120 u121 u122 u123 u124 u125 u126 u127 u128 u129 u130 u131 u132 u133 u134 u135 u136 u137 u138 u139 u140 u141 u142 u143 u144 u145 u146 u147 u148 u149 u150 u151 u152 u153 u154 u155 u156 u157 : Value), AlR w rb mb n0 n ft ty0 ds u11 u12 u13 w' ∧ a' = { tmps := #[.int .i64 cl, dstr u, .int .i64 who, .slice sa n cap, undef, undef, undef, undef, u8, .pointer (some ⟨rb, 0, none⟩), .int .i64 (c : Int), u11, u12, u13, u14, u15, u16, u17, u18, u19, u20, u21, u22, u23, u24, u25, u26, u27, .int .i64 cl, dstr u, .pointer (some ⟨rb, 0, none⟩), .pointer (some ⟨rb, 0, none⟩), .bool false, .int .i64 who, .pointer (some ⟨rb, 0, none⟩), .pointer (some ⟨rb, 0, none⟩), .pointer (some ⟨rb, 1, none⟩), .int .i64 (n0 : Int), .int .i64 (c : Int), .pointer (some ⟨rb, 0, none⟩), .pointer (some ⟨rb, 0, none⟩), .pointer (some ⟨rb, 2, none⟩), dstr ft, u43, u44, u45, u46, u47, u48, u49, u50, u51, u52, u53, u54, u55, u56, u57, u58, u59, u60, u61, u62, u63, u64, u65, u66, u67, u68, u69, u70, u71, u72, u73, u74, u75, u76, u77, u78, u79, u80, u81, u82, u83, u84, u85, u86, u87, u88, u89, u90, u91, u92, u93, u94, u95, u96, u97, u98, u99, u100, u101, u102, u103, u104, u105, u106, u107, u108, u109, u110, u111, u112, u113, u114, u115, u116, u117, u118, u119, u120, u121, u122, u123, u124, u125, u126, u127, u128, u129, u130, u131, u132, u133, u134, u135, u136, u137, u138, u139, u140, u141, u142, u143, u144, u145, u146, u147, u148, u149, u150, u151, u152, u153, u154, u155, u156, u157], defers := ds }) (fun a' _ => n - (RowKit.intOf (a'.tmps.getD 13 undef)).toNat) ?_ ?_
  · (repeat apply Exists.intro)
    refine ⟨?_, rfl⟩
    exact ⟨0, _, [], ft, [], Nat.zero_le _, Nat.le_refl _, rfl, rfl, rfl, HR0.out.2.2.2, rfl, HR0.out.1, aln_new n1 n4 HR0.out.2.2.2, ⟨List.nodup_nil, fun _ e => by simp at e, fun _ e => by simp at e⟩⟩
  · intro _ wr hinv
    obtain ⟨ds, hinv⟩ := hinv
    obtain ⟨u8, hinv⟩ := hinv
    obtain ⟨u11, hinv⟩ := hinv
    obtain ⟨u12, hinv⟩ := hinv
    obtain ⟨u13, hinv⟩ := hinv
    obtain ⟨u14, hinv⟩ := hinv
    obtain ⟨u15, hinv⟩ := hinv
    obtain ⟨u16, hinv⟩ := hinv
    obtain ⟨u17, hinv⟩ := hinv
    obtain ⟨u18, hinv⟩ := hinv
    obtain ⟨u19, hinv⟩ := hinv
    obtain ⟨u20, hinv⟩ := hinv
    obtain ⟨u21, hinv⟩ := hinv
    obtain ⟨u22, hinv⟩ := hinv
    obtain ⟨u23, hinv⟩ := hinv
    obtain ⟨u24, hinv⟩ := hinv
    obtain ⟨u25, hinv⟩ := hinv
    obtain ⟨u26, hinv⟩ := hinv
    obtain ⟨u27, hinv⟩ := hinv
    obtain ⟨u43, hinv⟩ := hinv
    obtain ⟨u44, hinv⟩ := hinv
    obtain ⟨u45, hinv⟩ := hinv
    obtain ⟨u46, hinv⟩ := hinv
    obtain ⟨u47, hinv⟩ := hinv
    obtain ⟨u48, hinv⟩ := hinv
    obtain ⟨u49, hinv⟩ := hinv
    obtain ⟨u50, hinv⟩ := hinv
    obtain ⟨u51, hinv⟩ := hinv
    obtain ⟨u52, hinv⟩ := hinv
    obtain ⟨u53, hinv⟩ := hinv
    obtain ⟨u54, hinv⟩ := hinv
    obtain ⟨u55, hinv⟩ := hinv
    obtain ⟨u56, hinv⟩ := hinv
    obtain ⟨u57, hinv⟩ := hinv
    obtain ⟨u58, hinv⟩ := hinv
    obtain ⟨u59, hinv⟩ := hinv
    obtain ⟨u60, hinv⟩ := hinv
    obtain ⟨u61, hinv⟩ := hinv
    obtain ⟨u62, hinv⟩ := hinv
    obtain ⟨u63, hinv⟩ := hinv
    obtain ⟨u64, hinv⟩ := hinv
    obtain ⟨u65, hinv⟩ := hinv
    obtain ⟨u66, hinv⟩ := hinv
    obtain ⟨u67, hinv⟩ := hinv
    obtain ⟨u68, hinv⟩ := hinv
    obtain ⟨u69, hinv⟩ := hinv
    obtain ⟨u70, hinv⟩ := hinv
    obtain ⟨u71, hinv⟩ := hinv
    obtain ⟨u72, hinv⟩ := hinv
    obtain ⟨u73, hinv⟩ := hinv
    obtain ⟨u74, hinv⟩ := hinv
    obtain ⟨u75, hinv⟩ := hinv
    obtain ⟨u76, hinv⟩ := hinv
    obtain ⟨u77, hinv⟩ := hinv
    obtain ⟨u78, hinv⟩ := hinv
    obtain ⟨u79, hinv⟩ := hinv
    obtain ⟨u80, hinv⟩ := hinv
    obtain ⟨u81, hinv⟩ := hinv
    obtain ⟨u82, hinv⟩ := hinv
    obtain ⟨u83, hinv⟩ := hinv
    obtain ⟨u84, hinv⟩ := hinv
    obtain ⟨u85, hinv⟩ := hinv
    obtain ⟨u86, hinv⟩ := hinv
    obtain ⟨u87, hinv⟩ := hinv
    obtain ⟨u88, hinv⟩ := hinv
    obtain ⟨u89, hinv⟩ := hinv
    obtain ⟨u90, hinv⟩ := hinv
    obtain ⟨u91, hinv⟩ := hinv
    obtain ⟨u92, hinv⟩ := hinv
    obtain ⟨u93, hinv⟩ := hinv
    obtain ⟨u94, hinv⟩ := hinv
    obtain ⟨u95, hinv⟩ := hinv
    obtain ⟨u96, hinv⟩ := hinv
    obtain ⟨u97, hinv⟩ := hinv
    obtain ⟨u98, hinv⟩ := hinv
    obtain ⟨u99, hinv⟩ := hinv
    obtain ⟨u100, hinv⟩ := hinv
    obtain ⟨u101, hinv⟩ := hinv
    obtain ⟨u102, hinv⟩ := hinv
    obtain ⟨u103, hinv⟩ := hinv
    obtain ⟨u104, hinv⟩ := hinv
    obtain ⟨u105, hinv⟩ := hinv
    obtain ⟨u106, hinv⟩ := hinv
    obtain ⟨u107, hinv⟩ := hinv
    obtain ⟨u108, hinv⟩ := hinv
    obtain ⟨u109, hinv⟩ := hinv
    obtain ⟨u110, hinv⟩ := hinv
    obtain ⟨u111, hinv⟩ := hinv
    obtain ⟨u112, hinv⟩ := hinv
    obtain ⟨u113, hinv⟩ := hinv
    obtain ⟨u114, hinv⟩ := hinv
    obtain ⟨u115, hinv⟩ := hinv
    obtain ⟨u116, hinv⟩ := hinv
    obtain ⟨u117, hinv⟩ := hinv
    obtain ⟨u118, hinv⟩ := hinv
    obtain ⟨u119, hinv⟩ := hinv
    obtain ⟨u120, hinv⟩ := hinv
    obtain ⟨u121, hinv⟩ := hinv
    obtain ⟨u122, hinv⟩ := hinv
    obtain ⟨u123, hinv⟩ := hinv
    obtain ⟨u124, hinv⟩ := hinv
    obtain ⟨u125, hinv⟩ := hinv
    obtain ⟨u126, hinv⟩ := hinv
    obtain ⟨u127, hinv⟩ := hinv
    obtain ⟨u128, hinv⟩ := hinv
    obtain ⟨u129, hinv⟩ := hinv
    obtain ⟨u130, hinv⟩ := hinv
    obtain ⟨u131, hinv⟩ := hinv
    obtain ⟨u132, hinv⟩ := hinv
    obtain ⟨u133, hinv⟩ := hinv
    obtain ⟨u134, hinv⟩ := hinv
    obtain ⟨u135, hinv⟩ := hinv
    obtain ⟨u136, hinv⟩ := hinv
    obtain ⟨u137, hinv⟩ := hinv
    obtain ⟨u138, hinv⟩ := hinv
    obtain ⟨u139, hinv⟩ := hinv
    obtain ⟨u140, hinv⟩ := hinv
    obtain ⟨u141, hinv⟩ := hinv
    obtain ⟨u142, hinv⟩ := hinv
    obtain ⟨u143, hinv⟩ := hinv
    obtain ⟨u144, hinv⟩ := hinv
    obtain ⟨u145, hinv⟩ := hinv
    obtain ⟨u146, hinv⟩ := hinv
    obtain ⟨u147, hinv⟩ := hinv
    obtain ⟨u148, hinv⟩ := hinv
    obtain ⟨u149, hinv⟩ := hinv
    obtain ⟨u150, hinv⟩ := hinv
    obtain ⟨u151, hinv⟩ := hinv
    obtain ⟨u152, hinv⟩ := hinv
    obtain ⟨u153, hinv⟩ := hinv
    obtain ⟨u154, hinv⟩ := hinv
    obtain ⟨u155, hinv⟩ := hinv
    obtain ⟨u156, hinv⟩ := hinv
    obtain ⟨u157, hinv⟩ := hinv
    obtain ⟨hrel, ha⟩ := hinv
    subst ha
    obtain ⟨j, m, hs, t, Ds, hjn, hsj, rfl, rfl, rfl, ht60, rfl, hrm, hal, hmk⟩ := hrel
    clear HR0 q0 q1 q2
    by_cases hlt : j < n
    · have hlt' : (j : Int) < (n : Int) := by omega
      have hsc := HS.out.below hrm.bel
      obtain ⟨⟨o1, o2, o3, o4⟩, a, rfl, c0, c1, c2, c3⟩ := hsc.2 j hlt
      clear hsc
      generalize f j = r at *
      rw [add_off _ _ (by omega)] at c1 c2 c3
      have hsz := dstr_size t
      have HK := hidP (fun Wx => keepOp_any r.k r.p r.b r.s o1 o2 o3 o4 t.length (by omega) Wx)
      clear o1 o2 o3 o4
      go_wp2_with fail
      have hko := keepOp_ok r.k r.p r.b r.s t.length (by omega)
      generalize keepOp r.k r.p r.b r.s t.length = o at *
      generalize keepIs r.k t.length = ki at *
      refine (HK.out _).mono ?_
      rintro e w3 ⟨rfl, hb3⟩
      have HB3 : Hid (Below wr.heap.size wr w3) := hb3
      have HAL := hidP (And.intro hrm (And.intro hal hmk))
      clear hb3 HK c0 c1 c2 c3 hrm hal hmk
      obtain ⟨ok, op, ob, os⟩ := o
      dsimp only at hko ⊢
      cases ki with
      | false =>
        clear hko
        go_wp2_with fail
        refine ⟨?_, al_meas hlt⟩
        (repeat apply Exists.intro)
        refine ⟨?_, rfl⟩
        obtain ⟨hrm, hal, hmk⟩ := HAL.out
        have hbx : Below wr.heap.size wr (w3.alloc (.cells #[.int .i64 ok, .int .i64 op, .int .i64 ob, .int .i64 os] 26)) := bel_trans HB3.out (bel_alloc (Below.refl _ _) _)
        exact ⟨j + 1, m, hs, t, Ds, by omega, by omega, by go_num, rfl, rfl, ht60, rfl, hrm.below hbx, hal, hmk.nc (nc_below hbx)⟩
      | true =>
        replace hko := hko rfl
        by_cases hfull : ok = 1 ∧ 60 ≤ t.length
        · obtain ⟨rfl, h60⟩ := hfull
          have h60i : 60 ≤ (t.length : Int) := by omega
          clear hko
          go_wp2_with fail
          refine ⟨?_, al_meas hlt⟩
          (repeat apply Exists.intro)
          refine ⟨?_, rfl⟩
          obtain ⟨hrm, hal, hmk⟩ := HAL.out
          have hbx : Below wr.heap.size wr (w3.alloc (.cells #[.int .i64 1, .int .i64 op, .int .i64 ob, .int .i64 os] 26)) := bel_trans HB3.out (bel_alloc (Below.refl _ _) _)
          exact ⟨j + 1, m, hs, t, Ds, by omega, by omega, by go_num, rfl, rfl, ht60, rfl, hrm.below hbx, hal, hmk.nc (nc_below hbx)⟩
        · have hr4 := hko.1
          have hf4 := hko.2.1
          have hk12 : ok = 1 ∨ ok = 2 := by
            rw [rightB_iff] at hr4
            have := hko.2.2.2.2
            omega
          have hr5 : rightB ok op ob (c : Int) = true := by
            rw [rightB_iff] at hr4 ⊢
            omega
          have hmt : mayT t.length 0 ⟨ok, op, ob, (c : Int)⟩ = 0 := by
            unfold mayT
            rw [if_neg (by dsimp only; rw [hr5, hf4]; simp; omega), if_neg (by dsimp only; omega), if_neg (by omega)]
          clear hko hr4 hf4
          obtain ⟨hrm, hal, hmk⟩ := HAL.out
          have hrm3 := hrm.below HB3.out
          have HP3 := hidP hrm3
          have hq : hs.length ≤ 4398046511000 := by omega
          obtain ⟨Wo, hWo⟩ : ∃ Wo, Wo = w3.alloc (.cells #[.int .i64 ok, .int .i64 op, .int .i64 ob, .int .i64 (c : Int)] 26) := ⟨_, rfl⟩
          have hbo : Below w3.heap.size w3 Wo := by rw [hWo]; exact bel_alloc (Below.refl _ _) _
          have hzo : w3.heap.size < Wo.heap.size := by rw [hWo]; simp
          have hop : Op4At Wo w3.heap.size 0 ⟨ok, op, ob, (c : Int)⟩ := by rw [hWo]; exact op4at_new w3 ⟨ok, op, ob, (c : Int)⟩ _
          have hst : AlW w Wo rb mb w3.heap.size ft m ty0 ⟨ok, op, ob, (c : Int)⟩ Ds := ⟨hrm3.add hbo (Nat.le_refl _) hzo, hop, hmk.nc ((nc_below HB3.out).trans (nc_below hbo))⟩
          obtain ⟨m1, t1, ht1, hu1, hC1⟩ := alw_type hst hal hq hc0 rfl hmt
          obtain ⟨R1, hR1⟩ : ∃ R : World → Prop, R = fun W => AlW w W rb mb w3.heap.size ft m1 ty0 ⟨ok, op, ob, (c : Int)⟩ Ds := ⟨_, rfl⟩
          obtain ⟨R2, hR2⟩ : ∃ R : Nat → World → Prop, R = fun k W => ∃ mk, AlW w W rb mb w3.heap.size ft mk ty0 ⟨ok, op, ob, (c : Int)⟩ Ds ∧ AlnD ft mk (hs ++ [⟨ok, op, ob, (c : Int)⟩]) t1 n0 k := ⟨_, rfl⟩
          have hq1 : (hs ++ [(⟨ok, op, ob, (c : Int)⟩ : Op4)]).length ≤ 4398046511000 := by rw [List.length_append, List.length_singleton]; omega
          have HC1 : Hid (∀ Wx, Below Wo.heap.size Wo Wx → Calls Try.prog 26 #[.pointer (some ⟨mb, 0, none⟩), .int .i64 (c : Int), .agg #[.int .i64 ok, .int .i64 op, .int .i64 ob, .int .i64 (c : Int)]] Wx fun e w' => e = .returned (.int .i64 0) ∧ R1 w') := fun Wx hx => by rw [hR1]; exact hC1 Wx hx
          have HUp : Hid (∀ W, R1 W → W.cell? ⟨rb, 0, none⟩ = some (.pointer (some ⟨mb, 0, none⟩)) ∧ rb < W.heap.size ∧ ∀ Wx, Below W.heap.size W Wx → Calls Try.prog 25 #[.pointer (some ⟨mb, 0, none⟩), .int .i64 (c : Int)] Wx fun e w' => e = .returned (.int .i64 0) ∧ R2 0 w') := fun W h1 => by
            rw [hR1] at h1
            obtain ⟨m2, hd2, hC2⟩ := alw_up h1 hu1 hq hc0
            refine ⟨h1.facts.1, h1.facts.2.1, fun Wx hx => (hC2 Wx hx).mono ?_⟩
            rintro e w' ⟨rfl, hr⟩
            exact ⟨rfl, by rw [hR2]; exact ⟨m2, hr, hd2⟩⟩
          have HBl : Hid (∀ k W W', R2 k W → Below W.heap.size W W' → R2 k W') := fun k W W' h2 hb => by
            rw [hR2] at h2 ⊢
            obtain ⟨mk, a1, a2⟩ := h2
            exact ⟨mk, a1.below hb, a2⟩
          have HDn : Hid (∀ k W, k < n0 → R2 k W → ∀ Wx, Below W.heap.size W Wx → Calls Try.prog 27 #[.pointer (some ⟨mb, 0, none⟩), .int .i64 (k : Int)] Wx fun e w' => e = .returned (.int .i64 0) ∧ R2 (k + 1) w') := fun k W hk h2 Wx hx => by
            rw [hR2] at h2
            obtain ⟨mk, a1, a2⟩ := h2
            obtain ⟨m2, hd2, hC2⟩ := alw_down a1 a2 hq1 hk
            refine (hC2 Wx hx).mono ?_
            rintro e w' ⟨rfl, hr⟩
            exact ⟨rfl, by rw [hR2]; exact ⟨m2, hr, hd2⟩⟩
          have HTx : Hid (∀ k W, k < n0 → R2 (k + 1) W → Calls Try.prog 20 #[.pointer (some ⟨mb, 0, none⟩), .int .i64 (k : Int)] W fun e w' => e = .returned (.tuple #[dstr t1, .int .i64 0]) ∧ W = w') := fun k W hk h2 => by
            rw [hR2] at h2
            obtain ⟨mk, a1, a2⟩ := h2
            have := rm_text a1.rm (c := k) (by rw [a2.nn]; exact hk)
            rw [a2.text hk] at this
            exact this
          have HFc : Hid (∀ k W, R2 k W → W.cell? ⟨rb, 0, none⟩ = some (.pointer (some ⟨mb, 0, none⟩)) ∧ W.cell? ⟨rb, 1, none⟩ = some (.int .i64 (n0 : Int)) ∧ rb < W.heap.size ∧ W.cell? ⟨w3.heap.size, 0, none⟩ = some (.int .i64 ok) ∧ W.cell? ⟨w3.heap.size, 1, none⟩ = some (.int .i64 op) ∧ W.cell? ⟨w3.heap.size, 2, none⟩ = some (.int .i64 ob) ∧ W.cell? ⟨w3.heap.size, 3, none⟩ = some (.int .i64 (c : Int)) ∧ w3.heap.size < W.heap.size) := fun k W h2 => by
            rw [hR2] at h2
            obtain ⟨mk, a1, a2⟩ := h2
            obtain ⟨f0, f1, f2, f3, f4, f5⟩ := a1.facts
            have f6 := a1.rm.ra.c1
            rw [a2.nn] at f6
            exact ⟨f0, f6, f1, f2, f3, f4, f5, (a1.rm.ge w3.heap.size (Or.inr rfl)).2⟩
          have HR2 := hidP hR2
          have HRg : Hid (∀ W W7, R2 n0 W → W7 = ((W.alloc (.cells #[.int .i64 0] 3)).alloc (.cells #[.int .i64 0, .int .i64 0, .int .i64 0, .int .i64 0] 26)).alloc (.cells #[.pointer (some ⟨mb, 0, none⟩)] 44) →
              ∃ (h : List Op4) (vd : Value), h = hs ++ [⟨ok, op, ob, (c : Int)⟩] ∧ SeqT Try.prog 41 #[.pointer (some ⟨W.heap.size + 1 + 1, 0, none⟩)] enc4 (HistW vd h) (fun xs => xs = h) (fun pre => pre <+: h) h.length W7 ∧ LoopI W7 W.heap.size (W.heap.size + 1) (fun _ => False) [] W7 ∧
                (∀ T pre W1, LoopI W7 W.heap.size (W.heap.size + 1) T pre W1 → HistW vd h W1) ∧ W.heap.size + 1 < W7.heap.size ∧
                ∀ T W1 D, LoopI W7 W.heap.size (W.heap.size + 1) T h W1 → W7.heap.size ≤ D → W1.heap[D]? = some (.deferred (some [])) →
                  (W1.cell? ⟨W.heap.size, 0, none⟩ = some (.int .i64 ((hs.length : Int) + 1)) ∧ Op4At W1 (W.heap.size + 1) 0 ⟨ok, op, ob, (c : Int)⟩ ∧ Op4At W1 w3.heap.size 0 ⟨ok, op, ob, (c : Int)⟩) ∧
                  ∃ mk, Rm w W1 (fun x => x = rb) rb mb ft mk ty0 0 ∧ Aln ft mk h t1 n0 ∧ MarksAt w.heap.size (D :: Ds) W1) := fun W W7 h2 hW7 => by
            rw [hR2] at h2
            obtain ⟨mk, a1, a2⟩ := h2
            have hb7 : Below W.heap.size W W7 := by rw [hW7]; exact bel_alloc (bel_alloc (bel_alloc (Below.refl _ _) _) _) _
            have hz7 : W7.heap.size = W.heap.size + 3 := by rw [hW7]; simp
            obtain ⟨⟨L, own, d1, d2, d3⟩, ra, pr, ge, bel⟩ := a1.rm
            have d7 := d1.below hb7
            obtain ⟨vd, v1, v2, v3⟩ := d7.histW
            rw [a2.hist] at v2 v3
            have on : own W.heap.size = none := d1.fresh (Nat.le_refl _)
            have on1 : own (W.heap.size + 1) = none := d1.fresh (by omega)
            refine ⟨_, vd, rfl, ?_, ?_, ?_, by omega, ?_⟩
            · refine history_stops (W.heap.size + 1 + 1) mb L.vb vd _ (by omega) W7 (by omega) (d7.lto d7.o0) (d7.lto d7.o1) ?_ d7.m0 v1
              rw [hW7, show W.heap.size + 1 + 1 = ((W.alloc (.cells #[.int .i64 0] 3)).alloc (.cells #[.int .i64 0, .int .i64 0, .int .i64 0, .int .i64 0] 26)).heap.size by simp]
              simp [go_sem]
            · have e1 : (W.alloc (.cells #[.int .i64 0] 3)).heap.size = W.heap.size + 1 := by simp
              refine ⟨KeptX.refl _ _, ?_, ?_, ?_, fun j => ?_, fun k e => e.elim⟩
              · rw [hW7]; simp [go_sem]
              · rw [hW7]; simp [go_sem]
              · rw [hW7]
                exact op4at_keep (op4at_keep (by rw [← e1]; exact op4at_new _ ⟨0, 0, 0, 0⟩ _) (KeptX.refl (fun _ => False) _) (by simp) (fun e => e)) ((KeptX.refl (fun _ => False) _).alloc _) (by simp) (fun e => e)
              · rw [hW7, ← e1]; simp [go_sem]
            · rintro T pre W1 ⟨kx, _, _, _, _, _⟩
              rcases v2 with v2 | ⟨b, cap, e, hl, hc⟩
              · exact Or.inl v2
              · have hob := v3 b _ _ e
                refine Or.inr ⟨b, cap, e, Nat.lt_of_lt_of_le hl kx.size, fun j y hj => (kx.cell (p := ⟨b, j, none⟩) hl (fun e2 => ?_)).trans (hc j y hj)⟩
                rcases e2 with e2 | e2
                · have e3 : b = W.heap.size := e2
                  rw [e3, on] at hob; cases hob
                · have e3 : b = W.heap.size + 1 := e2
                  rw [e3, on1] at hob; cases hob
            · rintro T W1 D ⟨kx, cn, fn, lp, fl, tt⟩ hD hDD
              have lo := (ge w3.heap.size (Or.inr rfl)).2
              rw [lastOp_snoc] at lp
              rw [List.length_append, List.length_singleton] at cn
              have hsz := kx.size
              have hsz7 := hb7.size
              have r7 : Rm w W7 (fun x => (x = rb ∨ x = w3.heap.size) ∨ (x = W.heap.size ∨ x = W.heap.size + 1)) rb mb ft mk ty0 0 := by
                have r0 := a1.rm.below hb7
                refine ⟨⟨L, own, d7, fun k e => ?_, d3⟩, r0.ra, Or.inl (Or.inl rfl), fun k e => ?_, r0.bel⟩
                · rcases e with e | e | e
                  · exact d2 k e
                  · rw [e]; exact on
                  · rw [e]; exact on1
                · rcases e with e | e
                  · exact r0.ge k e
                  · have := bel.size
                    omega
              have r1 := r7.out kx (fun k e => ⟨Or.inr e, fun e2 => by have := ra.lt; omega⟩)
              refine ⟨⟨cn, lp, op4at_keep (op4at_keep a1.op (KeptX.of_below (F := fun _ => False) hb7) lo (fun e => e)) kx (by omega) (fun e => by omega)⟩, mk, r1.fewer (fun k e => Or.inl (Or.inl e)) rfl, a2.done, ?_⟩
              have ms := a1.ms
              refine (ms.nc ((nc_below hb7).trans kx.nc)).cons (by have := bel.size; omega) (fun e => ?_) hDD
              have := ms.lt e
              omega
          have HAp := hidP (fun Wx => apply_app (o := ⟨ok, op, ob, (c : Int)⟩) hr5 ht1 (by omega) Wx)
          obtain ⟨p0, lr, x0, x1, x2, x3⟩ := hst.facts
          dsimp only at x0 x1 x2 x3
          have HWo := hidP hWo
          have HL60 : Hid (t1.length ≤ 60) := al_len ht1 ht60 hfull hk12
          clear hrm hal hmk hrm3 hbo hop hst hu1 hC1 HAL hmt hr5 ht1 HB3 hWo hR1 hR2 hq1
          have p1 : w3.cell? ⟨rb, 0, none⟩ = some (.pointer (some ⟨mb, 0, none⟩)) := HP3.out.ra.c0
          have lr3 : rb < w3.heap.size := HP3.out.ra.lt
          let qq := bodyPost Try.prog Try.f11 (fun (_ : Ending) (_ : World) => True)
          by_cases hk1 : ok = 1
          · subst hk1
            have h60 : ¬ (60 ≤ (t.length : Int)) := by omega
            clear hk12 hfull
            go_wp2_with fail
            rw [← HWo.out]
            clear HWo p1 lr3 HP3 h60
            go_cut [16] (fun v W => v = .int .i64 0 ∧ R1 W)
            case first =>
              go_region_with ((go_at_call 26; refine (HC1.out _ (by repeat (first | exact Below.refl _ _ | apply Below.drew | refine bel_alloc ?_ _))).mono ?_; rintro e w4 ⟨rfl, hr4⟩; have HR4 := hidP hr4; clear hr4))
              all_goals go_wp2_with fail
              all_goals go_meet
              all_goals exact ⟨rfl, HR4.out⟩
            case rest =>
              obtain ⟨rfl, h4⟩ := hcut
              obtain ⟨p4, l4, hC2⟩ := HUp.out _ h4
              have HC2 := hidP hC2
              clear hC2 h4 HC1 HUp p0 lr x0 x1 x2 x3
              go_wp2_with fail
              refine (HC2.out _ (by repeat (first | exact Below.refl _ _ | apply Below.drew | refine bel_alloc ?_ _))).mono ?_
              rintro e w5 ⟨rfl, h5⟩
              obtain ⟨p5, _, l5, y0, y1, y2, y3, l6⟩ := HFc.out _ _ h5
              have H5 := hidP h5
              clear h5 HC2 p4 l4
              go_wp2_with fail
              refine (HAp.out _).mono ?_
              rintro e w6 ⟨rfl, hb6⟩
              have H6 := hidP (HBl.out _ _ _ H5.out hb6)
              clear hb6 H5 p5 l5 y0 y1 y2 y3 l6 HAp
              go_wp2_with fail
              go_loopw [20] (fun i wx => ∃ k : Nat, k ≤ n0 ∧ i = .int .i64 (k : Int) ∧ R2 k wx) (fun i _ => n0 - (RowKit.intOf i).toNat)
              case atStart => exact ⟨0, Nat.zero_le _, rfl, H6.out⟩
              case round =>
                obtain ⟨k, hkn, rfl, h7⟩ := hrel
                clear H6
                obtain ⟨p7, q7, l7, y0, y1, y2, y3, l8⟩ := HFc.out _ _ h7
                by_cases hk : k < n0
                · have hki : (k : Int) < (n0 : Int) := by omega
                  have HD := hidP (HDn.out k _ hk h7)
                  clear h7 y0 y1 y2 y3 l8
                  go_wp2_with fail
                  refine (HD.out _ (by repeat (first | exact Below.refl _ _ | apply Below.drew | refine bel_alloc ?_ _))).mono ?_
                  rintro e w8 ⟨rfl, h8⟩
                  obtain ⟨p8, q8, l9, -, -, -, -, -⟩ := HFc.out _ _ h8
                  have HT := hidP (HTx.out k _ hk h8)
                  have H8 := hidP h8
                  clear h8 HD p7 q7 l7
                  go_wp2_with fail
                  refine HT.out.mono ?_
                  rintro e w9 ⟨rfl, rfl⟩
                  clear HT
                  go_wp2_with fail
                  exact ⟨⟨k + 1, by omega, by go_num, H8.out⟩, by simp [RowKit.intOf]; omega⟩
                · have hke : k = n0 := by omega
                  subst hke
                  have HRng := hidP (HRg.out _ _ h7 rfl)
                  have HHis := hidP (fun Wx => history_any (some ⟨mb, 0, none⟩) Wx)
                  clear h7 HDn HTx HRg HFc
                  go_wp2_with fail
                  refine (HHis.out _).mono ?_
                  rintro e w8 ⟨rfl, rfl⟩
                  have hfn := func_nil
                  go_wp2_with fail
                  obtain ⟨hh, vd, hhe, hsq, hli, hhc, hlt7, hfin⟩ := HRng.out
                  generalize hW7 : World.alloc _ _ = W7 at *
                  generalize hA0 : (Act.mk _ _) = A0
                  refine (wpIn_wide (n := 0)).1 ?_
                  refine range_T (P := Try.prog) (gf := 41) (lb := #[.pointer (some ⟨wr.heap.size + 1 + 1, 0, none⟩)]) (by rw [← hA0]; rfl) (enters_of Try.func41 (by kernel_rfl) rfl) hsq (Below.refl _ _) (fun _ => rfl) (LoopI W7 wr.heap.size (wr.heap.size + 1)) (fun _ _ _ _ => False) (LoopI.stable (by omega) hlt7) (fun _ _ _ _ _ _ h _ _ => h) hhc hli
                    (fun x a' T W => ∃ bx, a' = { tmps := (A0.tmps.setIfInBounds 146 (.agg #[.int .i64 x.k, .int .i64 x.p, .int .i64 x.b, .int .i64 x.s])).setIfInBounds 27 (.pointer (some ⟨bx, 0, none⟩)), defers := [] } ∧ Op4At W bx 0 x ∧ bx < W.heap.size ∧ ¬ T bx ∧ W7.heap.size ≤ bx) (fun x a' T A B hx ht => ?_) ?assign ?body ?done ?stop
                  · obtain ⟨bx, e, h1, h2, h3, h4⟩ := hx
                    exact ⟨bx, e, op4at_turnT ht h2 h3 h1, Nat.lt_of_lt_of_le h2 ht.size, h3, h4⟩
                  case stop => exact fun _ _ _ _ _ _ _ _ _ h _ => h.elim
                  case assign =>
                    intro l2 T pre x A K hi hl hT hK
                    subst hA0
                    dsimp only [enc4]
                    gi_wp2
                    refine hK _ _ (bel_alloc (Below.refl _ _) _) ⟨A.heap.size, ?_, op4at_new A x _, by simp, fun e => by have := hT _ e; omega, hi.kx.size⟩
                    first | rfl | simp | trace_state
                  case body =>
                    intro l2 T pre x a' A hl hT hi hx hlt8
                    obtain ⟨bx, rfl, ⟨z0, z1, z2, z3⟩, h2, h3, h4⟩ := hx
                    subst hA0
                    have hcn := hi.cn
                    have hfn0 := hi.fn
                    have hfl := hi.fl
                    obtain ⟨v0, v1, v2, v3⟩ := hi.lp
                    have hne1 : ¬ (wr.heap.size + 1 = bx) := by omega
                    have hne2 : ¬ (wr.heap.size = bx) := by omega
                    have hpi : (pre.length : Int) + 1 ≤ 5000000000000 := by
                      have h9 := hlt8
                      rw [hhe, List.length_append, List.length_singleton] at h9
                      omega
                    have hst := hi.step (x := x) (by omega) hlt7 (by omega)
                    gi_wp2
                    exact hst
                  case done =>
                    rintro D T xs A hD tD hT rfl hi hK
                    subst hA0
                    obtain ⟨⟨f1, ⟨f2, f3, f4, f5⟩, ⟨f6, f7, f8, f9⟩⟩, mk, f10, f11, f12⟩ := hfin _ _ _ hi hD hK
                    dsimp only at f2 f3 f4 f5 f6 f7 f8 f9
                    have HFN := hidP (And.intro f10 (And.intro f11 f12))
                    clear f10 f11 f12 hfin hsq hli hhc HRng
                    go_wp2_with fail
                    refine ⟨?_, al_meas hlt⟩
                    (repeat apply Exists.intro)
                    refine ⟨?_, rfl⟩
                    exact ⟨j + 1, mk, _, t1, D :: Ds, by omega, by rw [hhe, List.length_append, List.length_singleton]; omega, by go_num, by rw [hhe, List.length_append, List.length_singleton]; rfl, rfl, HL60.out, rfl, HFN.out.1, HFN.out.2.1, HFN.out.2.2⟩
          · clear hk12 hfull
            go_wp2_with fail
            rw [← HWo.out]
            clear HWo p1 lr3 HP3
            go_cut [16] (fun v W => v = .int .i64 0 ∧ R1 W)
            case first =>
              go_region_with ((go_at_call 26; refine (HC1.out _ (by repeat (first | exact Below.refl _ _ | apply Below.drew | refine bel_alloc ?_ _))).mono ?_; rintro e w4 ⟨rfl, hr4⟩; have HR4 := hidP hr4; clear hr4))
              all_goals go_wp2_with fail
              all_goals go_meet
              all_goals exact ⟨rfl, HR4.out⟩
            case rest =>
              obtain ⟨rfl, h4⟩ := hcut
              obtain ⟨p4, l4, hC2⟩ := HUp.out _ h4
              have HC2 := hidP hC2
              clear hC2 h4 HC1 HUp p0 lr x0 x1 x2 x3
              go_wp2_with fail
              refine (HC2.out _ (by repeat (first | exact Below.refl _ _ | apply Below.drew | refine bel_alloc ?_ _))).mono ?_
              rintro e w5 ⟨rfl, h5⟩
              obtain ⟨p5, _, l5, y0, y1, y2, y3, l6⟩ := HFc.out _ _ h5
              have H5 := hidP h5
              clear h5 HC2 p4 l4
              go_wp2_with fail
              refine (HAp.out _).mono ?_
              rintro e w6 ⟨rfl, hb6⟩
              have H6 := hidP (HBl.out _ _ _ H5.out hb6)
              clear hb6 H5 p5 l5 y0 y1 y2 y3 l6 HAp
              go_wp2_with fail
              go_loopw [20] (fun i wx => ∃ k : Nat, k ≤ n0 ∧ i = .int .i64 (k : Int) ∧ R2 k wx) (fun i _ => n0 - (RowKit.intOf i).toNat)
              case atStart => exact ⟨0, Nat.zero_le _, rfl, H6.out⟩
              case round =>
                obtain ⟨k, hkn, rfl, h7⟩ := hrel
                clear H6
                obtain ⟨p7, q7, l7, y0, y1, y2, y3, l8⟩ := HFc.out _ _ h7
                by_cases hk : k < n0
                · have hki : (k : Int) < (n0 : Int) := by omega
                  have HD := hidP (HDn.out k _ hk h7)
                  clear h7 y0 y1 y2 y3 l8
                  go_wp2_with fail
                  refine (HD.out _ (by repeat (first | exact Below.refl _ _ | apply Below.drew | refine bel_alloc ?_ _))).mono ?_
                  rintro e w8 ⟨rfl, h8⟩
                  obtain ⟨p8, q8, l9, -, -, -, -, -⟩ := HFc.out _ _ h8
                  have HT := hidP (HTx.out k _ hk h8)
                  have H8 := hidP h8
                  clear h8 HD p7 q7 l7
                  go_wp2_with fail
                  refine HT.out.mono ?_
                  rintro e w9 ⟨rfl, rfl⟩
                  clear HT
                  go_wp2_with fail
                  exact ⟨⟨k + 1, by omega, by go_num, H8.out⟩, by simp [RowKit.intOf]; omega⟩
                · have hke : k = n0 := by omega
                  subst hke
                  have HRng := hidP (HRg.out _ _ h7 rfl)
                  have HHis := hidP (fun Wx => history_any (some ⟨mb, 0, none⟩) Wx)
                  clear h7 HDn HTx HRg HFc
                  go_wp2_with fail
                  refine (HHis.out _).mono ?_
                  rintro e w8 ⟨rfl, rfl⟩
                  have hfn := func_nil
                  go_wp2_with fail
                  obtain ⟨hh, vd, hhe, hsq, hli, hhc, hlt7, hfin⟩ := HRng.out
                  generalize hW7 : World.alloc _ _ = W7 at *
                  generalize hA0 : (Act.mk _ _) = A0
                  refine (wpIn_wide (n := 0)).1 ?_
                  refine range_T (P := Try.prog) (gf := 41) (lb := #[.pointer (some ⟨wr.heap.size + 1 + 1, 0, none⟩)]) (by rw [← hA0]; rfl) (enters_of Try.func41 (by kernel_rfl) rfl) hsq (Below.refl _ _) (fun _ => rfl) (LoopI W7 wr.heap.size (wr.heap.size + 1)) (fun _ _ _ _ => False) (LoopI.stable (by omega) hlt7) (fun _ _ _ _ _ _ h _ _ => h) hhc hli
                    (fun x a' T W => ∃ bx, a' = { tmps := (A0.tmps.setIfInBounds 146 (.agg #[.int .i64 x.k, .int .i64 x.p, .int .i64 x.b, .int .i64 x.s])).setIfInBounds 27 (.pointer (some ⟨bx, 0, none⟩)), defers := [] } ∧ Op4At W bx 0 x ∧ bx < W.heap.size ∧ ¬ T bx ∧ W7.heap.size ≤ bx) (fun x a' T A B hx ht => ?_) ?assign ?body ?done ?stop
                  · obtain ⟨bx, e, h1, h2, h3, h4⟩ := hx
                    exact ⟨bx, e, op4at_turnT ht h2 h3 h1, Nat.lt_of_lt_of_le h2 ht.size, h3, h4⟩
                  case stop => exact fun _ _ _ _ _ _ _ _ _ h _ => h.elim
                  case assign =>
                    intro l2 T pre x A K hi hl hT hK
                    subst hA0
                    dsimp only [enc4]
                    gi_wp2
                    refine hK _ _ (bel_alloc (Below.refl _ _) _) ⟨A.heap.size, ?_, op4at_new A x _, by simp, fun e => by have := hT _ e; omega, hi.kx.size⟩
                    first | rfl | simp | trace_state
                  case body =>
                    intro l2 T pre x a' A hl hT hi hx hlt8
                    obtain ⟨bx, rfl, ⟨z0, z1, z2, z3⟩, h2, h3, h4⟩ := hx
                    subst hA0
                    have hcn := hi.cn
                    have hfn0 := hi.fn
                    have hfl := hi.fl
                    obtain ⟨v0, v1, v2, v3⟩ := hi.lp
                    have hne1 : ¬ (wr.heap.size + 1 = bx) := by omega
                    have hne2 : ¬ (wr.heap.size = bx) := by omega
                    have hpi : (pre.length : Int) + 1 ≤ 5000000000000 := by
                      have h9 := hlt8
                      rw [hhe, List.length_append, List.length_singleton] at h9
                      omega
                    have hst := hi.step (x := x) (by omega) hlt7 (by omega)
                    gi_wp2
                    exact hst
                  case done =>
                    rintro D T xs A hD tD hT rfl hi hK
                    subst hA0
                    obtain ⟨⟨f1, ⟨f2, f3, f4, f5⟩, ⟨f6, f7, f8, f9⟩⟩, mk, f10, f11, f12⟩ := hfin _ _ _ hi hD hK
                    dsimp only at f2 f3 f4 f5 f6 f7 f8 f9
                    have HFN := hidP (And.intro f10 (And.intro f11 f12))
                    clear f10 f11 f12 hfin hsq hli hhc HRng
                    go_wp2_with fail
                    refine ⟨?_, al_meas hlt⟩
                    (repeat apply Exists.intro)
                    refine ⟨?_, rfl⟩
                    exact ⟨j + 1, mk, _, t1, D :: Ds, by omega, by rw [hhe, List.length_append, List.length_singleton]; omega, by go_num, by rw [hhe, List.length_append, List.length_singleton]; rfl, rfl, HL60.out, rfl, HFN.out.1, HFN.out.2.1, HFN.out.2.2⟩
    · have hje : j = n := by omega
      subst hje
      have HE := hidP (And.intro hrm.bel hmk)
      clear hrm hal hmk
      go_wp2
      show LeavesInM Fence.wide 0 Try.prog _ _ _ (marks Ds) .returning wr
      refine leaves_marks Ds _ HE.out.2 (fun W' hW' => ?_)
      refine ⟨_, results_tmp rfl _ _ _, rfl, ?_⟩
      have hb := HE.out.1
      exact ⟨hW'.os.trans hb.os, hW'.tape.trans hb.tape, hW'.output.trans hb.output, Nat.le_trans hb.size hW'.size, fun k hk => (hW'.block k (Nat.lt_of_lt_of_le hk hb.size) (fun e => by omega)).trans (hb.block k hk)⟩
end Go.Proofs.Ytabahmcbhapbiaa
namespace Go.Proofs.Ytabahmcbhapbiaa
open Go.ChangeShapes Go.WideShapes Go.ChangeAt Go.RowKit
set_option linter.unusedVariables false
theorem kbOp4 : Try.prog.bytesOf 26 = 32 := by kernel_rfl
section
variable {H : Type} {enc : TypeId × Value → H} {w : World} {base : Nat} {spare : Nat → Bool} {held : Bool}
/-- What a list of ops is that can be read. -/
theorem kopen_ops {fuel : Nat} {sa : Option Addr} {n c : Nat} {d : DataW H} {ps : List MemPlace} (h : DataW.trod enc Try.prog w base spare held fuel 49 [.slice sa n c] = some (d, ps))
    (hw : ∀ m ∈ d.weights Try.prog 49, m ≤ reachBytes) : ∃ f, OpsAt w sa n f := by
  have hrb := kreach
  rcases Deep.open_slice Try.underlying49 h with ⟨hcs, hx⟩ | ⟨a, len, cap, m, nn, D, Pl, hcs, _, hlc, _, hm, hx, hel⟩
  · simp at hcs
    obtain ⟨rfl, rfl, rfl⟩ := hcs
    exact ⟨fun _ => ⟨0, 0, 0, 0⟩, by omega, fun i hi => by omega⟩
  · simp at hcs
    obtain ⟨rfl, rfl, rfl⟩ := hcs
    have hd := congrArg Prod.fst hx
    simp only at hd
    rw [hd] at hw
    clear hx hd h
    have hnm : n ≤ m := by rw [hm]; split <;> omega
    have hbig : (n + (m - n)) * 32 ≤ reachBytes := by
      refine hw _ ?_
      simp only [DataW.weights, Try.underlying49, kbOp4, List.length_map, List.length_range]
      exact List.mem_cons_self
    have hI : Inhabited Op4 := ⟨⟨0, 0, 0, 0⟩⟩
    obtain ⟨f, hf⟩ := Deep.choose_lt (α := Op4) (n := n) (p := fun i r => (∀ k, k < 4 → w.cell? (a.add (i * 4 + k)) = [Value.int .i64 r.k, .int .i64 r.p, .int .i64 r.b, .int .i64 r.s][k]?) ∧ (I64 r.k ∧ I64 r.p ∧ I64 r.b ∧ I64 r.s)) (fun i hi => by
      obtain ⟨cs', h1, h2⟩ := hel i (by omega)
      obtain ⟨xk, xp, xb, xs, hr, i1, i2, i3, i4⟩ := kopen_op4 h2
      rw [kcOp4] at h1
      obtain ⟨_, _, hcell⟩ := World.cells?_some h1
      refine ⟨⟨xk, xp, xb, xs⟩, fun k hk => ?_, i1, i2, i3, i4⟩
      have := hcell k hk
      rw [Deep.add_add] at this
      rw [this, hr])
    exact ⟨f, by omega, fun i hi => ⟨(hf i hi).2, a, rfl, (hf i hi).1 0 (by omega), (hf i hi).1 1 (by omega), (hf i hi).1 2 (by omega), (hf i hi).1 3 (by omega)⟩⟩
end
set_option maxRecDepth 100000 in
theorem alone_lifted (os : Os) (started : os.Started) (H : Type) (enc : TypeId × Value → H) :
    ReturnsInHanded {} Try.checked os 11 .any (Rows.aloneSpec.pre6 enc Try.prog Try.f11 Rows.aloneRow.domain false) (Rows.aloneSpec.post enc Try.prog Try.f11 false true false false) := by
  refine returnsInHanded_of_change_sized (C := Try.checked) kown started (by kernel_rfl) Try.func11
    (ChangeSpec.witness6 (enc := enc) (C := Try.checked) false ⟨#[], #[.int .i64 0, .string ⟨#[]⟩, .int .i64 0, .slice none 0 0], []⟩ 8 (by kernel_rfl) (by kernel_rfl) (by kernel_rfl) (by kernel_rfl)) ?_
  intro W base args ds gs before hval0 hW hcnd hsz0 _
  have hval : ∀ (j : Nat) t v, Try.f11.params[j]? = some t → args[j]? = some v → Value.okWide Try.prog W .any base t v := hval0
  have hW' := hW
  obtain ⟨p, q, hA0, hV, rfl, hfz, hnd⟩ := hW
  have hA : DataW.TrodAll enc Try.prog W 0 (fun _ => true) true Try.f11.params.toList args.toList ds p := hA0
  have hsz : (DataW.weightsEach Try.prog (Try.f11.params.toList ++ Rows.aloneSpec.plain.varTypes Try.prog) (ds ++ gs)).all (· ≤ reachBytes) = true := hsz0
  rw [Try.params11] at hA hval hsz
  obtain ⟨v0, vs0, d0, ds0, p0, q0, hargs, rfl, rfl, h0, r0⟩ := trodAll_cons hA
  obtain ⟨v1, vs1, d1, ds1, p1, q1, e1, rfl, rfl, h1, r1⟩ := trodAll_cons r0
  obtain ⟨v2, vs2, d2, ds2, p2, q2, e2, rfl, rfl, h2, r2⟩ := trodAll_cons r1
  obtain ⟨v3, vs3, d3, ds3, p3, q3, e3, rfl, rfl, h3, r3⟩ := trodAll_cons r2
  obtain ⟨rfl, rfl, rfl⟩ := trodAll_nil r3
  subst e3
  subst e2
  subst e1
  obtain rfl : args = #[v0, v1, v2, v3] := by cases args; simp_all
  obtain ⟨rfl, rfl⟩ := trodVars_none hV
  have k0 := h0
  have k1 := h1
  have k2 := h2
  have k3 := h3
  have lt0 : ∀ x ∈ p0, x.block < W.heap.size := by obtain ⟨m, hm⟩ := k0; exact DataW.trod_lt m _ _ _ hm
  have lt1 : ∀ x ∈ p1, x.block < W.heap.size := by obtain ⟨m, hm⟩ := k1; exact DataW.trod_lt m _ _ _ hm
  have lt2 : ∀ x ∈ p2, x.block < W.heap.size := by obtain ⟨m, hm⟩ := k2; exact DataW.trod_lt m _ _ _ hm
  have lt3 : ∀ x ∈ p3, x.block < W.heap.size := by obtain ⟨m, hm⟩ := k3; exact DataW.trod_lt m _ _ _ hm
  obtain ⟨n0, rfl⟩ := okWide_int Try.underlying3 (hval 0 3 v0 rfl rfl)
  obtain ⟨s, rfl⟩ := okWide_string Try.underlying9 (hval 1 9 v1 rfl rfl)
  obtain ⟨n2, rfl⟩ := okWide_int Try.underlying3 (hval 2 3 v2 rfl rfl)
  obtain ⟨sa, n, c, rfl⟩ := okWide_slice Try.underlying49 (hval 3 49 v3 rfl rfl)
  have hn0 : I64 n0 := by
    obtain ⟨fuel, hf⟩ := h0
    obtain ⟨n, hn, _, hw⟩ := DataW.trod_int Try.underlying3 (by simpa [Value.cells] using hf)
    simp at hn
    subst hn
    exact i64_wf hw
  have hn2 : I64 n2 := by
    obtain ⟨fuel, hf⟩ := h2
    obtain ⟨n, hn, _, hw⟩ := DataW.trod_int Try.underlying3 (by simpa [Value.cells] using hf)
    simp at hn
    subst hn
    exact i64_wf hw
  have hwt : ∀ m ∈ d1.weights Try.prog 9, m ≤ reachBytes := fun m hm => by
    have := List.all_eq_true.1 hsz _ (DataW.weights_mem_each (j := 1) (t := 9) (d := d1) rfl rfl m hm)
    simpa using this
  have hwt2 : ∀ m ∈ d3.weights Try.prog 49, m ≤ reachBytes := fun m hm => by
    have := List.all_eq_true.1 hsz _ (DataW.weights_mem_each (j := 3) (t := 49) (d := d3) rfl rfl m hm)
    simpa using this
  have hlen : s.data.toList.length ≤ 200000000000000 := by
    obtain ⟨fuel, hf⟩ := h1
    obtain ⟨t, ht, hd, _⟩ := DataW.trod_string Try.underlying9 (by simpa [Value.cells] using hf)
    have e : d1 = .lit (.string t.data.toList) := congrArg Prod.fst hd
    have hle := hwt t.data.toList.length (by rw [e]; simp [DataW.weights])
    simp at ht
    subst ht
    rw [kreach] at hle
    omega
  obtain ⟨f, hf⟩ : ∃ f, OpsAt W sa n f := by
    obtain ⟨fuel, hf⟩ := h3
    exact kopen_ops (by simpa [Value.cells] using hf) hwt2
  clear hA0 hval0 hsz0
  have hsq := alone_any n0 hn0 s.data.toList hlen n2 hn2 sa n c f W hf
  rw [← str_list] at hsq
  refine hsq.mono fun e W' ⟨he, bel⟩ => ?_
  subst he
  exact ⟨_, rfl, _, _, _, [], _, [], hW', trodAll_mk1 (shut_bool Try.underlying4 _), (trodAll_cons_mk (Below.trod klaid (by kernel_rfl) (of_decide_eq_true (by kernel_rfl)) k0 bel lt0) (trodAll_cons_mk (Below.trod klaid (by kernel_rfl) (of_decide_eq_true (by kernel_rfl)) k1 bel lt1) (trodAll_cons_mk (Below.trod klaid (by kernel_rfl) (of_decide_eq_true (by kernel_rfl)) k2 bel lt2) (trodAll_cons_mk (Below.trod klaid (by kernel_rfl) (of_decide_eq_true (by kernel_rfl)) k3 bel lt3) trodAll_mk0)))), rfl, bel.frame _, fun h => by cases h⟩
theorem alone_holds : Rows.AloneSaid :=
  OpenClaim.holds_of_wide 11 Try.f11 rfl rfl rfl rfl rfl rfl rfl ⟨rfl, rfl, rfl, rfl, rfl⟩ rfl rfl rfl rfl rfl (by kernel_rfl) Try.func11 (by kernel_rfl)
    (of_decide_eq_true (by kernel_rfl)) (by unfold Func.isWrapper; first | (rw [if_pos (by decide +kernel)]; kernel_rfl) | (rw [if_neg (by decide +kernel)]; exact ⟨rfl, rfl⟩))
    (fun os started H enc _ => alone_lifted os started H enc)
end Go.Proofs.Ytabahmcbhapbiaa
