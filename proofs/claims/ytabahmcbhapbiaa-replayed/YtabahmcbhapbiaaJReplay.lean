import Derived.Test.YtabahmcbhapbiaaMem
import Derived.RangeFuncNested
import Derived.RangeFuncLeaves
import Derived.Test.YtabahmcbhapbiaaDevMoot
import Derived.RangeFuncBound
import Derived.RangeFuncCalls
import Derived.Shelf.Abstract
import Derived.Shelf.RegionOpen
import Derived.WalkKit
import Derived.OwnWalkIn
import Derived.TacticsInMore
import Derived.LoopNIn
import Derived.LoopIn
import Derived.Test.YtabahmcbhapbiaaJRoom
import Derived.ProofKit
import Derived.OpenShut
import Derived.SizedLaws
import Derived.Below
namespace Go.Proofs.Ytabahmcbhapbiaa
open Go.RowKit
set_option linter.unusedVariables false
/-! ### A range over a function whose body may turn all but the blocks that the iterator has laid (T) -/
section
variable {α : Type} {P : Program}
/-- What lies in the blocks of T lies as it lay. -/
structure KeepT (T : Nat → Prop) (W W' : World) : Prop where
  size : W.heap.size ≤ W'.heap.size
  same : ∀ k, T k → k < W.heap.size → W'.heap[k]? = W.heap[k]?
/-- Blocks of T alone are turned; new ones may be made. -/
structure TurnT (T : Nat → Prop) (W W' : World) : Prop where
  os : W'.os = W.os
  tape : W'.tape = W.tape
  output : W'.output = W.output
  size : W.heap.size ≤ W'.heap.size
  block : ∀ k, k < W.heap.size → ¬ T k → W'.heap[k]? = W.heap[k]?
theorem KeepT.refl (T : Nat → Prop) (W : World) : KeepT T W W := ⟨Nat.le_refl _, fun _ _ _ => rfl⟩
theorem KeepT.trans {T : Nat → Prop} {A B C : World} (h : KeepT T A B) (k : KeepT T B C) : KeepT T A C :=
  ⟨Nat.le_trans h.size k.size, fun i hi hl => (k.same i hi (Nat.lt_of_lt_of_le hl h.size)).trans (h.same i hi hl)⟩
theorem KeepT.mono {T T' : Nat → Prop} {A B : World} (h : KeepT T A B) (hT : ∀ k, T' k → T k) : KeepT T' A B := ⟨h.size, fun i hi hl => h.same i (hT i hi) hl⟩
theorem KeepT.of_below {T : Nat → Prop} {A B : World} (h : Below A.heap.size A B) : KeepT T A B := ⟨h.size, fun i _ hl => h.block i hl⟩
theorem TurnT.of_below {T : Nat → Prop} {A B : World} (h : Below A.heap.size A B) : TurnT T A B := ⟨h.os, h.tape, h.output, h.size, fun i hl _ => h.block i hl⟩
theorem TurnT.mono {T T' : Nat → Prop} {A B : World} (h : TurnT T A B) (hT : ∀ k, T k → T' k) : TurnT T' A B := ⟨h.os, h.tape, h.output, h.size, fun i hl hn => h.block i hl (fun e => hn (hT i e))⟩
theorem TurnT.put {T : Nat → Prop} (A : World) {l : Nat} (hl : T l) (o : Obj) : TurnT T A (A.putObj l o) := ⟨rfl, rfl, rfl, by simp, fun i _ hn => World.putObj_heap_other (fun e => hn (by rw [e]; exact hl))⟩
theorem KeepT.put {T : Nat → Prop} (A : World) {l : Nat} (hl : ¬ T l) (o : Obj) : KeepT T A (A.putObj l o) := ⟨by simp, fun i hi _ => World.putObj_heap_other (fun e => hl (by rw [← e]; exact hi))⟩
/-- A word that abides what is done to the blocks of T, and new blocks, which may become T's. -/
def Stable {β : Type} (J : (Nat → Prop) → β → World → Prop) : Prop := ∀ T T' s W W', J T s W → TurnT T W W' → (∀ k, T' k → T k ∨ (W.heap.size ≤ k ∧ k < W'.heap.size)) → J T' s W'
/-- An iterator's contract. -/
def SeqT (P : Program) (g : Nat) (lb : Array Value) (encs : α → Array Value) (Hc : World → Prop) (S Sp : List α → Prop) (N : Nat) (w : World) : Prop :=
  ∀ (l : Nat) (J Jx : (Nat → Prop) → List α → World → Prop) (W : World), Below w.heap.size w W → Stable J → Stable Jx → (∀ T pre W1, J T pre W1 → Hc W1) →
    (∀ T pre x W1, J T pre W1 → pre.length < N → YieldAt Fence.wide 0 P l (encs x) W1 fun e W' =>
      (e = .returned (.bool true) ∧ J T (pre ++ [x]) W' ∧ KeepT T W1 W') ∨ (e = .returned (.bool false) ∧ Jx T (pre ++ [x]) W' ∧ KeepT T W1 W')) →
    J (fun _ => False) [] W →
    CallsIn Fence.wide 0 P g (#[.func (.yield l) #[] #[]] ++ lb) W fun e W' => (∃ v, e = .returned v) ∧ ((∃ xs T, S xs ∧ J T xs W') ∨ (∃ pre T, Sp pre ∧ Jx T pre W'))
/-- How a round's body may be left. -/
def postT (I : (Nat → Prop) → List α → World → Prop) (Ix : Code → (Nat → Prop) → List α → World → Prop) (T : Nat → Prop) (xs : List α) (W : World) : Exit → Act → World → Prop
  | .normal, _, W' => KeepT T W W' ∧ I T xs W'
  | .ret, _, W' => KeepT T W W' ∧ Ix .ret T xs W'
  | .exit id, _, W' => KeepT T W W' ∧ Ix (.exit id) T xs W'
  | _, _, _ => False
set_option maxHeartbeats 1000000 in
/-- The range. -/
theorem range_T {g : Operand} {ps : Array Tmp} {assign body : Code} {Q : Exit → Act → World → Prop} {a : Act} {w : World} {gf : Nat} {lb : Array Value} (hg : a.eval g = .func (.func gf) #[] lb) (eg : ∀ args w, (callFunc gf args).run P w = .ok (.enter gf args) w)
    {encs : α → Array Value} {Hc : World → Prop} {S Sp : List α → Prop} {N : Nat} {w0 : World} (hseq : SeqT P gf lb encs Hc S Sp N w0) (hb0 : Below w0.heap.size w0 w) (hps : ∀ x, (encs x).size = ps.size)
    (I : (Nat → Prop) → List α → World → Prop) (Ix : Code → (Nat → Prop) → List α → World → Prop) (hI : Stable I) (hIx : ∀ c, Stable (Ix c)) (hHc : ∀ T pre W1, I T pre W1 → Hc W1) (h0 : I (fun _ => False) [] w)
    (Ax : α → Act → (Nat → Prop) → World → Prop) (hAx : ∀ x a' T W W', Ax x a' T W → TurnT T W W' → Ax x a' T W')
    (hassign : ∀ (l : Nat) (T : Nat → Prop) (pre : List α) (x : α) (W : World) (K : Act → World → Prop), I T pre W → T l → (∀ k, T k → k < W.heap.size) → (∀ a' W', Below W.heap.size W W' → Ax x a' T W' → K a' W') →
      assign.wpIn (Fence.wide.inRound l) 0 P (Exit.then K (fun _ _ _ => False)) { tmps := (ps.zip (encs x)).foldl (fun t (p, v) => t.setIfInBounds p v) a.tmps, defers := [] } W)
    (hbody : ∀ (l : Nat) (T : Nat → Prop) (pre : List α) (x : α) (a' : Act) (W : World), T l → (∀ k, T k → k < W.heap.size) → I T pre W → Ax x a' T W → pre.length < N → body.wpIn (Fence.wide.inRound l) 0 P (postT I Ix T (pre ++ [x]) W) a' W)
    (hdone : ∀ (D : Nat) (T : Nat → Prop) (xs : List α) (W : World), w.heap.size ≤ D → T D → (∀ k, T k → k < W.heap.size) → S xs → I T xs W → W.heap[D]? = some (.deferred (some [])) → Q .normal { a with defers := { target := .collected D, args := #[] } :: a.defers } W)
    (hstop : ∀ (D : Nat) (c : Code) (T : Nat → Prop) (pre : List α) (W : World), w.heap.size ≤ D → T D → (∀ k, T k → k < W.heap.size) → Sp pre → Ix c T pre W → W.heap[D]? = some (.deferred (some [])) → c.wpIn Fence.wide 0 P Q { a with defers := { target := .collected D, args := #[] } :: a.defers } W) :
    (Code.rangeFunc g ps assign body).wpIn Fence.wide 0 P Q a w := by
  refine wpIn_rangeFunc ?_
  intro fn hfn
  obtain ⟨rec, hrec⟩ : ∃ rec : LoopState → Option Code → Loop, rec = fun st pe => { state := st, pending := pe, fn, tmps := a.tmps, params := ps, assign, body, defers := w.heap.size } := ⟨_, rfl⟩
  obtain ⟨W1, hW1⟩ : ∃ W1, (w.alloc (.deferred (some []))).alloc (.loop (rec .ready none)) = W1 := ⟨_, rfl⟩
  have hz1 : W1.heap.size = w.heap.size + 2 := by rw [← hW1]; simp
  have hL1 : W1.heap[w.heap.size + 1]? = some (.loop (rec .ready none)) := by
    rw [← hW1]
    have := World.alloc_heap_new (w.alloc (.deferred (some []))) (.loop (rec .ready none))
    rwa [World.size_alloc] at this
  have hD1 : W1.heap[w.heap.size]? = some (.deferred (some [])) := by
    rw [← hW1]
    exact (Below.heap_alloc _ _ _ (by simp)).trans (World.alloc_heap_new w _)
  have hbw : Below w.heap.size w W1 := by
    rw [← hW1]
    exact ((Below.refl _ w).alloc (Nat.le_refl _) _).alloc (by simp) _
  have hb1 : Below w0.heap.size w0 W1 := hb0.trans (hbw.mono hb0.size)
  refine ⟨w.heap.size + 1, [{ target := .collected w.heap.size, args := #[] }], W1, { target := .fn (.func gf) lb, args := #[.func (.yield (w.heap.size + 1)) #[] #[]] }, W1, gf, #[.func (.yield (w.heap.size + 1)) #[] #[]] ++ lb, W1, ?_, ?_, fun _ _ => trivial, ?_, fun h => (by cases h), ?_⟩
  · rw [← hW1, hrec]
    exact run_enterLoop_outer _ _ _ _ _
  · simp only [resolve, hg]
    simp [go_sem]
  · simp [invoke, go_sem, eg]
  obtain ⟨X, hX⟩ : ∃ X : (Nat → Prop) → Nat → Prop, X = fun T k => T k ∨ k = w.heap.size + 1 ∨ k = w.heap.size := ⟨_, rfl⟩
  have XT : ∀ T k, T k → X T k := fun T k h => by rw [hX]; exact Or.inl h
  have XL : ∀ T, X T (w.heap.size + 1) := fun T => by rw [hX]; exact Or.inr (Or.inl rfl)
  have XD : ∀ T, X T w.heap.size := fun T => by rw [hX]; exact Or.inr (Or.inr rfl)
  have XW : ∀ (T : Nat → Prop) (W : World), (∀ k, T k → w.heap.size + 2 ≤ k ∧ k < W.heap.size) → w.heap.size + 1 < W.heap.size → ∀ k, X T k → k < W.heap.size := fun T W h1 h2 k hk => by
    rw [hX] at hk
    rcases hk with h | h | h
    · exact (h1 k h).2
    · omega
    · omega
  have st : ∀ {J : (Nat → Prop) → List α → World → Prop} (hJ : Stable J) (T T' : Nat → Prop) (s : List α) (W W' : World), J (X T) s W → TurnT T W W' → (∀ k, T' k → T k ∨ (W.heap.size ≤ k ∧ k < W'.heap.size)) → J (X T') s W' := fun {J} hJ T T' s W W' h ht hT => by
    refine hJ (X T) (X T') s W W' h (ht.mono (XT T)) (fun k hk => ?_)
    rw [hX] at hk ⊢
    rcases hk with hk | hk
    · exact (hT k hk).imp Or.inl id
    · exact Or.inl (Or.inr hk)
  have lows : ∀ {T T' : Nat → Prop} {W W' : World} {r s : Obj}, (∀ k, T k → w.heap.size + 2 ≤ k ∧ k < W.heap.size) → W.heap[w.heap.size + 1]? = some r → W.heap[w.heap.size]? = some s → TurnT T W W' → (∀ k, T' k → T k ∨ (W.heap.size ≤ k ∧ k < W'.heap.size)) →
      (∀ k, T' k → w.heap.size + 2 ≤ k ∧ k < W'.heap.size) ∧ W'.heap[w.heap.size + 1]? = some r ∧ W'.heap[w.heap.size]? = some s := fun {T T' W W' r s} hT hr hs ht hT' => by
    have l1 := (Array.getElem?_eq_some_iff.1 hr).1
    exact ⟨fun k hk => (hT' k hk).elim (fun h => by have := hT k h; have := ht.size; omega) (fun h => by omega), (ht.block _ l1 (fun h => by have := hT _ h; omega)).trans hr, (ht.block _ (by omega) (fun h => by have := hT _ h; omega)).trans hs⟩
  refine (hseq (w.heap.size + 1)
    (fun T pre W => I (X T) pre W ∧ (∀ k, T k → w.heap.size + 2 ≤ k ∧ k < W.heap.size) ∧ W.heap[w.heap.size + 1]? = some (.loop (rec .ready none)) ∧ W.heap[w.heap.size]? = some (.deferred (some [])))
    (fun T pre W => ∃ c, Ix c (X T) pre W ∧ (∀ k, T k → w.heap.size + 2 ≤ k ∧ k < W.heap.size) ∧ W.heap[w.heap.size + 1]? = some (.loop (rec .done (some c))) ∧ W.heap[w.heap.size]? = some (.deferred (some [])))
    W1 hb1 (fun T T' s W W' h ht hT => ⟨st hI T T' s W W' h.1 ht hT, lows h.2.1 h.2.2.1 h.2.2.2 ht hT⟩)
    (fun T T' s W W' h ht hT => by
      obtain ⟨c, h1, h2, h3, h4⟩ := h
      exact ⟨c, st (hIx c) T T' s W W' h1 ht hT, lows h2 h3 h4 ht hT⟩) (fun T pre W h => hHc _ _ _ h.1) ?_ ⟨?_, fun _ h => h.elim, hL1, hD1⟩).mono ?_
  · rintro T pre x W ⟨hi, hT, hl, hd⟩ hlen
    have nL : ¬ T (w.heap.size + 1) := fun h => by have := hT _ h; omega
    have hlt : w.heap.size + 1 < W.heap.size := (Array.getElem?_eq_some_iff.1 hl).1
    have hy := run_yield (P := P) (args := encs x) hl (by rw [hrec]; exact hps x)
    rw [hrec] at hy
    refine ⟨fn, _, assign, body, hy, roundIn_of_wpIn hfn (hassign _ (X T) pre x W _ hi (XL T) (XW T W hT hlt) ?_)⟩
    intro a' Wa hba hax
    have hla : Wa.heap[w.heap.size + 1]? = some (.loop (rec .ready none)) := (hba.block _ hlt).trans hl
    have hda : Wa.heap[w.heap.size]? = some (.deferred (some [])) := (hba.block _ (by omega)).trans hd
    have hia : I (X T) pre Wa := hI _ _ _ _ _ hi (TurnT.of_below hba) (fun k hk => Or.inl hk)
    have hlta : w.heap.size + 1 < Wa.heap.size := (Array.getElem?_eq_some_iff.1 hla).1
    refine ⟨_, run_beginRound hla (by rw [hrec]), ?_⟩
    obtain ⟨Wb, hWb⟩ : ∃ Wb, Wb = Wa.putObj (w.heap.size + 1) (.loop { rec .ready none with state := .busy }) := ⟨_, rfl⟩
    rw [← hWb]
    have hlb : Wb.heap[w.heap.size + 1]? = some (.loop { rec .ready none with state := .busy }) := by rw [hWb]; exact World.putObj_heap_same hlta
    have hdb : Wb.heap[w.heap.size]? = some (.deferred (some [])) := by rw [hWb]; exact (World.putObj_heap_other (by omega)).trans hda
    have htb : TurnT (X T) Wa Wb := by rw [hWb]; exact TurnT.put _ (XL T) _
    have hkb : KeepT T W Wb := (KeepT.of_below hba).trans (by rw [hWb]; exact KeepT.put _ nL _)
    have hszb : Wb.heap.size = Wa.heap.size := by rw [hWb]; simp
    refine wpIn_mono (hbody _ (X T) pre x a' Wb (XL T) (fun k hk => by have := XW T W hT hlt k hk; have := hba.size; omega) (hI _ _ _ _ _ hia htb (fun k hk => Or.inl hk)) (hAx _ _ _ _ _ hax htb) hlen) ?_
    have fin : ∀ (jump : Option Code) (W3 : World), KeepT (X T) Wb W3 →
        (Instr.endRound (w.heap.size + 1) jump).run P W3 = .ok (.bool jump.isNone) (W3.putObj (w.heap.size + 1) (.loop (rec (if jump.isNone then .ready else .done) jump))) ∧
        (W3.putObj (w.heap.size + 1) (.loop (rec (if jump.isNone then .ready else .done) jump))).heap[w.heap.size + 1]? = some (.loop (rec (if jump.isNone then .ready else .done) jump)) ∧
        (W3.putObj (w.heap.size + 1) (.loop (rec (if jump.isNone then .ready else .done) jump))).heap[w.heap.size]? = some (.deferred (some [])) ∧
        TurnT (X T) W3 (W3.putObj (w.heap.size + 1) (.loop (rec (if jump.isNone then .ready else .done) jump))) ∧ KeepT T W (W3.putObj (w.heap.size + 1) (.loop (rec (if jump.isNone then .ready else .done) jump))) := fun jump W3 hk3 => by
      have hl3 := (hk3.same _ (XL T) (by omega)).trans hlb
      have hd3 := (hk3.same _ (XD T) (by omega)).trans hdb
      have he := run_endRound (P := P) jump hl3
      rw [hrec] at he ⊢
      exact ⟨he, World.putObj_heap_same (Array.getElem?_eq_some_iff.1 hl3).1, (World.putObj_heap_other (by omega)).trans hd3, TurnT.put _ (XL T) _, (hkb.trans (hk3.mono (XT T))).trans (KeepT.put _ nL _)⟩
    rintro e a3 W3 hp
    cases e with
    | normal =>
      obtain ⟨hk3, hi3⟩ := hp
      obtain ⟨hr, hl4, hd4, ht4, hk4⟩ := fin none W3 hk3
      exact ⟨_, _, hr, .inl ⟨rfl, ⟨hI _ _ _ _ _ hi3 ht4 (fun k hk => Or.inl hk), fun k hk => ⟨(hT k hk).1, Nat.lt_of_lt_of_le (hT k hk).2 hk4.size⟩, hl4, hd4⟩, hk4⟩⟩
    | ret =>
      obtain ⟨hk3, hi3⟩ := hp
      obtain ⟨hr, hl4, hd4, ht4, hk4⟩ := fin (some .ret) W3 hk3
      exact ⟨_, _, hr, .inr ⟨rfl, ⟨.ret, hIx _ _ _ _ _ _ hi3 ht4 (fun k hk => Or.inl hk), fun k hk => ⟨(hT k hk).1, Nat.lt_of_lt_of_le (hT k hk).2 hk4.size⟩, hl4, hd4⟩, hk4⟩⟩
    | exit id =>
      obtain ⟨hk3, hi3⟩ := hp
      obtain ⟨hr, hl4, hd4, ht4, hk4⟩ := fin (some (.exit id)) W3 hk3
      exact ⟨_, _, hr, .inr ⟨rfl, ⟨.exit id, hIx _ _ _ _ _ _ hi3 ht4 (fun k hk => Or.inl hk), fun k hk => ⟨(hT k hk).1, Nat.lt_of_lt_of_le (hT k hk).2 hk4.size⟩, hl4, hd4⟩, hk4⟩⟩
    | goto t => exact hp.elim
    | panic ch => exact hp.elim
    | outgrown => exact hp.elim
  · exact hI _ _ _ _ _ h0 (TurnT.of_below hbw) (fun k hk => Or.inr (by rw [hX] at hk; rcases hk with h | h | h; exact h.elim; omega; omega))
  · rintro e W2 ⟨⟨v, rfl⟩, (⟨xs, T, hS, hi, hT, hl, hd⟩ | ⟨pre, T, hSp, c, hi, hT, hl, hd⟩)⟩
    · refine ⟨none, _, by have := run_endLoop (P := P) hl (by rw [hrec]; simp); rw [hrec] at this; exact this, hdone _ (X T) xs _ (Nat.le_refl _) (XD T) (fun k hk => by rw [World.putObj_size]; exact XW T W2 hT (Array.getElem?_eq_some_iff.1 hl).1 k hk) hS (hI _ _ _ _ _ hi (TurnT.put _ (XL T) _) (fun k hk => Or.inl hk)) ((World.putObj_heap_other (by omega)).trans hd)⟩
    · refine ⟨some c, _, by have := run_endLoop (P := P) hl (by rw [hrec]; simp); rw [hrec] at this; exact this, hstop _ c (X T) pre _ (Nat.le_refl _) (XD T) (fun k hk => by rw [World.putObj_size]; exact XW T W2 hT (Array.getElem?_eq_some_iff.1 hl).1 k hk) hSp (hIx _ _ _ _ _ _ hi (TurnT.put _ (XL T) _) (fun k hk => Or.inl hk)) ((World.putObj_heap_other (by omega)).trans hd)⟩
end
end Go.Proofs.Ytabahmcbhapbiaa
namespace Go.Proofs.Ytabahmcbhapbiaa
open Go.RowKit Go.Shelf
set_option linter.unusedVariables false
attribute [local go_sem] Oper.semAt_some
/-- An op, as yield takes it. -/
def enc4 (x : Op4) : Array Value := #[.agg #[.int .i64 x.k, .int .i64 x.p, .int .i64 x.b, .int .i64 x.s]]
/-- The history lies at b. -/
def HistC (b : Nat) (h : List Op4) (W : World) : Prop := b < W.heap.size ∧ ∀ j y, (flat4 h)[j]? = some y → W.cell? ⟨b, j, none⟩ = some y
theorem flat4_get {h : List Op4} {k : Nat} {x : Op4} (e : h[k]? = some x) : (flat4 h)[k * 4]? = some (.int .i64 x.k) ∧ (flat4 h)[k * 4 + 1]? = some (.int .i64 x.p) ∧ (flat4 h)[k * 4 + 2]? = some (.int .i64 x.b) ∧ (flat4 h)[k * 4 + 3]? = some (.int .i64 x.s) := by
  induction h generalizing k with
  | nil => simp at e
  | cons y r ih =>
    cases k with
    | zero =>
      simp at e
      subst e
      simp [flat4, Op4.cells]
    | succ k =>
      simp at e
      have := ih e
      have e2 : flat4 (y :: r) = Op4.cells y ++ flat4 r := rfl
      have l4 : (Op4.cells y).length = 4 := rfl
      rw [e2]
      refine ⟨?_, ?_, ?_, ?_⟩
      · rw [List.getElem?_append_right (by omega), l4, show (k + 1) * 4 - 4 = k * 4 by omega]; exact this.1
      · rw [List.getElem?_append_right (by omega), l4, show (k + 1) * 4 + 1 - 4 = k * 4 + 1 by omega]; exact this.2.1
      · rw [List.getElem?_append_right (by omega), l4, show (k + 1) * 4 + 2 - 4 = k * 4 + 2 by omega]; exact this.2.2.1
      · rw [List.getElem?_append_right (by omega), l4, show (k + 1) * 4 + 3 - 4 = k * 4 + 3 by omega]; exact this.2.2.2
set_option maxRecDepth 100000 in
set_option maxHeartbeats 2000000 in
/-- The server's iterator, where something is in the history. -/
theorem done1_in (l Bs vb b cap : Nat) (h : List Op4) (hlen : h.length ≤ 1000000000000000) (J Jx : (Nat → Prop) → List Op4 → World → Prop) (hJ : Stable J) (hJx : Stable Jx) (hC : ∀ T pre W1, J T pre W1 → HistC b h W1)
    (hY : ∀ T pre x W1, J T pre W1 → pre.length < h.length → YieldAt Fence.wide 0 Try.prog l (enc4 x) W1 fun e W' =>
      (e = .returned (.bool true) ∧ J T (pre ++ [x]) W' ∧ KeepT T W1 W') ∨ (e = .returned (.bool false) ∧ Jx T (pre ++ [x]) W' ∧ KeepT T W1 W'))
    (W : World) (hBs : W.cell? ⟨Bs, 0, none⟩ = some (.pointer (some ⟨vb, 0, none⟩))) (hv : W.cell? ⟨vb, 1, none⟩ = some (.slice (some ⟨b, 0, none⟩) h.length cap)) (h0 : J (fun _ => False) [] W) :
    CallsIn Fence.wide 0 Try.prog 68 #[.func (.yield l) #[] #[], .pointer (some ⟨Bs, 0, none⟩)] W fun e W' => (∃ v, e = .returned v) ∧ ((∃ xs T, xs = h ∧ J T xs W') ∨ (∃ pre T, pre <+: h ∧ Jx T pre W')) := by
  refine callsIn_of_wp Try.func68 rfl trivial ?_ rfl
  simp only [Try.ntmps68, List.size_toArray, List.length_cons, List.length_nil, Nat.reduceAdd, Nat.reduceSub, Array.replicate_succ, Array.replicate_zero, List.push_toArray, List.append_toArray, List.nil_append, List.cons_append]
  gi_wp2
  gi_loopw [10] (fun i wr => ∃ k : Nat, k ≤ h.length ∧ i = .int .i64 k ∧ J (fun _ => False) (h.take k) wr)
    (fun i _ => h.length - (intOf i).toNat)
  case atStart => exact ⟨0, Nat.zero_le _, rfl, h0⟩
  case round =>
    obtain ⟨k, hk, rfl, hJs⟩ := hrel
    by_cases hlt : k < h.length
    · obtain ⟨x, hx⟩ : ∃ x, h[k]? = some x := ⟨_, List.getElem?_eq_getElem hlt⟩
      obtain ⟨hbl, hcs⟩ := hC _ _ _ hJs
      obtain ⟨g0, g1, g2, g3⟩ := flat4_get hx
      have c0 := hcs _ _ g0
      have c1 := hcs _ _ g1
      have c2 := hcs _ _ g2
      have c3 := hcs _ _ g3
      have hlt' : (k : Int) < (h.length : Int) := by omega
      have hp : h.take k ++ [x] = h.take (k + 1) := by rw [List.take_add_one, hx]; rfl
      have hJ2 : J (fun _ => False) (h.take k) (wr.alloc (.cells #[.int .i64 x.k, .int .i64 x.p, .int .i64 x.b, .int .i64 x.s] 26)) := hJ _ _ _ _ _ hJs (TurnT.of_below (bel_alloc (Below.refl _ _) _)) (fun k e => e.elim)
      obtain ⟨fn, tmps, assign, body, hy, hR⟩ := hY _ _ x _ hJ2 (by rw [List.length_take]; omega)
      rw [hp] at hR
      dsimp only [enc4] at hy
      clear hJs hJ2 hbl hcs g0 g1 g2 g3 hC hY
      gi_wp2
      refine ⟨rfl, hR.mono ?_⟩
      rintro e W3 (⟨rfl, hJ3, _⟩ | ⟨rfl, hJx3, _⟩)
      · gi_wp2
        go_roundw
        case rel => exact ⟨k + 1, by omega, by go_num, hJ3⟩
        case measure => simp [intOf]; omega
      · gi_wp2
        refine bodyPost_ret (results_none rfl _ _ _) rfl ?_
        exact ⟨⟨_, rfl⟩, .inr ⟨_, _, List.take_prefix _ _, hJx3⟩⟩
    · obtain rfl : k = h.length := by omega
      gi_wp2
      go_end0
      exact ⟨⟨_, rfl⟩, .inl ⟨_, _, List.take_length, hJs⟩⟩
set_option maxRecDepth 100000 in
set_option maxHeartbeats 1000000 in
/-- .. where nothing is. -/
theorem done1_nil_in (l Bs vb : Nat) (J : (Nat → Prop) → List Op4 → World → Prop) (W : World) (hBs : W.cell? ⟨Bs, 0, none⟩ = some (.pointer (some ⟨vb, 0, none⟩))) (hv : W.cell? ⟨vb, 1, none⟩ = some (.slice none 0 0)) (h0 : J (fun _ => False) [] W) :
    CallsIn Fence.wide 0 Try.prog 68 #[.func (.yield l) #[] #[], .pointer (some ⟨Bs, 0, none⟩)] W fun e W' => (∃ v, e = .returned v) ∧ J (fun _ => False) [] W' := by
  refine callsIn_of_wp Try.func68 rfl trivial ?_ rfl
  simp only [Try.ntmps68, List.size_toArray, List.length_cons, List.length_nil, Nat.reduceAdd, Nat.reduceSub, Array.replicate_succ, Array.replicate_zero, List.push_toArray, List.append_toArray, List.nil_append, List.cons_append]
  gi_wp2
  gi_loopw [10] (fun i wr => i = .int .i64 0 ∧ J (fun _ => False) [] wr) (fun _ _ => 0)
  case atStart => exact ⟨rfl, h0⟩
  case round =>
    obtain ⟨rfl, hJs⟩ := hrel
    gi_wp2
    go_end0
    exact ⟨⟨_, rfl⟩, hJs⟩
/-- What the iterator reads: nothing, or the history's block. -/
def HistW (vd : Value) (h : List Op4) (W : World) : Prop := (vd = .slice none 0 0 ∧ h = []) ∨ ∃ b cap, vd = .slice (some ⟨b, 0, none⟩) h.length cap ∧ HistC b h W
/-- The server's iterator. -/
theorem done_stops (Bs vb : Nat) (vd : Value) (h : List Op4) (hlen : h.length ≤ 1000000000000000) (w : World) (hB : Bs < w.heap.size) (hV : vb < w.heap.size) (hBs : w.cell? ⟨Bs, 0, none⟩ = some (.pointer (some ⟨vb, 0, none⟩))) (hv : w.cell? ⟨vb, 1, none⟩ = some vd) :
    SeqT Try.prog 68 #[.pointer (some ⟨Bs, 0, none⟩)] enc4 (HistW vd h) (fun xs => xs = h) (fun pre => pre <+: h) h.length w := fun l J Jx W hW hJ hJx hC hY h0 => by
  have a1 := (hW.cell (p := ⟨Bs, 0, none⟩) hB).trans hBs
  have a2 := (hW.cell (p := ⟨vb, 1, none⟩) hV).trans hv
  rcases hC _ _ _ h0 with ⟨rfl, rfl⟩ | ⟨b, cap, rfl, hc⟩
  · exact (done1_nil_in l Bs vb J W a1 a2 h0).mono fun e W' he => ⟨he.1, .inl ⟨_, _, rfl, he.2⟩⟩
  · refine done1_in l Bs vb b cap h hlen J Jx hJ hJx (fun T pre W1 h1 => ?_) hY W a1 a2 h0
    rcases hC _ _ _ h1 with ⟨e, _⟩ | ⟨b2, cap2, e, hc2⟩
    · cases e
    · cases e; exact hc2
/-- The history of a moot, as the iterator reads it. -/
theorem DevM.histW {w : World} {mb : Nat} {m : Moo} {L : DLay} {own : Nat → Option Nat} (h : DevM w mb m L own) : ∃ vd, w.cell? ⟨L.vb, 1, none⟩ = some vd ∧ HistW vd m.hist w ∧ ∀ (b n c : Nat), vd = .slice (some ⟨b, 0, none⟩) n c → own b = some (100 + m.hist.length) := by
  obtain ⟨vd, g, x1, x2, x0, x3⟩ := h.hs
  refine ⟨vd, x1, ?_, fun b n c e => ?_⟩
  · rcases x2 with ⟨h1, h2, h3⟩ | ⟨gb, off, n, cap, hg, hv, h3, h4, h5, h6, h7, h8⟩
    · have e0 : m.hist = [] := by
        have := congrArg List.length h2
        rw [flat4_len] at this
        exact List.length_eq_zero_iff.1 (by simp only [List.length_nil] at this; omega)
      exact Or.inl ⟨h1, e0⟩
    · have e0 := x0 _ _ _ _ hv
      subst e0
      have en : n = m.hist.length := by rw [flat4_len] at h3; omega
      subst en
      exact Or.inr ⟨gb, cap, hv, h6, fun j y hj => by have := h7 j y hj; rwa [Nat.zero_add] at this⟩
  · rcases x2 with ⟨h1, _, _⟩ | ⟨gb, off, n', cap, hg, hv, _⟩
    · rw [h1] at e; cases e
    · rw [hv] at e
      cases e
      exact x3 _ hg
set_option maxHeartbeats 1000000 in
theorem sdone_any (p : Option Addr) (w : World) : Calls Try.prog 42 #[.pointer p] w fun e w' => e = .returned (.func (.func 68) #[] #[.pointer (some ⟨w.heap.size, 0, none⟩)]) ∧ w' = w.alloc (.cells #[.pointer p] 77) := by
  refine callsIn_wide (n := 0).1 (callsIn_of_wp Try.func42 rfl trivial ?_ rfl)
  simp only [Try.ntmps42, List.size_toArray, List.length_cons, List.length_nil, Nat.reduceAdd, Nat.reduceSub, Array.replicate_succ, Array.replicate_zero, List.push_toArray, List.append_toArray, List.nil_append, List.cons_append]
  gi_wp2
  go_ret
  exact ⟨rfl, rfl⟩
set_option maxHeartbeats 1000000 in
theorem history_any (p : Option Addr) (w : World) : Calls Try.prog 24 #[.pointer p] w fun e w' => e = .returned (.func (.func 41) #[] #[.pointer (some ⟨w.heap.size, 0, none⟩)]) ∧ w' = w.alloc (.cells #[.pointer p] 44) := by
  refine callsIn_wide (n := 0).1 (callsIn_of_wp Try.func24 rfl trivial ?_ rfl)
  simp only [Try.ntmps24, List.size_toArray, List.length_cons, List.length_nil, Nat.reduceAdd, Nat.reduceSub, Array.replicate_succ, Array.replicate_zero, List.push_toArray, List.append_toArray, List.nil_append, List.cons_append]
  gi_wp2
  go_ret
  exact ⟨rfl, rfl⟩
end Go.Proofs.Ytabahmcbhapbiaa
namespace Go.Proofs.Ytabahmcbhapbiaa
open Go.RowKit Go.Shelf
set_option linter.unusedVariables false
attribute [local go_sem] Oper.semAt_some
/-- The place of an op that came, in a round of History's own loop. -/
def HAx (l W0 : Nat) (p : Addr) (vb : Nat) (q : Value) (Bp : Nat) (x : Op4) (a : Act) (T : Nat → Prop) (W : World) : Prop :=
  ∃ bx, a = { tmps := #[.func (.yield l) #[] #[], .pointer (some ⟨Bp, 0, none⟩), .pointer (some ⟨W0, 0, none⟩), .pointer (some ⟨bx, 0, none⟩), .pointer (some p), .bool false, .pointer (some p), .pointer (some p), .pointer (some p), .pointer (some ⟨vb, 0, none⟩), q, .agg #[.int .i64 x.k, .int .i64 x.p, .int .i64 x.b, .int .i64 x.s], undef, undef, undef, undef], defers := [] } ∧ Op4At W bx 0 x ∧ bx < W.heap.size ∧ ¬ T bx
theorem cell_turnT {T : Nat → Prop} {W W' : World} (h : TurnT T W W') {b o : Nat} (hb : b < W.heap.size) (hn : ¬ T b) : W'.cell? ⟨b, o, none⟩ = W.cell? ⟨b, o, none⟩ := World.cell?_of_block (w := W) (h.block b hb hn)
theorem op4at_turnT {T : Nat → Prop} {W W' : World} (h : TurnT T W W') {b : Nat} (hb : b < W.heap.size) (hn : ¬ T b) {u : Op4} (hu : Op4At W b 0 u) : Op4At W' b 0 u := by
  obtain ⟨x0, x1, x2, x3⟩ := hu
  exact ⟨(cell_turnT h hb hn).trans x0, (cell_turnT h hb hn).trans x1, (cell_turnT h hb hn).trans x2, (cell_turnT h hb hn).trans x3⟩
set_option maxRecDepth 100000 in
set_option maxHeartbeats 2000000 in
/-- History's iterator. -/
theorem history_stops (Bp mb vb : Nat) (vd : Value) (h : List Op4) (hlen : h.length ≤ 1000000000000000) (w : World) (hB : Bp < w.heap.size) (hM : mb < w.heap.size) (hV : vb < w.heap.size) (hBp : w.cell? ⟨Bp, 0, none⟩ = some (.pointer (some ⟨mb, 0, none⟩))) (hm : w.cell? ⟨mb, 0, none⟩ = some (.pointer (some ⟨vb, 0, none⟩))) (hv : w.cell? ⟨vb, 1, none⟩ = some vd) :
    SeqT Try.prog 41 #[.pointer (some ⟨Bp, 0, none⟩)] enc4 (HistW vd h) (fun xs => xs = h) (fun pre => pre <+: h) h.length w := fun l J Jx W hW hJ hJx hC hY h0 => by
  have a1 := (hW.cell (p := ⟨Bp, 0, none⟩) hB).trans hBp
  have a2 := (hW.cell (p := ⟨mb, 0, none⟩) hM).trans hm
  have a3 := (hW.cell (p := ⟨vb, 1, none⟩) hV).trans hv
  have hs := hW.size
  have l1 : Bp < W.heap.size := by omega
  have l2 : mb < W.heap.size := by omega
  show CallsIn Fence.wide 0 Try.prog 41 #[.func (.yield l) #[] #[], .pointer (some ⟨Bp, 0, none⟩)] W _
  refine callsIn_of_wp_marks Try.func41 rfl trivial ?_ rfl
  simp only [Try.ntmps41, List.size_toArray, List.length_cons, List.length_nil, Nat.reduceAdd, Nat.reduceSub, Array.replicate_succ, Array.replicate_zero, List.push_toArray, List.append_toArray, List.nil_append, List.cons_append]
  gi_wp2
  refine ⟨trivial, rfl, (callsIn_wide.2 (sdone_any _ _)).mono ?_⟩
  rintro e w' ⟨rfl, rfl⟩
  gi_wp2
  have e1 : (W.alloc (.cells #[.func (.yield l) #[] #[]] 72)).heap.size = W.heap.size + 1 := by simp
  obtain ⟨W2, hW2⟩ : ∃ W2, W2 = (W.alloc (.cells #[.func (.yield l) #[] #[]] 72)).alloc (.cells #[.pointer (some ⟨vb, 0, none⟩)] 77) := ⟨_, rfl⟩
  have hb2 : Below W.heap.size W W2 := by rw [hW2]; exact bel_alloc (bel_alloc (Below.refl _ _) _) _
  have hz2 : W2.heap.size = W.heap.size + 2 := by rw [hW2]; simp
  have y2 : W2.cell? ⟨W.heap.size, 0, none⟩ = some (.func (.yield l) #[] #[]) := by rw [hW2]; simp [go_sem]
  have s2 : W2.cell? ⟨W.heap.size + 1, 0, none⟩ = some (.pointer (some ⟨vb, 0, none⟩)) := by rw [hW2, ← e1]; simp [go_sem]
  have v2 : W2.cell? ⟨vb, 1, none⟩ = some vd := (hb2.cell (p := ⟨vb, 1, none⟩) (by show vb < _; omega)).trans a3
  rw [← hW2]
  refine range_T (P := Try.prog) (gf := 68) (lb := #[.pointer (some ⟨W.heap.size + 1, 0, none⟩)]) rfl (enters_of Try.func68 (by kernel_rfl) rfl) (done_stops (W.heap.size + 1) vb vd h hlen W2 (by omega) (by omega) s2 v2) (Below.refl _ _) (fun _ => rfl)
    (fun T pre W' => J (fun k => T k ∨ k = W.heap.size) pre W' ∧ W'.cell? ⟨W.heap.size, 0, none⟩ = some (.func (.yield l) #[] #[]) ∧ ¬ T W.heap.size ∧ W.heap.size < W'.heap.size)
    (fun c T pre W' => c = .ret ∧ Jx (fun k => T k ∨ k = W.heap.size) pre W')
    (fun T T' s A B hi ht hT => ?_) (fun c T T' s A B hi ht hT => ?_) (fun T pre W1 hi => hC _ _ _ hi.1) ⟨?_, y2, fun e => e, by omega⟩
    (HAx l W.heap.size ⟨mb, 0, none⟩ vb (.func (.func 68) #[] #[.pointer (some ⟨W.heap.size + 1, 0, none⟩)]) Bp) (fun x a' T A B hx ht => ?_) ?assign ?body ?done ?stop
  · obtain ⟨i1, i2, i3, i4⟩ := hi
    have hs2 := ht.size
    refine ⟨hJ _ _ _ _ _ i1 (ht.mono (fun k e => Or.inl e)) (fun k e => ?_), (cell_turnT ht i4 i3).trans i2, fun e => ?_, by omega⟩
    · rcases e with e | e
      · exact (hT k e).imp Or.inl id
      · exact Or.inl (Or.inr e)
    · rcases hT _ e with x | x
      · exact i3 x
      · omega
  · obtain ⟨i1, i2⟩ := hi
    refine ⟨i1, hJx _ _ _ _ _ i2 (ht.mono (fun k e => Or.inl e)) (fun k e => ?_)⟩
    rcases e with e | e
    · exact (hT k e).imp Or.inl id
    · exact Or.inl (Or.inr e)
  · exact hJ _ _ _ _ _ h0 (TurnT.of_below hb2) (fun k e => by
      rcases e with e | e
      · exact e.elim
      · exact Or.inr (by omega))
  · obtain ⟨bx, rfl, h1, h2, h3⟩ := hx
    exact ⟨bx, rfl, op4at_turnT ht h2 h3 h1, Nat.lt_of_lt_of_le h2 ht.size, h3⟩
  case assign =>
    intro l2 T pre x A K hi hl hT hK
    dsimp only [enc4]
    gi_wp2
    exact hK _ _ (bel_alloc (Below.refl _ _) _) ⟨A.heap.size, rfl, op4at_new A x _, by simp, fun e => by have := hT _ e; omega⟩
  case body =>
    intro l2 T pre x a' A hl hT hi hx hlt
    obtain ⟨i1, i2, i3, i4⟩ := hi
    obtain ⟨bx, rfl, h1, h2, h3⟩ := hx
    obtain ⟨x0, x1, x2, x3⟩ := h1
    obtain ⟨fn, tmps, assign, body, hy, hR⟩ := hY _ _ x _ i1 hlt
    dsimp only [enc4] at hy
    gi_wp2
    refine ⟨rfl, (show RoundIn (Fence.wide.inRound l2) 0 Try.prog l fn tmps assign body A _ from hR).mono ?_⟩
    rintro e W3 (⟨rfl, hJ3, hk3⟩ | ⟨rfl, hJx3, hk3⟩)
    · gi_wp2
      exact ⟨hk3.mono (fun k e => Or.inl e), hJ3, (World.cell?_of_block (w := A) (a := ⟨W.heap.size, 0, none⟩) (hk3.same _ (Or.inr rfl) i4)).trans i2, i3, Nat.lt_of_lt_of_le i4 hk3.size⟩
    · gi_wp2
      exact ⟨hk3.mono (fun k e => Or.inl e), rfl, hJx3⟩
  case done =>
    rintro D T xs A hD tD hT rfl ⟨i1, i2, i3, i4⟩ hK
    gi_wp2
    refine ⟨by simp, .inl ⟨_, _, rfl, run_takeDeferred hK, ?_⟩⟩
    exact ⟨_, results_none rfl _ _ _, ⟨_, rfl⟩, .inl ⟨_, _, rfl, hJ _ _ _ _ _ i1 (TurnT.put _ (Or.inl tD) _) (fun k e => Or.inl e)⟩⟩
  case stop =>
    rintro D c T pre A hD tD hT hp ⟨rfl, i2⟩ hK
    gi_wp2
    refine ⟨by simp, .inl ⟨_, _, rfl, run_takeDeferred hK, ?_⟩⟩
    exact ⟨_, results_none rfl _ _ _, ⟨_, rfl⟩, .inr ⟨_, _, hp, hJx _ _ _ _ _ i2 (TurnT.put _ (Or.inl tD) _) (fun k e => Or.inl e)⟩⟩
theorem eqIn_func_nil (d : Nat) (w : World) (f : Fn) (a b : Array Value) {ps rs : Array TypeId} {v : Bool} (h : Try.prog.underlying 57 = some (.func ps rs v)) : (Op.equalIn (d + 1) 57 (.func f a b) .nilFunc).run Try.prog w = .ok false w := by
  simp [Op.equalIn, go_sem, run_underlying h]
/-- A function is not nil. -/
theorem func_nil (f : Fn) (a b : Array Value) (w : World) : Sem.run Try.prog (binOp BinOp.eql 57 (.func f a b) .nilFunc) w = .ok (.bool false) w := by
  have h2 : (Op.equal 57 (.func f a b) .nilFunc).run Try.prog w = .ok false w := eqIn_func_nil 9999 w f a b Try.underlying57
  simp [binOp, go_sem, h2]
end Go.Proofs.Ytabahmcbhapbiaa
namespace Go.Proofs.Ytabahmcbhapbiaa
open Go.RowKit Go.Lib
set_option linter.unusedVariables false
section
variable {w w' : World}
theorem cellB {b : Nat} (h : w'.heap[b]? = w.heap[b]?) (j : Nat) : w'.cell? ⟨b, j, none⟩ = w.cell? ⟨b, j, none⟩ := World.cell?_of_block (w := w) h
theorem frozenB {b : Nat} (h : w'.heap[b]? = w.heap[b]?) (j : Nat) : w'.frozen? ⟨b, j, none⟩ = w.frozen? ⟨b, j, none⟩ := World.frozen?_of_block (w := w) h
theorem RowQ.keepB {size : Nat} {v : Value} {xs : List Value} {g : Option Nat} (h : RowQ w size v xs g) (hs : w.heap.size ≤ w'.heap.size) (hb : ∀ k, g = some k → w'.heap[k]? = w.heap[k]?) : RowQ w' size v xs g := by
  rcases h with h | ⟨gb, off, n, cap, h1, h2, h3, h4, h5, h6, h7, h8⟩
  · exact Or.inl h
  · have e := hb gb h1
    refine Or.inr ⟨gb, off, n, cap, h1, h2, h3, h4, h5, Nat.lt_of_lt_of_le h6 hs, fun j x hj => ?_, fun j hj => ?_⟩
    · rw [cellB e]; exact h7 j x hj
    · rw [cellB e, frozenB e]; exact h8 j hj
theorem EndAt.keepB {b o s c : Nat} {vo vq : Value} {l : List Op4} {q : List Msg} {go gq : Option Nat} (h : EndAt w b o s c vo vq l q go gq) (hs : w.heap.size ≤ w'.heap.size) (hb : ∀ k, (k = b ∨ go = some k ∨ gq = some k) → w'.heap[k]? = w.heap[k]?) : EndAt w' b o s c vo vq l q go gq :=
  have e := hb b (Or.inl rfl)
  ⟨Nat.lt_of_lt_of_le h.lt hs, (cellB e _).trans h.c0, (cellB e _).trans h.c1, (cellB e _).trans h.c2, (cellB e _).trans h.c3, h.qo.keepB hs (fun k x => hb k (Or.inr (Or.inl x))), h.qq.keepB hs (fun k x => hb k (Or.inr (Or.inr x))), fun j => (frozenB e j).trans (h.fr j), h.no, h.nq, h.ne⟩
theorem CliMem.keepB {cb i : Nat} {x : Cli} {go gq : Option Nat} (h : CliMem w cb i x go gq) (hs : w.heap.size ≤ w'.heap.size) (hb : ∀ k, (k = cb ∨ go = some k ∨ gq = some k) → w'.heap[k]? = w.heap[k]?) : CliMem w' cb i x go gq := by
  obtain ⟨⟨vo, vq, he⟩, h4, h5⟩ := h
  have e := hb cb (Or.inl rfl)
  exact ⟨⟨vo, vq, he.keepB hs hb⟩, (cellB e _).trans h4, (cellB e _).trans h5⟩
theorem SeatMem.keepB {eb i : Nat} {x : Cli} {go gq : Option Nat} (h : SeatMem w eb i x go gq) (hs : w.heap.size ≤ w'.heap.size) (hb : ∀ k, (k = eb ∨ go = some k ∨ gq = some k) → w'.heap[k]? = w.heap[k]?) : SeatMem w' eb i x go gq := by
  obtain ⟨⟨vo, vq, he⟩, h4⟩ := h
  exact ⟨⟨vo, vq, he.keepB hs hb⟩, (cellB (hb eb (Or.inl rfl)) _).trans h4⟩
theorem DevM.keepB {mb : Nat} {m : Moo} {L : DLay} {own : Nat → Option Nat} (h : DevM w mb m L own) (hs : w.heap.size ≤ w'.heap.size) (hb : ∀ k, own k ≠ none → w'.heap[k]? = w.heap[k]?) : DevM w' mb m L own := by
  have b : ∀ {k a : Nat}, own k = some a → w'.heap[k]? = w.heap[k]? := fun {k a} e => hb k (by rw [e]; simp)
  refine ⟨h.n1, h.n4, (cellB (b h.o0) _).trans h.m0, (cellB (b h.o0) _).trans h.m1, (cellB (b h.o1) _).trans h.v0, (cellB (b h.o1) _).trans h.v1, fun j => (frozenB (b h.o1) j).trans (h.vf j), fun i hi => (cellB (b h.o2) _).trans (h.kp i hi), fun i hi => ?_, fun i hi => ?_, h.ko, h.o0, h.o1, h.o2, h.o3, fun k e => Nat.lt_of_lt_of_le (h.lt k e) hs, ?_⟩
  · obtain ⟨go, gq, h1, h2, h3, h4⟩ := h.cl i hi
    exact ⟨go, gq, h1.keepB hs (fun k e => by rcases e with rfl | e | e; exact b h2; exact b (h3 k e); exact b (h4 k e)), h2, h3, h4⟩
  · obtain ⟨go, gq, h1, h3, h4⟩ := h.se i hi
    exact ⟨go, gq, h1.keepB hs (fun k e => by rcases e with rfl | e | e; exact b h.o3; exact b (h3 k e); exact b (h4 k e)), h3, h4⟩
  · obtain ⟨vd, g, x1, x2, x0, x3⟩ := h.hs
    exact ⟨vd, g, (cellB (b h.o1) _).trans x1, x2.keepB hs (fun k e => b (x3 k e)), x0, x3⟩
theorem RoomAt.keepB {rb mb n : Nat} {first : List UInt8} {typed : Nat → Nat} {dels : Nat} (h : RoomAt w rb mb n first typed dels) (hs : w.heap.size ≤ w'.heap.size) (hb : w'.heap[rb]? = w.heap[rb]?) : RoomAt w' rb mb n first typed dels :=
  ⟨(cellB hb _).trans h.c0, (cellB hb _).trans h.c1, (cellB hb _).trans h.c2, fun i hi => (cellB hb _).trans (h.ct i hi), (cellB hb _).trans h.cd, fun j => (frozenB hb j).trans (h.fr j), Nat.lt_of_lt_of_le h.lt hs⟩
end
/-- What lies in the blocks of P lies as it lay. -/
def KeepP (P : Nat → Prop) (W W' : World) : Prop := W.heap.size ≤ W'.heap.size ∧ ∀ k, P k → W'.heap[k]? = W.heap[k]?
/-- A room and its moot, and a history of it (vd) that is being read. -/
structure Rp (w W : World) (P : Nat → Prop) (rb mb : Nat) (first : List UInt8) (m : Moo) (typed : Nat → Nat) (dels : Nat) (vd : Value) (h : List Op4) : Prop where
  ex : ∃ L own, DevM W mb m L own ∧ (∀ k, P k → own k = none) ∧ (∀ k, own k ≠ none → w.heap.size ≤ k) ∧ ∀ (b n c : Nat), vd = .slice (some ⟨b, 0, none⟩) n c → ∃ n', h.length ≤ n' ∧ own b = some (100 + n')
  hw : HistW vd h W
  ra : RoomAt W rb mb m.n first typed dels
  pr : P rb
  ge : ∀ k, P k → w.heap.size ≤ k ∧ k < W.heap.size
  bel : Below w.heap.size w W
section
variable {w W W' : World} {P P' F : Nat → Prop} {rb mb : Nat} {first : List UInt8} {m : Moo} {typed : Nat → Nat} {dels N : Nat} {vd : Value} {h : List Op4}
theorem Rp.of (r : Rm w W P rb mb first m typed dels) : ∃ L vd, W.cell? ⟨mb, 0, none⟩ = some (.pointer (some ⟨L, 0, none⟩)) ∧ W.cell? ⟨L, 1, none⟩ = some vd ∧ mb < W.heap.size ∧ L < W.heap.size ∧ Rp w W P rb mb first m typed dels vd m.hist := by
  obtain ⟨⟨L, own, h1, h2, h3⟩, ra, pr, ge, bel⟩ := r
  obtain ⟨vd, v1, v2, v3⟩ := h1.histW
  exact ⟨L.vb, vd, h1.m0, v1, h1.lto h1.o0, h1.lto h1.o1, ⟨⟨L, own, h1, h2, h3, fun b n c e => ⟨_, Nat.le_refl _, v3 b n c e⟩⟩, v2, ra, pr, ge, bel⟩⟩
/-- Blocks of P are turned; new ones may be P's. -/
theorem Rp.turn (r : Rp w W P rb mb first m typed dels vd h) (ht : TurnT F W W') (hF : ∀ k, F k → P k ∧ k ≠ rb) (hP : ∀ k, P' k → P k ∨ (W.heap.size ≤ k ∧ k < W'.heap.size)) (hr : P' rb) : Rp w W' P' rb mb first m typed dels vd h := by
  obtain ⟨⟨L, own, h1, h2, h3, h4⟩, hw, ra, pr, ge, bel⟩ := r
  have nb : ∀ k, own k ≠ none → W'.heap[k]? = W.heap[k]? := fun k e => ht.block k (h1.lt k e) (fun f => e (h2 k (hF k f).1))
  have hsz := bel.size
  have hs2 := ht.size
  refine ⟨⟨L, own, h1.keepB ht.size nb, fun k e => ?_, h3, h4⟩, ?_, ra.keepB ht.size (ht.block rb ra.lt (fun f => (hF rb f).2 rfl)), hr, fun k e => ?_, ⟨ht.os.trans bel.os, ht.tape.trans bel.tape, ht.output.trans bel.output, Nat.le_trans bel.size ht.size, fun k hk => (ht.block k (Nat.lt_of_lt_of_le hk bel.size) (fun f => by have := (ge k (hF k f).1).1; omega)).trans (bel.block k hk)⟩⟩
  · rcases hP k e with x | x
    · exact h2 k x
    · exact h1.fresh x.1
  · rcases hw with hw | ⟨b, cap, e, hl, hc⟩
    · exact Or.inl hw
    · obtain ⟨n', _, hb⟩ := h4 b _ _ e
      have e2 := nb b (by rw [hb]; simp)
      exact Or.inr ⟨b, cap, e, Nat.lt_of_lt_of_le hl ht.size, fun j y hj => (cellB e2 j).trans (hc j y hj)⟩
  · rcases hP k e with x | x
    · have := ge k x; omega
    · omega
theorem Rp.below (r : Rp w W P rb mb first m typed dels vd h) (hb : Below W.heap.size W W') : Rp w W' P rb mb first m typed dels vd h := r.turn (F := fun _ => False) (TurnT.of_below hb) (fun _ f => f.elim) (fun _ e => Or.inl e) r.pr
/-- A message comes up, if there is one. -/
theorem Rp.up (r : Rp w W P rb mb first m typed dels vd h) (g : Good first m typed dels N) (hN : (N + 1) * 48 ≤ 140737488355328) {c : Nat} (hc : c < m.n) :
    Calls Try.prog 25 #[.pointer (some ⟨mb, 0, none⟩), .int .i64 (c : Int)] W fun e w' => (∃ z, e = .returned (.int .i64 z)) ∧ Hid (∃ m', m'.n = m.n ∧ Good first m' typed dels N ∧ Rp w w' P rb mb first m' typed dels vd h ∧ KeepP P W w') := by
  obtain ⟨L, own, h1, h2, h3, h4⟩ := r.ex
  cases hu : (m.cl c).up with
  | nil =>
    refine (devUp_none h1 c hc hu).mono ?_
    rintro e w' ⟨rfl, hb⟩
    exact ⟨⟨_, rfl⟩, m, rfl, g, r.below hb, hb.size, fun k e => hb.block k (r.ge k e).2⟩
  | cons μ q =>
    obtain ⟨t, ht, hI, hC⟩ := devUp_inv h1 g.inv (good_few g hN) c hc μ q hu
    refine hC.mono ?_
    rintro e w' ⟨rfl, own', hd, hf⟩
    have bel := r.bel
    have kp : ∀ k, P k → w'.heap[k]? = W.heap[k]? := fun k e => hf.kx.block k (r.ge k e).2 (fun x => x (h2 k e))
    refine ⟨⟨_, rfl⟩, upM m c μ q t, rfl, good_up g hc hu ht hI, ⟨⟨L, own', hd, fun k e => ?_, fun k e => ?_, fun b n c' e => ?_⟩, ?_, r.ra.keepB hf.kx.size (kp rb r.pr), r.pr, fun k e => ⟨(r.ge k e).1, Nat.lt_of_lt_of_le (r.ge k e).2 hf.kx.size⟩, ⟨hf.kx.os.trans bel.os, hf.kx.tape.trans bel.tape, hf.kx.output.trans bel.output, Nat.le_trans bel.size hf.kx.size, fun k hk => (hf.kx.block k (Nat.lt_of_lt_of_le hk bel.size) (fun e => by have := h3 k e; omega)).trans (bel.block k hk)⟩⟩, hf.kx.size, kp⟩
    · by_cases e' : own' k = none
      · exact e'
      · rcases hf.nw k e' with x | x
        · exact absurd (h2 k e) x
        · have := (r.ge k e).2; omega
    · rcases hf.nw k e with x | x
      · exact h3 k x
      · have := bel.size; omega
    · obtain ⟨n', hn, hb⟩ := h4 b n c' e
      obtain ⟨⟨n2, hn2, hb2⟩, _⟩ := hf.hh b n' (h1.lto hb) hb
      exact ⟨n2, Nat.le_trans hn hn2, hb2⟩
    · rcases r.hw with hw | ⟨b, cap, e, hl, hcc⟩
      · exact Or.inl hw
      · obtain ⟨n', hn, hb⟩ := h4 b _ _ e
        obtain ⟨_, hce⟩ := hf.hh b n' (h1.lto hb) hb
        refine Or.inr ⟨b, cap, e, Nat.lt_of_lt_of_le hl hf.kx.size, fun j y hj => (hce j ?_).trans (hcc j y hj)⟩
        have := (List.getElem?_eq_some_iff.1 hj).1
        rw [flat4_len] at this
        omega
end
/-- The blocks beside the moot's, in Replayed: the room, r, s, ok, n. -/
structure RBl where
  rb : Nat
  rx : Nat
  sx : Nat
  ox : Nat
  nx : Nat
def RBl.P (b : RBl) (k : Nat) : Prop := k = b.rb ∨ k = b.rx ∨ k = b.sx ∨ k = b.ox ∨ k = b.nx
structure RBl.Ok (b : RBl) (B : Nat) : Prop where
  lt : ∀ k, b.P k → k < B
  n1 : b.rb ≠ b.sx
  n2 : b.rb ≠ b.nx
  n3 : b.rx ≠ b.sx
  n4 : b.rx ≠ b.nx
  n5 : b.ox ≠ b.sx
  n6 : b.ox ≠ b.nx
  n7 : b.sx ≠ b.nx
/-- How Replayed stands within its range. -/
structure RpI (w : World) (B : Nat) (b : RBl) (mb : Nat) (first : List UInt8) (typed : Nat → Nat) (dels n0 N : Nat) (vd : Value) (h : List Op4) (T : Nat → Prop) (t : List UInt8) (q : Nat) (W : World) : Prop where
  rp : ∃ m, Rp w W (fun k => b.P k ∨ T k) b.rb mb first m typed dels vd h ∧ Good first m typed dels N ∧ m.n = n0
  tx : W.cell? ⟨b.sx, 0, none⟩ = some (dstr t)
  rx : W.cell? ⟨b.rx, 0, none⟩ = some (.pointer (some ⟨b.rb, 0, none⟩))
  ox : W.cell? ⟨b.ox, 0, none⟩ = some (.bool true)
  nx : W.cell? ⟨b.nx, 0, none⟩ = some (.int .i64 (q : Int))
  fr : ∀ k, (k = b.sx ∨ k = b.ox ∨ k = b.nx) → W.frozen? ⟨k, 0, none⟩ = false
  tt : ∀ k, T k → B ≤ k
section
variable {w : World} {B : Nat} {b : RBl} {mb : Nat} {first : List UInt8} {typed : Nat → Nat} {dels n0 N : Nat} {vd : Value} {h : List Op4} {T T' : Nat → Prop} {t : List UInt8} {q : Nat} {W W' : World}
theorem RpI.turn (ok : b.Ok B) (i : RpI w B b mb first typed dels n0 N vd h T t q W) (hB : B ≤ W.heap.size) (ht : TurnT T W W') (hT : ∀ k, T' k → T k ∨ (W.heap.size ≤ k ∧ k < W'.heap.size)) : RpI w B b mb first typed dels n0 N vd h T' t q W' := by
  obtain ⟨⟨m, r, g, hn⟩, tx, rx, ox, nx, fr, tt⟩ := i
  have nb : ∀ k, b.P k → W'.heap[k]? = W.heap[k]? := fun k e => ht.block k (Nat.lt_of_lt_of_le (ok.lt k e) hB) (fun f => by have := tt k f; have := ok.lt k e; omega)
  have p1 : b.P b.rb := Or.inl rfl
  have p2 : b.P b.rx := Or.inr (Or.inl rfl)
  have p3 : b.P b.sx := Or.inr (Or.inr (Or.inl rfl))
  have p4 : b.P b.ox := Or.inr (Or.inr (Or.inr (Or.inl rfl)))
  have p5 : b.P b.nx := Or.inr (Or.inr (Or.inr (Or.inr rfl)))
  refine ⟨⟨m, r.turn (P' := fun k => b.P k ∨ T' k) ht (fun k f => ⟨Or.inr f, fun e => by have := tt k f; have := ok.lt _ p1; omega⟩) (fun k e => ?_) (Or.inl p1), g, hn⟩, (cellB (nb _ p3) _).trans tx, (cellB (nb _ p2) _).trans rx, (cellB (nb _ p4) _).trans ox, (cellB (nb _ p5) _).trans nx, fun k e => (frozenB (nb k ?_) _).trans (fr k e), fun k e => ?_⟩
  · rcases e with e | e
    · exact Or.inl (Or.inl e)
    · exact (hT k e).imp Or.inr id
  · rcases e with rfl | rfl | rfl
    · exact p3
    · exact p4
    · exact p5
  · rcases hT k e with x | x
    · exact tt k x
    · omega
theorem RpI.below (ok : b.Ok B) (i : RpI w B b mb first typed dels n0 N vd h T t q W) (hB : B ≤ W.heap.size) (hb : Below W.heap.size W W') : RpI w B b mb first typed dels n0 N vd h T t q W' := i.turn ok hB (TurnT.of_below hb) (fun _ e => Or.inl e)
theorem RpI.setS (ok : b.Ok B) (i : RpI w B b mb first typed dels n0 N vd h T t q W) (hB : B ≤ W.heap.size) (u : List UInt8) : RpI w B b mb first typed dels n0 N vd h T u q (W.setCell ⟨b.sx, 0, none⟩ (dstr u)) ∧ KeepT T W (W.setCell ⟨b.sx, 0, none⟩ (dstr u)) := by
  obtain ⟨⟨m, r, g, hn⟩, tx, rx, ox, nx, fr, tt⟩ := i
  have p3 : b.P b.sx := Or.inr (Or.inr (Or.inl rfl))
  have kx : KeptX (fun k => k = b.sx) W (W.setCell ⟨b.sx, 0, none⟩ (dstr u)) := (KeptX.refl (fun k => k = b.sx) W).setCell (p := ⟨b.sx, 0, none⟩) (fun _ => rfl) _
  have ht : TurnT (fun k => k = b.sx) W (W.setCell ⟨b.sx, 0, none⟩ (dstr u)) := ⟨kx.os, kx.tape, kx.output, kx.size, kx.block⟩
  have lt : ∀ {k}, b.P k → k < W.heap.size := fun {k} e => Nat.lt_of_lt_of_le (ok.lt k e) hB
  refine ⟨⟨⟨m, r.turn ht (fun k f => ⟨by rw [f]; exact Or.inl p3, fun e => ok.n1 (by rw [← e, f])⟩) (fun k e => Or.inl e) r.pr, g, hn⟩, by simp [go_sem, tx], (kx.cell (p := ⟨b.rx, 0, none⟩) (lt (Or.inr (Or.inl rfl))) ok.n3).trans rx, (kx.cell (p := ⟨b.ox, 0, none⟩) (lt (Or.inr (Or.inr (Or.inr (Or.inl rfl))))) ok.n5).trans ox, (kx.cell (p := ⟨b.nx, 0, none⟩) (lt (Or.inr (Or.inr (Or.inr (Or.inr rfl))))) (fun e => ok.n7 e.symm)).trans nx, fun k e => by rw [World.frozen?_setCell]; exact fr k e, tt⟩, ⟨kx.size, fun k e hl => kx.block k hl (fun f => ?_)⟩⟩
  have h1 := tt k e
  have h2 := ok.lt _ p3
  have h3 : k = b.sx := f
  omega
theorem RpI.setN (ok : b.Ok B) (i : RpI w B b mb first typed dels n0 N vd h T t q W) (hB : B ≤ W.heap.size) : RpI w B b mb first typed dels n0 N vd h T t (q + 1) (W.setCell ⟨b.nx, 0, none⟩ (.int .i64 ((q : Int) + 1))) ∧ KeepT T W (W.setCell ⟨b.nx, 0, none⟩ (.int .i64 ((q : Int) + 1))) := by
  obtain ⟨⟨m, r, g, hn⟩, tx, rx, ox, nx, fr, tt⟩ := i
  have p5 : b.P b.nx := Or.inr (Or.inr (Or.inr (Or.inr rfl)))
  have kx : KeptX (fun k => k = b.nx) W (W.setCell ⟨b.nx, 0, none⟩ (.int .i64 ((q : Int) + 1))) := (KeptX.refl (fun k => k = b.nx) W).setCell (p := ⟨b.nx, 0, none⟩) (fun _ => rfl) _
  have ht : TurnT (fun k => k = b.nx) W (W.setCell ⟨b.nx, 0, none⟩ (.int .i64 ((q : Int) + 1))) := ⟨kx.os, kx.tape, kx.output, kx.size, kx.block⟩
  have lt : ∀ {k}, b.P k → k < W.heap.size := fun {k} e => Nat.lt_of_lt_of_le (ok.lt k e) hB
  refine ⟨⟨⟨m, r.turn ht (fun k f => ⟨by rw [f]; exact Or.inl p5, fun e => ok.n2 (by rw [← e, f])⟩) (fun k e => Or.inl e) r.pr, g, hn⟩, (kx.cell (p := ⟨b.sx, 0, none⟩) (lt (Or.inr (Or.inr (Or.inl rfl)))) ok.n7).trans tx, (kx.cell (p := ⟨b.rx, 0, none⟩) (lt (Or.inr (Or.inl rfl))) ok.n4).trans rx, (kx.cell (p := ⟨b.ox, 0, none⟩) (lt (Or.inr (Or.inr (Or.inr (Or.inl rfl))))) ok.n6).trans ox, by simp [go_sem, nx], fun k e => by rw [World.frozen?_setCell]; exact fr k e, tt⟩, ⟨kx.size, fun k e hl => kx.block k hl (fun f => ?_)⟩⟩
  have h1 := tt k e
  have h2 := ok.lt _ p5
  have h3 : k = b.nx := f
  omega
theorem RpI.up (ok : b.Ok B) (i : RpI w B b mb first typed dels n0 N vd h T t q W) (hB : B ≤ W.heap.size) (hN : (N + 1) * 48 ≤ 140737488355328) {c : Nat} (hc : c < n0) :
    Calls Try.prog 25 #[.pointer (some ⟨mb, 0, none⟩), .int .i64 (c : Int)] W fun e w' => (∃ z, e = .returned (.int .i64 z)) ∧ Hid (RpI w B b mb first typed dels n0 N vd h T t q w' ∧ KeepT T W w') := by
  obtain ⟨⟨m, r, g, hn⟩, tx, rx, ox, nx, fr, tt⟩ := i
  refine (r.up g hN (c := c) (by rw [hn]; exact hc)).mono ?_
  rintro e w' ⟨⟨z, rfl⟩, m', hn', g', r', ks, kk⟩
  have nb : ∀ k, b.P k → w'.heap[k]? = W.heap[k]? := fun k e => kk k (Or.inl e)
  refine ⟨⟨_, rfl⟩, ⟨⟨m', r', g', hn'.trans hn⟩, (cellB (nb _ (Or.inr (Or.inr (Or.inl rfl)))) _).trans tx, (cellB (nb _ (Or.inr (Or.inl rfl))) _).trans rx, (cellB (nb _ (Or.inr (Or.inr (Or.inr (Or.inl rfl))))) _).trans ox, (cellB (nb _ (Or.inr (Or.inr (Or.inr (Or.inr rfl))))) _).trans nx, fun k e => (frozenB (nb k ?_) _).trans (fr k e), tt⟩, ⟨ks, fun k e _ => kk k (Or.inr e)⟩⟩
  rcases e with rfl | rfl | rfl
  · exact Or.inr (Or.inr (Or.inl rfl))
  · exact Or.inr (Or.inr (Or.inr (Or.inl rfl)))
  · exact Or.inr (Or.inr (Or.inr (Or.inr rfl)))
end
end Go.Proofs.Ytabahmcbhapbiaa
namespace Go.Proofs.Ytabahmcbhapbiaa
open Go.RowKit Go.Lib Go.Shelf
set_option linter.unusedVariables false
attribute [local go_sem] Oper.semAt_some
/-- What a body must achieve that never panics. -/
def postM (fn : Func) (R : Ending → World → Prop) : Exit → Act → World → Prop
  | .normal, a, w | .ret, a, w => LeavesInM Fence.wide 0 Try.prog fn a.tmps R a.defers .returning w
  | _, _, _ => False
theorem postM_body {fn : Func} {R : Ending → World → Prop} : ∀ e a w, postM fn R e a w → bodyPostM Fence.wide 0 Try.prog fn R e a w
  | .normal, _, _, h | .ret, _, _, h => h
  | .panic _, _, _, h => h.elim
  | .outgrown, _, _, h => h.elim
  | .exit _, _, _, h => h.elim
  | .goto _, _, _, h => h.elim
theorem add_off (a : Addr) (i : Nat) {k : Nat} (hk : k ≠ 0) : a.add (i + k) = ⟨(a.add i).block, (a.add i).off + k, none⟩ := by
  rw [← Deep.add_add]
  generalize a.add i = p
  simp [Addr.add, hk]
/-- What has come makes this text. -/
def RpJ (w : World) (B : Nat) (b : RBl) (mb : Nat) (first : List UInt8) (typed : Nat → Nat) (dels n0 N : Nat) (vd : Value) (h : List Op4) (T : Nat → Prop) (pre : List Op4) (W : World) : Prop :=
  B ≤ W.heap.size ∧ ∃ t, apps first pre = some t ∧ RpI w B b mb first typed dels n0 N vd h T t pre.length W
theorem RpJ.stable {w : World} {B : Nat} {b : RBl} {mb : Nat} {first : List UInt8} {typed : Nat → Nat} {dels n0 N : Nat} {vd : Value} {h : List Op4} (ok : b.Ok B) : Stable (RpJ w B b mb first typed dels n0 N vd h) := fun T T' s W W' hi ht hT => by
  obtain ⟨hB, t, h1, h2⟩ := hi
  exact ⟨Nat.le_trans hB ht.size, t, h1, h2.turn ok hB ht hT⟩
/-- An op that does not fit came. -/
def RpX (first : List UInt8) (xs : List Op4) : Prop := ∃ pre x t, xs = pre ++ [x] ∧ apps first pre = some t ∧ okA ⟨t.toArray⟩ x.k x.p x.b x.s = false
theorem rpX_no {first : List UInt8} {m : Moo} (hI : Inv first m) {xs : List Op4} (hp : xs <+: m.hist) : ¬ RpX first xs := by
  rintro ⟨pre, x, t, rfl, h1, h2⟩
  obtain ⟨r, hr⟩ := hp
  have hs := hI.srv
  rw [← hr] at hs
  obtain ⟨v, hv, _⟩ := apps_prefix hs
  rw [apps_append, h1] at hv
  have hx : app t x = some v := by
    have e : apps t [x] = some v := hv
    simp only [apps] at e
    cases hx : app t x with
    | none => rw [hx] at e; cases e
    | some y => rw [hx] at e; exact e
  obtain ⟨w1, _, w3⟩ := hI.hw x (by rw [← hr]; simp)
  obtain ⟨_, hf⟩ := doneS_app w1 hx
  have hsz := dstr_size t
  unfold okA at h2
  rw [wf_right w1 (by omega), hsz, hf] at h2
  cases h2
/-- A region whose order is drawn, by a word on what has been done. -/
theorem anyIn_walk {F : Fence} {n : Nat} {P : Program} {md : Region.Mode} {ops : Array Oper} {Q : Exit → Act → World → Prop} {I : Nat → Array Bool → Act → World → Prop} (h0 : ∀ listed a w, ¬ I 0 listed a w) (hne : ∀ f listed a w, I (f + 1) listed a w → Region.ready md ops listed ≠ [])
    (hs : ∀ f listed a w i, I (f + 1) listed a w → i ∈ Region.ready md ops listed → ∀ K : Act → World → Prop, (∀ a' w', (I f (listed.setIfInBounds i true) a' w' ∨ (Region.ready md ops (listed.setIfInBounds i true) = [] ∧ Q .normal a' w')) → K a' w') → wpOpIn F n P ops Q i K a w) :
    ∀ f listed a w, I f listed a w → wpAnyIn F n P md ops Q f listed a w
  | 0, listed, a, w, h => (h0 _ _ _ h).elim
  | f + 1, listed, a, w, h => ⟨fun e => (hne _ _ _ _ h e).elim, fun i hi => hs f listed a w i h hi _ (fun a' w' h' => h'.elim (anyIn_walk h0 hne hs f _ a' w') (fun x => wpAnyIn_done x.1 x.2 f))⟩
/-- Each read behind those that it waits for. -/
def clo (b0 b1 b2 b3 b4 b5 b6 b7 b8 b9 : Bool) : Bool := (!b1 || b0) && (!b2 || b1) && (!b3 || b2) && (!b6 || b5) && (!b7 || b6) && (!b8 || b7) && (!b9 || (b4 && b8))
theorem clo_0 : ∀ b1 b2 b3 b4 b5 b6 b7 b8 b9 : Bool, clo false b1 b2 b3 b4 b5 b6 b7 b8 b9 = true → clo true b1 b2 b3 b4 b5 b6 b7 b8 b9 = true := by decide +kernel
theorem clo_1 : ∀ b2 b3 b4 b5 b6 b7 b8 b9 : Bool, clo true false b2 b3 b4 b5 b6 b7 b8 b9 = true → clo true true b2 b3 b4 b5 b6 b7 b8 b9 = true := by decide +kernel
theorem clo_2 : ∀ b0 b3 b4 b5 b6 b7 b8 b9 : Bool, clo b0 true false b3 b4 b5 b6 b7 b8 b9 = true → clo b0 true true b3 b4 b5 b6 b7 b8 b9 = true := by decide +kernel
theorem clo_3 : ∀ b0 b1 b4 b5 b6 b7 b8 b9 : Bool, clo b0 b1 true false b4 b5 b6 b7 b8 b9 = true → clo b0 b1 true true b4 b5 b6 b7 b8 b9 = true := by decide +kernel
theorem clo_4 : ∀ b0 b1 b2 b3 b5 b6 b7 b8 b9 : Bool, clo b0 b1 b2 b3 false b5 b6 b7 b8 b9 = true → clo b0 b1 b2 b3 true b5 b6 b7 b8 b9 = true := by decide +kernel
theorem clo_5 : ∀ b0 b1 b2 b3 b4 b6 b7 b8 b9 : Bool, clo b0 b1 b2 b3 b4 false b6 b7 b8 b9 = true → clo b0 b1 b2 b3 b4 true b6 b7 b8 b9 = true := by decide +kernel
theorem clo_6 : ∀ b0 b1 b2 b3 b4 b7 b8 b9 : Bool, clo b0 b1 b2 b3 b4 true false b7 b8 b9 = true → clo b0 b1 b2 b3 b4 true true b7 b8 b9 = true := by decide +kernel
theorem clo_7 : ∀ b0 b1 b2 b3 b4 b5 b8 b9 : Bool, clo b0 b1 b2 b3 b4 b5 true false b8 b9 = true → clo b0 b1 b2 b3 b4 b5 true true b8 b9 = true := by decide +kernel
theorem clo_8 : ∀ b0 b1 b2 b3 b4 b5 b6 b9 : Bool, clo b0 b1 b2 b3 b4 b5 b6 true false b9 = true → clo b0 b1 b2 b3 b4 b5 b6 true true b9 = true := by decide +kernel
theorem clo_9 : ∀ b0 b1 b2 b3 b5 b6 b7 : Bool, clo b0 b1 b2 b3 true b5 b6 b7 true false = true → clo b0 b1 b2 b3 true b5 b6 b7 true true = true := by decide +kernel
theorem clo_fin : ∀ b0 b1 b2 b4 b5 b6 b7 b8 : Bool, clo b0 b1 b2 true b4 b5 b6 b7 b8 true = true → b0 = true ∧ b1 = true ∧ b2 = true ∧ b4 = true ∧ b5 = true ∧ b6 = true ∧ b7 = true ∧ b8 = true := fun b0 b1 b2 b4 b5 b6 b7 b8 => by cases b0 <;> cases b1 <;> cases b2 <;> cases b4 <;> cases b5 <;> cases b6 <;> cases b7 <;> cases b8 <;> simp [clo]
/-- The range begins. -/
theorem rp_start {w wr W7 : World} {rb rx mb : Nat} {ft : List UInt8} {m : Moo} {ty : Nat → Nat} {d N : Nat} (hr : Rm w wr (fun x => x = rb ∨ x = rx) rb mb ft m ty d) (g : Good ft m ty d N) (hN : N ≤ 1000000000000000) (hne : rb ≠ rx) (hx : wr.cell? ⟨rx, 0, none⟩ = some (.pointer (some ⟨rb, 0, none⟩)))
    (hW7 : W7 = (((wr.alloc (.cells #[.pointer (some ⟨mb, 0, none⟩)] 44)).alloc (.cells #[dstr ft] 9)).alloc (.cells #[.bool true] 4)).alloc (.cells #[.int .i64 0] 3)) :
    ∃ vd, SeqT Try.prog 41 #[.pointer (some ⟨wr.heap.size, 0, none⟩)] enc4 (HistW vd m.hist) (fun xs => xs = m.hist) (fun pre => pre <+: m.hist) m.hist.length W7 ∧
      RpJ w W7.heap.size ⟨rb, rx, wr.heap.size + 1, wr.heap.size + 1 + 1, wr.heap.size + 1 + 1 + 1⟩ mb ft ty d m.n N vd m.hist (fun _ => False) [] W7 ∧ RBl.Ok ⟨rb, rx, wr.heap.size + 1, wr.heap.size + 1 + 1, wr.heap.size + 1 + 1 + 1⟩ W7.heap.size := by
  have hb7 : Below wr.heap.size wr W7 := by rw [hW7]; exact bel_alloc (bel_alloc (bel_alloc (bel_alloc (Below.refl _ _) _) _) _) _
  have hz : W7.heap.size = wr.heap.size + 4 := by rw [hW7]; simp
  have lr := hr.ra.lt
  have lx := (hr.ge rx (Or.inr rfl)).2
  have cb : W7.cell? ⟨wr.heap.size, 0, none⟩ = some (.pointer (some ⟨mb, 0, none⟩)) := by rw [hW7]; simp [go_sem]
  have cs : W7.cell? ⟨wr.heap.size + 1, 0, none⟩ = some (dstr ft) := by rw [hW7]; simp [go_sem]
  have co : W7.cell? ⟨wr.heap.size + 1 + 1, 0, none⟩ = some (.bool true) := by rw [hW7]; simp [go_sem]
  have cn : W7.cell? ⟨wr.heap.size + 1 + 1 + 1, 0, none⟩ = some (.int .i64 0) := by rw [hW7]; simp [go_sem]
  have fs : W7.frozen? ⟨wr.heap.size + 1, 0, none⟩ = false := by rw [hW7]; simp [go_sem]
  have fo : W7.frozen? ⟨wr.heap.size + 1 + 1, 0, none⟩ = false := by rw [hW7]; simp [go_sem]
  have fn : W7.frozen? ⟨wr.heap.size + 1 + 1 + 1, 0, none⟩ = false := by rw [hW7]; simp [go_sem]
  have r7 := hr.below hb7
  obtain ⟨⟨L, own, d1, d2, d3⟩, _⟩ := hr
  have rm : Rm w W7 (fun k => RBl.P ⟨rb, rx, wr.heap.size + 1, wr.heap.size + 1 + 1, wr.heap.size + 1 + 1 + 1⟩ k ∨ False) rb mb ft m ty d := by
    refine ⟨⟨L, own, d1.below hb7, fun k e => ?_, d3⟩, r7.ra, Or.inl (Or.inl rfl), fun k e => ?_, r7.bel⟩
    · rcases e with e | e
      · rcases e with e | e | e | e | e
        · exact d2 k (Or.inl e)
        · exact d2 k (Or.inr e)
        · exact d1.fresh (by have : k = wr.heap.size + 1 := e; omega)
        · exact d1.fresh (by have : k = wr.heap.size + 1 + 1 := e; omega)
        · exact d1.fresh (by have : k = wr.heap.size + 1 + 1 + 1 := e; omega)
      · exact e.elim
    · have h1 := r7.ge rb (Or.inl rfl)
      rcases e with e | e
      · rcases e with e | e | e | e | e
        · exact r7.ge k (Or.inl e)
        · exact r7.ge k (Or.inr e)
        · have : k = wr.heap.size + 1 := e; omega
        · have : k = wr.heap.size + 1 + 1 := e; omega
        · have : k = wr.heap.size + 1 + 1 + 1 := e; omega
      · exact e.elim
  obtain ⟨vb, vd, c0, c1, l0, l1, rp⟩ := Rp.of rm
  have hlen : m.hist.length ≤ 1000000000000000 := by have := g.tot; omega
  refine ⟨vd, history_stops wr.heap.size mb vb vd m.hist hlen W7 (by omega) l0 l1 cb c0 c1, ⟨Nat.le_refl _, ft, rfl, ⟨m, rp, g, rfl⟩, cs, (hb7.cell (p := ⟨rx, 0, none⟩) lx).trans hx, co, cn, fun k e => ?_, fun k e => e.elim⟩, ⟨fun k e => ?_, by show rb ≠ wr.heap.size + 1; omega, by show rb ≠ wr.heap.size + 1 + 1 + 1; omega, by show rx ≠ wr.heap.size + 1; omega, by show rx ≠ wr.heap.size + 1 + 1 + 1; omega, by show wr.heap.size + 1 + 1 ≠ wr.heap.size + 1; omega, by show wr.heap.size + 1 + 1 ≠ wr.heap.size + 1 + 1 + 1; omega, by show wr.heap.size + 1 ≠ wr.heap.size + 1 + 1 + 1; omega⟩⟩
  · rcases e with rfl | rfl | rfl
    · exact fs
    · exact fo
    · exact fn
  · exact (rm.ge k (Or.inl e)).2
set_option maxRecDepth 100000 in
set_option maxHeartbeats 8000000 in
theorem replayed_any (cl : Int) (hcl : I64 cl) (u : List UInt8) (hu : u.length ≤ 200000000000000) (sa : Option Addr) (n cap : Nat) (f : Nat → SRec) (w : World) (hs : ScriptAt w sa n f) :
    Calls Try.prog 10 #[.int .i64 cl, dstr u, .slice sa n cap] w fun e w' => e = .returned (.bool true) ∧ Below w.heap.size w w' := by
  have HO := hidP (opened_any cl hcl u hu w)
  have hbig : n ≤ 3000000000000 := by have := hs.1; omega
  have hbigi : (n : Int) ≤ 3000000000000 := by omega
  have HS := hidP hs
  clear hs hu hcl
  refine (callsIn_wide (n := 0)).1 (callsIn_of_wp_marks Try.func10 rfl trivial (wpIn_wide.2 (Code.wp_mono postM_body ?_)) rfl)
  simp only [Try.ntmps10, List.size_toArray, List.length_cons, List.length_nil, Nat.reduceAdd, Nat.reduceSub, Array.replicate_succ, Array.replicate_zero, List.push_toArray, List.append_toArray, List.nil_append, List.cons_append]
  go_wp2_with fail
  refine HO.out.mono ?_
  rintro e w1 ⟨rb, mb, ft, m0, ty0, rfl, hr0⟩
  clear HO
  have hbx : Below w1.heap.size w1 (w1.alloc (.cells #[.pointer (some ⟨rb, 0, none⟩)] 39)) := bel_alloc (Below.refl _ _) _
  have HR0 := hidP (And.intro (hr0.1.add hbx (Nat.le_refl _) (by simp)) (And.intro hr0.2 (show (w1.alloc (.cells #[.pointer (some ⟨rb, 0, none⟩)] 39)).cell? ⟨w1.heap.size, 0, none⟩ = some (.pointer (some ⟨rb, 0, none⟩)) by simp [go_sem])))
  have hrne : rb ≠ w1.heap.size := by have := hr0.1.ra.lt; omega
  clear hr0 hbx
  go_wp2_with fail
  go_loopw [8] (fun i wr => ∃ (j : Nat) (m : Moo) (ty : Nat → Nat) (d : Nat), j ≤ n ∧ i = .int .i64 (j : Int) ∧ Rm w wr (fun x => x = rb ∨ x = w1.heap.size) rb mb ft m ty d ∧ Good ft m ty d j ∧ wr.cell? ⟨w1.heap.size, 0, none⟩ = some (.pointer (some ⟨rb, 0, none⟩))) (fun i _ => n - (RowKit.intOf i).toNat)
  case atStart => exact ⟨0, m0, ty0, 0, Nat.zero_le _, rfl, HR0.out.1, HR0.out.2.1, HR0.out.2.2⟩
  case round =>
    obtain ⟨j, m, ty, d, hjn, rfl, hrm, hgd, hrx⟩ := hrel
    clear HR0
    by_cases hlt : j < n
    · have hlt' : (j : Int) < (n : Int) := by omega
      have hsc := HS.out.below hrm.bel
      obtain ⟨hok, a, rfl, c0, c1, c2, c3, c4, c5⟩ := hsc.2 j hlt
      obtain ⟨o1, o2, o3, o4, o5⟩ := hok
      have HST := hidP (fun Wx (hx : Below wr.heap.size wr Wx) => kstep_any (hrm.below hx) hgd (by have := hsc.1; omega) (f j).kd (f j).who (f j).xk (f j).xp (f j).xb (f j).xs o1 o2 o3 o4 o5)
      have HRX : Hid (∀ Wx w2, Below wr.heap.size wr Wx → Kp (fun k => (k = rb ∨ k = w1.heap.size) ∧ k ≠ rb) Wx w2 → w2.cell? ⟨w1.heap.size, 0, none⟩ = some (.pointer (some ⟨rb, 0, none⟩))) := fun Wx w2 hx hk => ((hk _ ⟨Or.inr rfl, fun e => hrne e.symm⟩ 0).1).trans ((hx.cell (p := ⟨w1.heap.size, 0, none⟩) (hrm.ge _ (Or.inr rfl)).2).trans hrx)
      clear hsc o1 o2 o3 o4 o5 hrm hgd
      generalize f j = r at *
      rw [add_off _ _ (by omega)] at c1 c2 c3 c4 c5
      go_wp2_with fail
      go_region_with ((go_at_call 19; refine (HST.out _ (by repeat (first | exact Below.refl _ _ | apply Below.drew | refine bel_alloc ?_ _))).mono ?_; rintro e w2 ⟨rfl, m2, ty2, d2, hrm, hgd, -, hkp⟩; have HF := hidP (And.intro hrm (And.intro hgd (HRX.out _ _ (by repeat (first | exact Below.refl _ _ | apply Below.drew | refine bel_alloc ?_ _)) hkp))); clear hrm hgd hkp))
      all_goals go_wp2_with fail
      all_goals exact ⟨⟨j + 1, _, _, _, by omega, by go_num, HF.out.1, HF.out.2.1, HF.out.2.2⟩, by simp [RowKit.intOf]; omega⟩
    · have hje : j = n := by omega
      subst hje
      have hnb := HS.out.1
      have p0 := hrm.ra.c0
      have p2 := hrm.ra.c2
      have lr := hrm.ra.lt
      have lx := (hrm.ge _ (Or.inr rfl)).2
      have HT := hidP (fun Wx (hx : Below wr.heap.size wr Wx) => rm_srv (hrm.below hx))
      have HHis := hidP (fun Wx => history_any (some ⟨mb, 0, none⟩) Wx)
      have HRM := hidP (And.intro hrm hgd)
      clear hrm hgd
      go_wp2_with fail
      refine (HT.out _ (by repeat (first | exact Below.refl _ _ | apply Below.drew | refine bel_alloc ?_ _))).mono ?_
      rintro e w3 ⟨rfl, rfl⟩
      go_wp2_with fail
      refine (HHis.out _).mono ?_
      rintro e w4 ⟨rfl, rfl⟩
      have hfn := func_nil
      go_wp2_with fail
      have hst := rp_start HRM.out.1 HRM.out.2 (by omega) hrne hrx rfl
      generalize hW7 : World.alloc _ _ = W7 at *
      obtain ⟨vd, hsq, hj0, hbk⟩ := hst
      have hn1 := HRM.out.2.inv.n1
      have hn4 := HRM.out.2.inv.n4
      have HI := hidP HRM.out.2.inv
      generalize hA0 : (Act.mk _ _) = A0
      refine (wpIn_wide (n := 0)).1 ?_
      refine range_T (P := Try.prog) (gf := 41) (lb := #[.pointer (some ⟨wr.heap.size, 0, none⟩)]) (by rw [← hA0]; rfl) (enters_of Try.func41 (by kernel_rfl) rfl) hsq (Below.refl _ _) (fun _ => rfl) (RpJ w W7.heap.size ⟨rb, w1.heap.size, wr.heap.size + 1, wr.heap.size + 1 + 1, wr.heap.size + 1 + 1 + 1⟩ mb ft ty d m.n j vd m.hist) (fun _ _ xs _ => RpX ft xs) (RpJ.stable hbk) (fun _ _ _ _ _ _ h _ _ => h) (fun T pre W1 hi => ?_) hj0
        (fun x a' T W => ∃ bx, a' = { tmps := (A0.tmps.setIfInBounds 58 (.agg #[.int .i64 x.k, .int .i64 x.p, .int .i64 x.b, .int .i64 x.s])).setIfInBounds 16 (.pointer (some ⟨bx, 0, none⟩)), defers := [] } ∧ Op4At W bx 0 x ∧ bx < W.heap.size ∧ ¬ T bx ∧ W7.heap.size ≤ bx) (fun x a' T A B hx ht => ?_) ?assign ?body ?done ?stop
      · obtain ⟨_, t, _, i⟩ := hi
        obtain ⟨m', r, _⟩ := i.rp
        exact r.hw
      · obtain ⟨bx, e, h1, h2, h3, h4⟩ := hx
        exact ⟨bx, e, op4at_turnT ht h2 h3 h1, Nat.lt_of_lt_of_le h2 ht.size, h3, h4⟩
      case stop => exact fun D c T pre W hD tD hT hp hx hK => absurd hx (rpX_no HI.out hp)
      case assign =>
        intro l2 T pre x A K hi hl hT hK
        subst hA0
        dsimp only [enc4]
        gi_wp2
        refine hK _ _ (bel_alloc (Below.refl _ _) _) ⟨A.heap.size, ?_, op4at_new A x _, by simp, fun e => by have := hT _ e; omega, hi.1⟩
        first | rfl | simp
      case body =>
        intro l2 T pre x a' A hl hT hi hx hlt8
        obtain ⟨bx, rfl, ⟨z0, z1, z2, z3⟩, h2, h3, h4⟩ := hx
        subst hA0
        obtain ⟨hB, t, hap, hi⟩ := hi
        have s0 : A.cell? ⟨wr.heap.size + 1, 0, none⟩ = some (dstr t) := hi.tx
        have hfo : A.frozen? ⟨wr.heap.size + 1 + 1, 0, none⟩ = false := hi.fr _ (Or.inr (Or.inl rfl))
        have ho0 : A.cell? ⟨wr.heap.size + 1 + 1, 0, none⟩ = some (.bool true) := hi.ox
        have hls : wr.heap.size + 1 < A.heap.size := Nat.lt_of_lt_of_le (hbk.lt _ (Or.inr (Or.inr (Or.inl rfl)))) hB
        have hlo : wr.heap.size + 1 + 1 < A.heap.size := Nat.lt_of_lt_of_le (hbk.lt _ (Or.inr (Or.inr (Or.inr (Or.inl rfl))))) hB
        have hlen : t.length ≤ 100000000000000 := by
          have a1 := apps_grow hap
          have a2 := (grow_le pre).2
          have a3 := HI.out.f60
          have a4 := HRM.out.2.tot
          omega
        have htt := hi.tt
        cases hok : okA ⟨t.toArray⟩ x.k x.p x.b x.s with
        | false =>
          have HA : Hid (∀ Wx, Calls Try.prog 16 #[dstr t, .agg #[.int .i64 x.k, .int .i64 x.p, .int .i64 x.b, .int .i64 x.s]] Wx fun e w' => e = .returned (.tuple #[.string ⟨#[]⟩, .int .i64 2]) ∧ Below Wx.heap.size Wx w') := fun Wx => by
            have h := mootApply_any ⟨t.toArray⟩ x.k x.p x.b x.s (by rw [dstr_size]; omega) Wx
            rw [apply_no hok] at h
            exact h
          gi_wp2
          refine ⟨trivial, rfl, (CallsIn.inRound l2 (callsIn_wide.2 (HA.out _))).mono ?_⟩
          rintro e v1 ⟨rfl, hb1⟩
          have ho1 := (hb1.cell (p := ⟨wr.heap.size + 1 + 1, 0, none⟩) hlo).trans ho0
          have hf1 := (hb1.frozen (p := ⟨wr.heap.size + 1 + 1, 0, none⟩) hlo).trans hfo
          have HB1 := hidP hb1
          clear hb1
          gi_wp2
          refine ⟨(KeepT.of_below HB1.out).trans ⟨by simp [World.setCell], fun k e hk => Below.heap_setCell _ _ _ _ (fun e2 => ?_)⟩, pre, x, t, rfl, hap, hok⟩
          have a1 := htt k e
          have a2 : wr.heap.size + 1 + 1 < W7.heap.size := hbk.lt _ (Or.inr (Or.inr (Or.inr (Or.inl rfl))))
          have a3 : k = wr.heap.size + 1 + 1 := e2
          omega
        | true =>
          have hok2 : rightB x.k x.p x.b x.s = true ∧ fitsB (t.length : Int) x.k x.p = true := by
            unfold okA at hok
            rw [dstr_size] at hok
            simpa using hok
          obtain ⟨u, hu⟩ := fits_app (t := t) (o := x) hok2.1 hok2.2
          have hap2 : apps ft (pre ++ [x]) = some u := by
            rw [apps_append, hap]
            show apps t [x] = some u
            simp [apps, hu]
          have HA := hidP (fun Wx => apply_app hok2.1 hu hlen Wx)
          clear hok hok2
          gi_wp2
          refine ⟨trivial, rfl, (CallsIn.inRound l2 (callsIn_wide.2 (HA.out _))).mono ?_⟩
          rintro e v1 ⟨rfl, hb1⟩
          have hB1 : W7.heap.size ≤ v1.heap.size := Nat.le_trans hB hb1.size
          have i1 := hi.below hbk hB hb1
          have s1 : v1.cell? ⟨wr.heap.size + 1, 0, none⟩ = some (dstr t) := i1.tx
          have f1 : v1.frozen? ⟨wr.heap.size + 1, 0, none⟩ = false := i1.fr _ (Or.inl rfl)
          have i2 := i1.setS hbk hB1 u
          have K1 := hidP (KeepT.of_below (T := T) hb1)
          have I2 := hidP i2
          obtain ⟨V2, hV2⟩ : ∃ V2, V2 = v1.setCell ⟨wr.heap.size + 1, 0, none⟩ (dstr u) := ⟨_, rfl⟩
          have hB2 : W7.heap.size ≤ V2.heap.size := by rw [hV2]; simpa [World.setCell] using hB1
          have i3 : RpI w W7.heap.size ⟨rb, w1.heap.size, wr.heap.size + 1, wr.heap.size + 1 + 1, wr.heap.size + 1 + 1 + 1⟩ mb ft ty d m.n j vd m.hist T u pre.length V2 := by rw [hV2]; exact i2.1
          have K2k : Hid (KeepT T A V2) := by rw [hV2]; exact K1.out.trans I2.out.2
          obtain ⟨m', r', g', hn'⟩ := i3.rp
          have e0 := r'.ra.c0
          have e1 := r'.ra.c1
          rw [hn'] at e1
          have e2 : V2.cell? ⟨w1.heap.size, 0, none⟩ = some (.pointer (some ⟨rb, 0, none⟩)) := i3.rx
          have e3 : V2.cell? ⟨wr.heap.size + 1 + 1 + 1, 0, none⟩ = some (.int .i64 (pre.length : Int)) := i3.nx
          have hpl : pre.length < 3000000000000 := by have := HRM.out.2.tot; omega
          have hmod := Nat.mod_lt pre.length (show 0 < m.n by omega)
          have hmi : (pre.length : Int) % (m.n : Int) = ((pre.length % m.n : Nat) : Int) := by omega
          obtain ⟨qi, hqi⟩ : ∃ qi : Int, qi = (pre.length : Int) := ⟨_, rfl⟩
          obtain ⟨ni, hni⟩ : ∃ ni : Int, ni = (m.n : Int) := ⟨_, rfl⟩
          rw [← hqi] at e3
          rw [← hni] at e1
          have hq0 : 0 ≤ qi := by omega
          have hqb : qi < 3000000000000 := by omega
          have hnz : ¬ (ni = 0) := by omega
          have hn1i : 1 ≤ ni := by omega
          have hn4i : ni ≤ 4 := by omega
          have HU : Hid (∀ Wx, Below V2.heap.size V2 Wx → Calls Try.prog 25 #[.pointer (some ⟨mb, 0, none⟩), .int .i64 (qi % ni)] Wx fun e w' => (∃ z, e = .returned (.int .i64 z)) ∧ Hid (RpI w W7.heap.size ⟨rb, w1.heap.size, wr.heap.size + 1, wr.heap.size + 1 + 1, wr.heap.size + 1 + 1 + 1⟩ mb ft ty d m.n j vd m.hist T u pre.length w' ∧ KeepT T V2 w')) := fun Wx hx => by
            rw [hqi, hni, hmi]
            refine ((i3.below hbk hB2 hx).up hbk (Nat.le_trans hB2 hx.size) (by omega) hmod).mono ?_
            rintro e w' ⟨hz, h1, h2⟩
            exact ⟨hz, h1, (KeepT.of_below hx).trans h2⟩
          have Hqi := hidP hqi
          clear hqi hni hmi hmod
          have HV2 := hidP hV2
          clear hb1 i1 i2 i3 hV2 r' g'
          have hmx : Try.prog.follows .mixedOrders = true := by kernel_rfl
          gi_wp2
          rw [← HV2.out]
          generalize hA1 : (Act.mk _ _) = A1
          refine wpIn_region_any hmx ?_
          refine anyIn_walk (I := (fun f listed a v => ∃ (b0 b1 b2 b3 b4 b5 b6 b7 b8 b9 : Bool), listed = #[b0, b1, b2, b3, b4, b5, b6, b7, b8, b9, false] ∧ f = 1 + (!b0).toNat + (!b1).toNat + (!b2).toNat + (!b3).toNat + (!b4).toNat + (!b5).toNat + (!b6).toNat + (!b7).toNat + (!b8).toNat + (!b9).toNat ∧ clo b0 b1 b2 b3 b4 b5 b6 b7 b8 b9 = true ∧ v = V2.drew ∧ a = { tmps := ((((((((((A1.tmps.setIfInBounds 68 (if b0 = true then .pointer (some ⟨rb, 0, none⟩) else A1.tmps.getD 68 undef)).setIfInBounds 69 (if b1 = true then .pointer (some ⟨rb, 0, none⟩) else A1.tmps.getD 69 undef)).setIfInBounds 70 (if b2 = true then .pointer (some ⟨rb, 0, none⟩) else A1.tmps.getD 70 undef)).setIfInBounds 71 (if b3 = true then .pointer (some ⟨mb, 0, none⟩) else A1.tmps.getD 71 undef)).setIfInBounds 72 (if b4 = true then .int .i64 qi else A1.tmps.getD 72 undef)).setIfInBounds 73 (if b5 = true then .pointer (some ⟨rb, 0, none⟩) else A1.tmps.getD 73 undef)).setIfInBounds 74 (if b6 = true then .pointer (some ⟨rb, 0, none⟩) else A1.tmps.getD 74 undef)).setIfInBounds 75 (if b7 = true then .pointer (some ⟨rb, 1, none⟩) else A1.tmps.getD 75 undef)).setIfInBounds 76 (if b8 = true then .int .i64 ni else A1.tmps.getD 76 undef)).setIfInBounds 77 (if b9 = true then .int .i64 (qi % ni) else A1.tmps.getD 77 undef)), defers := [] })) (fun listed a v => ?_) (fun f listed a v => ?_) (fun f listed a v i => ?_) _ _ _ _ ?_
          · rintro ⟨b0, b1, b2, b3, b4, b5, b6, b7, b8, b9, _, e, _⟩
            omega
          · rintro ⟨b0, b1, b2, b3, b4, b5, b6, b7, b8, b9, rfl, h1, h2, h3, h4⟩
            clear h1 h2 h3 h4
            revert b0 b1 b2 b3 b4 b5 b6 b7 b8 b9
            decide +kernel
          · rintro ⟨b0, b1, b2, b3, b4, b5, b6, b7, b8, b9, rfl, hf, hcl, rfl, rfl⟩ hi K hK
            rw [Region.ready, List.mem_filter, List.mem_range] at hi
            obtain ⟨hil, hic⟩ := hi
            have hi11 : i = 0 ∨ i = 1 ∨ i = 2 ∨ i = 3 ∨ i = 4 ∨ i = 5 ∨ i = 6 ∨ i = 7 ∨ i = 8 ∨ i = 9 ∨ i = 10 := by
              simp at hil
              omega
            subst hA1
            rcases hi11 with rfl | rfl | rfl | rfl | rfl | rfl | rfl | rfl | rfl | rfl | rfl
            · simp [Region.binds] at hic
              obtain rfl := hic
              refine wpOpIn_step rfl (fun K2 hK2 => ?_)
              go_simp
              refine hK2 _ _ (hK _ _ (Or.inl ⟨true, b1, b2, b3, b4, b5, b6, b7, b8, b9, by simp, ?_, clo_0 b1 b2 b3 b4 b5 b6 b7 b8 b9 hcl, rfl, ?_⟩))
              · simp only [Bool.not_false, Bool.not_true, Bool.toNat_true, Bool.toNat_false] at hf ⊢
                omega
              · simp
            · simp [Region.binds] at hic
              obtain ⟨rfl, rfl⟩ := hic
              refine wpOpIn_step rfl (fun K2 hK2 => ?_)
              go_simp
              refine hK2 _ _ (hK _ _ (Or.inl ⟨true, true, b2, b3, b4, b5, b6, b7, b8, b9, by simp, ?_, clo_1 b2 b3 b4 b5 b6 b7 b8 b9 hcl, rfl, ?_⟩))
              · simp only [Bool.not_false, Bool.not_true, Bool.toNat_true, Bool.toNat_false] at hf ⊢
                omega
              · simp
            · simp [Region.binds] at hic
              obtain ⟨rfl, rfl⟩ := hic
              refine wpOpIn_step rfl (fun K2 hK2 => ?_)
              go_simp
              refine hK2 _ _ (hK _ _ (Or.inl ⟨b0, true, true, b3, b4, b5, b6, b7, b8, b9, by simp, ?_, clo_2 b0 b3 b4 b5 b6 b7 b8 b9 hcl, rfl, ?_⟩))
              · simp only [Bool.not_false, Bool.not_true, Bool.toNat_true, Bool.toNat_false] at hf ⊢
                omega
              · simp
            · simp [Region.binds] at hic
              obtain ⟨rfl, rfl⟩ := hic
              refine wpOpIn_step rfl (fun K2 hK2 => ?_)
              go_simp
              refine hK2 _ _ (hK _ _ (Or.inl ⟨b0, b1, true, true, b4, b5, b6, b7, b8, b9, by simp, ?_, clo_3 b0 b1 b4 b5 b6 b7 b8 b9 hcl, rfl, ?_⟩))
              · simp only [Bool.not_false, Bool.not_true, Bool.toNat_true, Bool.toNat_false] at hf ⊢
                omega
              · simp
            · simp [Region.binds] at hic
              obtain rfl := hic
              refine wpOpIn_step rfl (fun K2 hK2 => ?_)
              go_simp
              refine hK2 _ _ (hK _ _ (Or.inl ⟨b0, b1, b2, b3, true, b5, b6, b7, b8, b9, by simp, ?_, clo_4 b0 b1 b2 b3 b5 b6 b7 b8 b9 hcl, rfl, ?_⟩))
              · simp only [Bool.not_false, Bool.not_true, Bool.toNat_true, Bool.toNat_false] at hf ⊢
                omega
              · simp
            · simp [Region.binds] at hic
              obtain rfl := hic
              refine wpOpIn_step rfl (fun K2 hK2 => ?_)
              go_simp
              refine hK2 _ _ (hK _ _ (Or.inl ⟨b0, b1, b2, b3, b4, true, b6, b7, b8, b9, by simp, ?_, clo_5 b0 b1 b2 b3 b4 b6 b7 b8 b9 hcl, rfl, ?_⟩))
              · simp only [Bool.not_false, Bool.not_true, Bool.toNat_true, Bool.toNat_false] at hf ⊢
                omega
              · simp
            · simp [Region.binds] at hic
              obtain ⟨rfl, rfl⟩ := hic
              refine wpOpIn_step rfl (fun K2 hK2 => ?_)
              go_simp
              refine hK2 _ _ (hK _ _ (Or.inl ⟨b0, b1, b2, b3, b4, true, true, b7, b8, b9, by simp, ?_, clo_6 b0 b1 b2 b3 b4 b7 b8 b9 hcl, rfl, ?_⟩))
              · simp only [Bool.not_false, Bool.not_true, Bool.toNat_true, Bool.toNat_false] at hf ⊢
                omega
              · simp
            · simp [Region.binds] at hic
              obtain ⟨rfl, rfl⟩ := hic
              refine wpOpIn_step rfl (fun K2 hK2 => ?_)
              go_simp
              refine hK2 _ _ (hK _ _ (Or.inl ⟨b0, b1, b2, b3, b4, b5, true, true, b8, b9, by simp, ?_, clo_7 b0 b1 b2 b3 b4 b5 b8 b9 hcl, rfl, ?_⟩))
              · simp only [Bool.not_false, Bool.not_true, Bool.toNat_true, Bool.toNat_false] at hf ⊢
                omega
              · simp
            · simp [Region.binds] at hic
              obtain ⟨rfl, rfl⟩ := hic
              refine wpOpIn_step rfl (fun K2 hK2 => ?_)
              go_simp
              refine hK2 _ _ (hK _ _ (Or.inl ⟨b0, b1, b2, b3, b4, b5, b6, true, true, b9, by simp, ?_, clo_8 b0 b1 b2 b3 b4 b5 b6 b9 hcl, rfl, ?_⟩))
              · simp only [Bool.not_false, Bool.not_true, Bool.toNat_true, Bool.toNat_false] at hf ⊢
                omega
              · simp
            · simp [Region.binds] at hic
              obtain ⟨rfl, rfl, rfl⟩ := hic
              refine wpOpIn_step rfl (fun K2 hK2 => ?_)
              go_simp
              refine hK2 _ _ (hK _ _ (Or.inl ⟨b0, b1, b2, b3, true, b5, b6, b7, true, true, by simp, ?_, clo_9 b0 b1 b2 b3 b5 b6 b7 hcl, rfl, ?_⟩))
              · simp only [Bool.not_false, Bool.not_true, Bool.toNat_true, Bool.toNat_false] at hf ⊢
                omega
              · simp
                exact Int.tmod_eq_emod_of_nonneg hq0
            · simp [Region.binds] at hic
              obtain ⟨rfl, rfl⟩ := hic
              obtain ⟨rfl, rfl, rfl, rfl, rfl, rfl, rfl, rfl⟩ := clo_fin b0 b1 b2 b4 b5 b6 b7 b8 hcl
              refine wpOpIn_step rfl (fun K2 hK2 => ?_)
              go_simp
              refine ⟨trivial, rfl, (CallsIn.inRound l2 (callsIn_wide.2 (HU.out _ (Below.refl _ _).drew))).mono ?_⟩
              rintro e v3 ⟨⟨z, rfl⟩, hi3, hk3⟩
              have hB3 : W7.heap.size ≤ v3.heap.size := Nat.le_trans hB2 hk3.size
              have i4 := hi3.setN hbk hB3
              rw [← Hqi.out] at i4
              have n3 : v3.cell? ⟨wr.heap.size + 1 + 1 + 1, 0, none⟩ = some (.int .i64 qi) := by rw [Hqi.out]; exact hi3.nx
              have f3 : v3.frozen? ⟨wr.heap.size + 1 + 1 + 1, 0, none⟩ = false := hi3.fr _ (Or.inr (Or.inr rfl))
              have K3 := hidP (K2k.out.trans hk3)
              have I4 := hidP i4
              have hB4 : W7.heap.size ≤ (v3.setCell ⟨wr.heap.size + 1 + 1 + 1, 0, none⟩ (.int .i64 (qi + 1))).heap.size := by simpa [World.setCell] using hB3
              clear hi3 hk3 i4 HU
              refine hK2 _ _ (hK _ _ (Or.inr ⟨by kernel_rfl, ?_⟩))
              gi_wp2
              exact ⟨K3.out.trans I4.out.2, hB4, u, hap2, by rw [List.length_append, List.length_singleton]; exact I4.out.1⟩
          · refine ⟨false, false, false, false, false, false, false, false, false, false, rfl, rfl, rfl, rfl, ?_⟩
            subst hA1
            simp
      case done =>
        rintro D T xs A hD tD hT rfl hi hK
        subst hA0
        obtain ⟨hB, t, hap, hi⟩ := hi
        have ht : t = m.srv := by
          have := HI.out.srv
          rw [hap] at this
          exact Option.some.inj this
        subst ht
        have s0 : A.cell? ⟨wr.heap.size + 1, 0, none⟩ = some (dstr m.srv) := hi.tx
        have o0 : A.cell? ⟨wr.heap.size + 1 + 1, 0, none⟩ = some (.bool true) := hi.ox
        obtain ⟨m', r', _⟩ := hi.rp
        have HBE := hidP r'.bel
        have hbs : w.heap.size ≤ W7.heap.size := by
          have a1 := (r'.ge rb (Or.inl (Or.inl rfl))).1
          have a2 := hbk.lt rb (Or.inl rfl)
          omega
        clear r' hi
        go_wp2
        refine ⟨by simp, .inl ⟨_, _, rfl, run_takeDeferred hK, ?_⟩⟩
        refine ⟨_, results_tmp rfl _ _ _, rfl, ?_⟩
        have hb := HBE.out
        have h1 := TurnT.put (T := fun k => w.heap.size ≤ k) A (show w.heap.size ≤ D by omega) (.deferred none)
        exact ⟨h1.os.trans hb.os, h1.tape.trans hb.tape, h1.output.trans hb.output, Nat.le_trans hb.size h1.size, fun k hk => (h1.block k (Nat.lt_of_lt_of_le hk hb.size) (fun e => by omega)).trans (hb.block k hk)⟩
end Go.Proofs.Ytabahmcbhapbiaa
namespace Go.Proofs.Ytabahmcbhapbiaa
open Go.ChangeShapes Go.WideShapes Go.ChangeAt Go.RowKit
set_option linter.unusedVariables false
set_option maxRecDepth 100000 in
theorem replayed_lifted (os : Os) (started : os.Started) (H : Type) (enc : TypeId × Value → H) :
    ReturnsInHanded {} Try.checked os 10 .any (Rows.replayedSpec.pre6 enc Try.prog Try.f10 Rows.replayedRow.domain false) (Rows.replayedSpec.post enc Try.prog Try.f10 false true false false) := by
  refine returnsInHanded_of_change_sized (C := Try.checked) kown started (by kernel_rfl) Try.func10
    (ChangeSpec.witness6 (enc := enc) (C := Try.checked) false ⟨#[], #[.int .i64 0, .string ⟨#[]⟩, .slice none 0 0], []⟩ 8 (by kernel_rfl) (by kernel_rfl) (by kernel_rfl) (by kernel_rfl)) ?_
  intro W base args ds gs before hval0 hW hcnd hsz0 _
  have hval : ∀ (j : Nat) t v, Try.f10.params[j]? = some t → args[j]? = some v → Value.okWide Try.prog W .any base t v := hval0
  have hW' := hW
  obtain ⟨p, q, hA0, hV, rfl, hfz, hnd⟩ := hW
  have hA : DataW.TrodAll enc Try.prog W 0 (fun _ => true) true Try.f10.params.toList args.toList ds p := hA0
  have hsz : (DataW.weightsEach Try.prog (Try.f10.params.toList ++ Rows.replayedSpec.plain.varTypes Try.prog) (ds ++ gs)).all (· ≤ reachBytes) = true := hsz0
  rw [Try.params10] at hA hval hsz
  obtain ⟨v0, vs0, d0, ds0, p0, q0, hargs, rfl, rfl, h0, r0⟩ := trodAll_cons hA
  obtain ⟨v1, vs1, d1, ds1, p1, q1, e1, rfl, rfl, h1, r1⟩ := trodAll_cons r0
  obtain ⟨v2, vs2, d2, ds2, p2, q2, e2, rfl, rfl, h2, r2⟩ := trodAll_cons r1
  obtain ⟨rfl, rfl, rfl⟩ := trodAll_nil r2
  subst e2
  subst e1
  obtain rfl : args = #[v0, v1, v2] := by cases args; simp_all
  obtain ⟨rfl, rfl⟩ := trodVars_none hV
  have k0 := h0
  have k1 := h1
  have k2 := h2
  have lt0 : ∀ x ∈ p0, x.block < W.heap.size := by obtain ⟨m, hm⟩ := k0; exact DataW.trod_lt m _ _ _ hm
  have lt1 : ∀ x ∈ p1, x.block < W.heap.size := by obtain ⟨m, hm⟩ := k1; exact DataW.trod_lt m _ _ _ hm
  have lt2 : ∀ x ∈ p2, x.block < W.heap.size := by obtain ⟨m, hm⟩ := k2; exact DataW.trod_lt m _ _ _ hm
  obtain ⟨n0, rfl⟩ := okWide_int Try.underlying3 (hval 0 3 v0 rfl rfl)
  obtain ⟨s, rfl⟩ := okWide_string Try.underlying9 (hval 1 9 v1 rfl rfl)
  obtain ⟨sa, n, c, rfl⟩ := okWide_slice Try.underlying38 (hval 2 38 v2 rfl rfl)
  have hn0 : I64 n0 := by
    obtain ⟨fuel, hf⟩ := h0
    obtain ⟨n, hn, _, hw⟩ := DataW.trod_int Try.underlying3 (by simpa [Value.cells] using hf)
    simp at hn
    subst hn
    exact i64_wf hw
  have hwt : ∀ m ∈ d1.weights Try.prog 9, m ≤ reachBytes := fun m hm => by
    have := List.all_eq_true.1 hsz _ (DataW.weights_mem_each (j := 1) (t := 9) (d := d1) rfl rfl m hm)
    simpa using this
  have hwt2 : ∀ m ∈ d2.weights Try.prog 38, m ≤ reachBytes := fun m hm => by
    have := List.all_eq_true.1 hsz _ (DataW.weights_mem_each (j := 2) (t := 38) (d := d2) rfl rfl m hm)
    simpa using this
  have hlen : s.data.toList.length ≤ 200000000000000 := by
    obtain ⟨fuel, hf⟩ := h1
    obtain ⟨t, ht, hd, _⟩ := DataW.trod_string Try.underlying9 (by simpa [Value.cells] using hf)
    have e : d1 = .lit (.string t.data.toList) := congrArg Prod.fst hd
    have hle := hwt t.data.toList.length (by rw [e]; simp [DataW.weights])
    simp at ht
    subst ht
    rw [kreach] at hle
    omega
  obtain ⟨f, hf⟩ : ∃ f, ScriptAt W sa n f := by
    obtain ⟨fuel, hf⟩ := h2
    exact kopen_script (by simpa [Value.cells] using hf) hwt2
  clear hA0 hval0 hsz0
  have hsq := replayed_any n0 hn0 s.data.toList hlen sa n c f W hf
  rw [← str_list] at hsq
  refine hsq.mono fun e W' ⟨he, bel⟩ => ?_
  subst he
  exact ⟨_, rfl, _, _, _, [], _, [], hW', trodAll_mk1 (shut_bool Try.underlying4 _), (trodAll_cons_mk (Below.trod klaid (by kernel_rfl) (of_decide_eq_true (by kernel_rfl)) k0 bel lt0) (trodAll_cons_mk (Below.trod klaid (by kernel_rfl) (of_decide_eq_true (by kernel_rfl)) k1 bel lt1) (trodAll_cons_mk (Below.trod klaid (by kernel_rfl) (of_decide_eq_true (by kernel_rfl)) k2 bel lt2) trodAll_mk0))), rfl, bel.frame _, fun h => by cases h⟩
theorem replayed_holds : Rows.ReplayedSaid :=
  OpenClaim.holds_of_wide 10 Try.f10 rfl rfl rfl rfl rfl rfl rfl ⟨rfl, rfl, rfl, rfl, rfl⟩ rfl rfl rfl rfl rfl (by kernel_rfl) Try.func10 (by kernel_rfl)
    (of_decide_eq_true (by kernel_rfl)) (by unfold Func.isWrapper; first | (rw [if_pos (by decide +kernel)]; kernel_rfl) | (rw [if_neg (by decide +kernel)]; exact ⟨rfl, rfl⟩))
    (fun os started H enc _ => replayed_lifted os started H enc)
end Go.Proofs.Ytabahmcbhapbiaa
