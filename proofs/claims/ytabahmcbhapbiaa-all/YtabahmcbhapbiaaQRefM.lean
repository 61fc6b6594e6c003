import Derived.Test.YtabahmcbhapbiaaQRefTake
import Derived.Test.YtabahmcbhapbiaaQRow
namespace Go.Proofs.Ytabahmcbhapbiaa
open Go.RowKit Go.Lib
set_option linter.unusedVariables false

theorem infoMsg : (Try.prog.info? 147).map (fun i => (i.zero, i.size, i.bytes)) = some (some (.agg #[.int .i64 0, .int .i64 0, .int .i64 0, .int .i64 0, .int .i64 0, .int .i64 0]), 6, 48) := by kernel_rfl

/-! ### Who owns which block: a slot is a kind and a number -/
abbrev Slot := Nat × Nat
/-- The blocks of a moot, and the values of what is not fixed. -/
structure Lay where
  tb : Nat
  tcap : Nat
  hb : Nat
  sb : Nat
  ub : Nat
  db : Nat
  hv : Value
  hg : Option Nat
  ov : Nat → Value
  og : Nat → Option Nat
  sv : Nat → Value
  sg : Nat → Option Nat
  uv : Nat → Value
  ug : Nat → Option Nat
  dv : Nat → Value
  dg : Nat → Option Nat

/-- A side's four cells. -/
def SideAt (w : World) (b o : Nat) (s c k : Nat) (v : Value) : Prop :=
  w.cell? ⟨b, o, none⟩ = some (.int .i64 (s : Int)) ∧ w.cell? ⟨b, o + 1, none⟩ = some (.int .i64 (c : Int)) ∧ w.cell? ⟨b, o + 2, none⟩ = some (.int .i64 (k : Int)) ∧ w.cell? ⟨b, o + 3, none⟩ = some v
abbrev str (t : List UInt8) : Value := .string ⟨t.toArray⟩

/-- What a slot holds. Kinds: 0 the moot, 1 the texts, 2 the sides here, 3 there, 4 ups, 5 downs, 6 history, 7 and 8 the open ops of a side here and there, 9 and 10 a queue up and down. -/
def Piece (w : World) (mb : Nat) (m : Moo) (L : Lay) (s : Slot) : Prop :=
  match s.1 with
  | 0 => (w.cell? ⟨mb, 0, none⟩ = some (.slice (some ⟨L.tb, 0, none⟩) m.n L.tcap) ∧ w.cell? ⟨mb, 1, none⟩ = some (str m.srv) ∧ w.cell? ⟨mb, 2, none⟩ = some (.slice (some ⟨L.hb, 0, none⟩) m.n m.n) ∧ w.cell? ⟨mb, 3, none⟩ = some (.slice (some ⟨L.sb, 0, none⟩) m.n m.n) ∧
      w.cell? ⟨mb, 4, none⟩ = some (.slice (some ⟨L.ub, 0, none⟩) m.n m.n) ∧ w.cell? ⟨mb, 5, none⟩ = some (.slice (some ⟨L.db, 0, none⟩) m.n m.n) ∧ w.cell? ⟨mb, 6, none⟩ = some L.hv) ∧ ∀ j, w.frozen? ⟨mb, j, none⟩ = false
  | 1 => (∀ i, i < m.n → w.cell? ⟨L.tb, i, none⟩ = some (str (m.cl i).text)) ∧ ∀ j, w.frozen? ⟨L.tb, j, none⟩ = false
  | 2 => (∀ i, i < m.n → SideAt w L.hb (i * 4) (m.cl i).hs (m.cl i).hc (m.cl i).hk (L.ov i)) ∧ ∀ j, w.frozen? ⟨L.hb, j, none⟩ = false
  | 3 => (∀ i, i < m.n → SideAt w L.sb (i * 4) (m.cl i).ts (m.cl i).tc (m.cl i).tk (L.sv i)) ∧ ∀ j, w.frozen? ⟨L.sb, j, none⟩ = false
  | 4 => (∀ i, i < m.n → w.cell? ⟨L.ub, i, none⟩ = some (L.uv i)) ∧ ∀ j, w.frozen? ⟨L.ub, j, none⟩ = false
  | 5 => (∀ i, i < m.n → w.cell? ⟨L.db, i, none⟩ = some (L.dv i)) ∧ ∀ j, w.frozen? ⟨L.db, j, none⟩ = false
  | 6 => RowQ w 4 L.hv (flat4 m.hist) L.hg
  | 7 => s.2 < m.n → RowQ w 4 (L.ov s.2) (flat4 (m.cl s.2).ho) (L.og s.2)
  | 8 => s.2 < m.n → RowQ w 4 (L.sv s.2) (flat4 (m.cl s.2).tq) (L.sg s.2)
  | 9 => s.2 < m.n → RowQ w 6 (L.uv s.2) (flat6 (m.cl s.2).up) (L.ug s.2)
  | 10 => s.2 < m.n → RowQ w 6 (L.dv s.2) (flat6 (m.cl s.2).dn) (L.dg s.2)
  | _ => True
/-- The blocks that a slot owns. -/
def Has (mb n : Nat) (L : Lay) (s : Slot) (k : Nat) : Prop :=
  match s.1 with
  | 0 => s.2 = 0 ∧ k = mb
  | 1 => s.2 = 0 ∧ k = L.tb
  | 2 => s.2 = 0 ∧ k = L.hb
  | 3 => s.2 = 0 ∧ k = L.sb
  | 4 => s.2 = 0 ∧ k = L.ub
  | 5 => s.2 = 0 ∧ k = L.db
  | 6 => s.2 = 0 ∧ L.hg = some k
  | 7 => s.2 < n ∧ L.og s.2 = some k
  | 8 => s.2 < n ∧ L.sg s.2 = some k
  | 9 => s.2 < n ∧ L.ug s.2 = some k
  | 10 => s.2 < n ∧ L.dg s.2 = some k
  | _ => False
structure RefM (w : World) (mb : Nat) (m : Moo) (L : Lay) (own : Nat → Option Slot) : Prop where
  n1 : 1 ≤ m.n
  n4 : m.n ≤ 4
  tc : m.n ≤ L.tcap
  tc2 : L.tcap ≤ 9223372036854775807
  pc : ∀ a i, (a ≤ 6 → i = 0) → Piece w mb m L (a, i)
  ow : ∀ s k, Has mb m.n L s k → own k = some s
  lt : ∀ k, own k ≠ none → k < w.heap.size

theorem sideAt_keep {F : Nat → Prop} {w w' : World} {b o s c k : Nat} {v : Value} (h : SideAt w b o s c k v) (hk : KeptX F w w') (hb : b < w.heap.size) (hF : ¬ F b) : SideAt w' b o s c k v :=
  ⟨(hk.cell (p := ⟨b, o, none⟩) hb hF).trans h.1, (hk.cell (p := ⟨b, o + 1, none⟩) hb hF).trans h.2.1, (hk.cell (p := ⟨b, o + 2, none⟩) hb hF).trans h.2.2.1, (hk.cell (p := ⟨b, o + 3, none⟩) hb hF).trans h.2.2.2⟩
theorem piece_keep {F : Nat → Prop} {w w' : World} {mb : Nat} {m : Moo} {L : Lay} {a i : Nat} (hai : a ≤ 6 → i = 0) (h : Piece w mb m L (a, i)) (hk : KeptX F w w') (hh : ∀ k, Has mb m.n L (a, i) k → k < w.heap.size ∧ ¬ F k) : Piece w' mb m L (a, i) := by
  match a, hai, h, hh with
  | 0, hai, h, hh =>
    obtain ⟨x, y⟩ := hh mb ⟨hai (by omega), rfl⟩
    have c : ∀ j, w'.cell? ⟨mb, j, none⟩ = w.cell? ⟨mb, j, none⟩ := fun j => hk.cell (p := ⟨mb, j, none⟩) x y
    exact ⟨⟨(c _).trans h.1.1, (c _).trans h.1.2.1, (c _).trans h.1.2.2.1, (c _).trans h.1.2.2.2.1, (c _).trans h.1.2.2.2.2.1, (c _).trans h.1.2.2.2.2.2.1, (c _).trans h.1.2.2.2.2.2.2⟩, fun j => (hk.frozen (p := ⟨mb, j, none⟩) x y).trans (h.2 j)⟩
  | 1, hai, h, hh =>
    obtain ⟨x, y⟩ := hh L.tb ⟨hai (by omega), rfl⟩
    exact ⟨fun j hj => (hk.cell (p := ⟨L.tb, j, none⟩) x y).trans (h.1 j hj), fun j => (hk.frozen (p := ⟨L.tb, j, none⟩) x y).trans (h.2 j)⟩
  | 2, hai, h, hh =>
    obtain ⟨x, y⟩ := hh L.hb ⟨hai (by omega), rfl⟩
    exact ⟨fun j hj => sideAt_keep (h.1 j hj) hk x y, fun j => (hk.frozen (p := ⟨L.hb, j, none⟩) x y).trans (h.2 j)⟩
  | 3, hai, h, hh =>
    obtain ⟨x, y⟩ := hh L.sb ⟨hai (by omega), rfl⟩
    exact ⟨fun j hj => sideAt_keep (h.1 j hj) hk x y, fun j => (hk.frozen (p := ⟨L.sb, j, none⟩) x y).trans (h.2 j)⟩
  | 4, hai, h, hh =>
    obtain ⟨x, y⟩ := hh L.ub ⟨hai (by omega), rfl⟩
    exact ⟨fun j hj => (hk.cell (p := ⟨L.ub, j, none⟩) x y).trans (h.1 j hj), fun j => (hk.frozen (p := ⟨L.ub, j, none⟩) x y).trans (h.2 j)⟩
  | 5, hai, h, hh =>
    obtain ⟨x, y⟩ := hh L.db ⟨hai (by omega), rfl⟩
    exact ⟨fun j hj => (hk.cell (p := ⟨L.db, j, none⟩) x y).trans (h.1 j hj), fun j => (hk.frozen (p := ⟨L.db, j, none⟩) x y).trans (h.2 j)⟩
  | 6, hai, h, hh => exact RowQ.keep h hk (fun k e => (hh k ⟨hai (by omega), e⟩).2)
  | 7, hai, h, hh => exact fun hi => RowQ.keep (h hi) hk (fun k e => (hh k ⟨hi, e⟩).2)
  | 8, hai, h, hh => exact fun hi => RowQ.keep (h hi) hk (fun k e => (hh k ⟨hi, e⟩).2)
  | 9, hai, h, hh => exact fun hi => RowQ.keep (h hi) hk (fun k e => (hh k ⟨hi, e⟩).2)
  | 10, hai, h, hh => exact fun hi => RowQ.keep (h hi) hk (fun k e => (hh k ⟨hi, e⟩).2)
  | n + 11, hai, h, hh => exact trivial
/-- What turns nothing that is owned keeps the moot. -/
theorem RefM.keep {w w' : World} {mb : Nat} {m : Moo} {L : Lay} {own : Nat → Option Slot} {F : Nat → Prop} (h : RefM w mb m L own) (hk : KeptX F w w') (hF : ∀ k, own k ≠ none → ¬ F k) : RefM w' mb m L own :=
  ⟨h.n1, h.n4, h.tc, h.tc2, fun a i hai => piece_keep hai (h.pc a i hai) hk (fun k e => ⟨h.lt k (by rw [h.ow _ k e]; simp), hF k (by rw [h.ow _ k e]; simp)⟩), h.ow, fun k e => Nat.lt_of_lt_of_le (h.lt k e) hk.size⟩

/-! ### A piece is set anew -/
/-- The slot s has now the block g (if any), and no other. -/
def reown (own : Nat → Option Slot) (s : Slot) (g : Option Nat) : Nat → Option Slot := fun k => if g = some k then some s else if own k = some s then none else own k
theorem reown_other {own : Nat → Option Slot} {s : Slot} {g : Option Nat} (hg : ∀ k, g = some k → own k = none ∨ own k = some s) {k : Nat} {s' : Slot} (h : own k = some s') (hn : s' ≠ s) : reown own s g k = some s' := by
  unfold reown
  by_cases e : g = some k
  · rcases hg k e with h1 | h1
    · rw [h1] at h; cases h
    · rw [h1] at h; cases h; exact absurd rfl hn
  · rw [if_neg e, if_neg (fun e2 => hn (by rw [h] at e2; cases e2; rfl)), h]
theorem reown_self {own : Nat → Option Slot} {s : Slot} {g : Option Nat} {k : Nat} (h : g = some k) : reown own s g k = some s := by unfold reown; rw [if_pos h]
theorem reown_foot {own : Nat → Option Slot} {s : Slot} {g : Option Nat} {k : Nat} (h : reown own s g k ≠ none) : own k ≠ none ∨ g = some k := by
  unfold reown at h
  by_cases e : g = some k
  · exact Or.inr e
  · rw [if_neg e] at h
    by_cases e2 : own k = some s
    · rw [if_pos e2] at h; exact absurd rfl h
    · rw [if_neg e2] at h; exact Or.inl h
theorem RefM.upd {w w' : World} {mb : Nat} {m m' : Moo} {L L' : Lay} {own : Nat → Option Slot} {F : Nat → Prop} (h : RefM w mb m L own) (S1 S2 : Slot) (g : Option Nat) (hk : KeptX F w w') (hF : ∀ k, F k → own k = none ∨ own k = some S1 ∨ own k = some S2)
    (hn : m'.n = m.n) (htc : L'.tcap = L.tcap) (hP : ∀ a i, (a ≤ 6 → i = 0) → (a, i) ≠ S1 → (a, i) ≠ S2 → Piece w' mb m L (a, i) → Piece w' mb m' L' (a, i)) (hH : ∀ s k, s ≠ S2 → Has mb m.n L' s k → Has mb m.n L s k) (hS : ∀ k, Has mb m.n L' S2 k → g = some k) (hg : ∀ k, g = some k → k < w'.heap.size ∧ (own k = none ∨ own k = some S2))
    (p1 : Piece w' mb m' L' S1) (p2 : Piece w' mb m' L' S2) : RefM w' mb m' L' (reown own S2 g) := by
  refine ⟨by rw [hn]; exact h.n1, by rw [hn]; exact h.n4, by rw [hn, htc]; exact h.tc, by rw [htc]; exact h.tc2, fun a i hai => ?_, fun s k e => ?_, fun k e => ?_⟩
  · by_cases e1 : (a, i) = S1
    · rw [e1]; exact p1
    by_cases e2 : (a, i) = S2
    · rw [e2]; exact p2
    refine hP _ _ hai e1 e2 (piece_keep hai (h.pc a i hai) hk (fun k e => ?_))
    have eo := h.ow _ k e
    refine ⟨h.lt k (by rw [eo]; simp), fun hf => ?_⟩
    rcases hF k hf with x | x | x
    · rw [x] at eo; cases eo
    · rw [x] at eo; exact e1 (Option.some.inj eo).symm
    · rw [x] at eo; exact e2 (Option.some.inj eo).symm
  · rw [hn] at e
    by_cases e2 : s = S2
    · subst e2; exact reown_self (hS k e)
    · exact reown_other (fun k hk1 => (hg k hk1).2) (h.ow s k (hH s k e2 e)) e2
  · rcases reown_foot e with e | e
    · exact Nat.lt_of_lt_of_le (h.lt k e) hk.size
    · exact (hg k e).1
theorem set_get {α : Type} (f : Cli → α) {m : Moo} {i : Nat} {x : Cli} (hx : f x = f (m.cl i)) (j : Nat) : f ((m.set i x).cl j) = f (m.cl j) := by
  show f (if j = i then x else m.cl j) = _
  split
  · rename_i e; rw [e]; exact hx
  · rfl
theorem set_at (m : Moo) (i : Nat) (x : Cli) : (m.set i x).cl i = x := if_pos rfl
theorem set_far (m : Moo) {i j : Nat} (x : Cli) (h : j ≠ i) : (m.set i x).cl j = m.cl j := if_neg h
end Go.Proofs.Ytabahmcbhapbiaa

namespace Go.Proofs.Ytabahmcbhapbiaa
open Go.RowKit Go.Lib
set_option linter.unusedVariables false

theorem set_self {w : World} {b j : Nat} {x v : Value} (h : w.cell? ⟨b, j, none⟩ = some x) : (w.setCell ⟨b, j, none⟩ v).cell? ⟨b, j, none⟩ = some v := by simp [go_sem, h]
theorem set_other {w : World} {b c i j : Nat} {v : Value} (h : b ≠ c ∨ i ≠ j) : (w.setCell ⟨b, i, none⟩ v).cell? ⟨c, j, none⟩ = w.cell? ⟨c, j, none⟩ :=
  World.cell?_setCell_other _ _ _ _ (by simp only [ne_eq, Addr.mk.injEq]; omega)
theorem set_frozen {w : World} {b c i j : Nat} {v : Value} : (w.setCell ⟨b, i, none⟩ v).frozen? ⟨c, j, none⟩ = w.frozen? ⟨c, j, none⟩ := by simp [go_sem]
theorem keptX_set {w : World} (b i : Nat) (v : Value) : KeptX (fun k => k = b) w (w.setCell ⟨b, i, none⟩ v) := (KeptX.refl (fun k => k = b) w).setCell (p := ⟨b, i, none⟩) (fun _ => rfl) v

section
variable {w w' W1 : World} {mb : Nat} {m : Moo} {L : Lay} {own : Nat → Option Slot}

theorem RefM.o0 (h : RefM w mb m L own) : own mb = some (0, 0) := h.ow (0, 0) mb ⟨rfl, rfl⟩
theorem RefM.o1 (h : RefM w mb m L own) : own L.tb = some (1, 0) := h.ow (1, 0) _ ⟨rfl, rfl⟩
theorem RefM.o2 (h : RefM w mb m L own) : own L.hb = some (2, 0) := h.ow (2, 0) _ ⟨rfl, rfl⟩
theorem RefM.o3 (h : RefM w mb m L own) : own L.sb = some (3, 0) := h.ow (3, 0) _ ⟨rfl, rfl⟩
theorem RefM.o4 (h : RefM w mb m L own) : own L.ub = some (4, 0) := h.ow (4, 0) _ ⟨rfl, rfl⟩
theorem RefM.o5 (h : RefM w mb m L own) : own L.db = some (5, 0) := h.ow (5, 0) _ ⟨rfl, rfl⟩
theorem RefM.lto (h : RefM w mb m L own) {k : Nat} {s : Slot} (e : own k = some s) : k < w.heap.size := h.lt k (by rw [e]; simp)
theorem RefM.new (h : RefM w mb m L own) {k : Nat} (e : w.heap.size ≤ k) : own k = none := by
  by_cases e2 : own k = none
  · exact e2
  · exact absurd (h.lt k e2) (by omega)
theorem own_ne {a b : Nat} {s t : Slot} (ha : own a = some s) (hb : own b = some t) (hn : s ≠ t) : a ≠ b := fun e => hn (by rw [e, hb] at ha; exact (Option.some.inj ha).symm)

/-- The server's text. -/
theorem RefM.srvSet (h : RefM w mb m L own) (t : List UInt8) : RefM (w.setCell ⟨mb, 1, none⟩ (str t)) mb { m with srv := t } L (reown own (0, 0) (some mb)) := by
  have p0 : Piece (w.setCell ⟨mb, 1, none⟩ (str t)) mb { m with srv := t } L (0, 0) := by
    obtain ⟨⟨a0, a1, a2, a3, a4, a5, a6⟩, f⟩ := h.pc 0 0 (fun _ => rfl)
    exact ⟨⟨(set_other (Or.inr (by omega))).trans a0, set_self a1, (set_other (Or.inr (by omega))).trans a2, (set_other (Or.inr (by omega))).trans a3, (set_other (Or.inr (by omega))).trans a4, (set_other (Or.inr (by omega))).trans a5, (set_other (Or.inr (by omega))).trans a6⟩, fun j => set_frozen.trans (f j)⟩
  refine h.upd (0, 0) (0, 0) (some mb) (keptX_set mb 1 _) (fun k e => Or.inr (Or.inl (by rw [e]; exact h.o0))) rfl rfl (fun a i hai h1 h2 hs => ?_) (fun s k _ e => e) (fun k e => by rw [e.2]) (fun k e => ?_) p0 p0
  · revert hai h1 h2 hs
    intro hai h1 h2 hs
    match a, hai, h1, h2, hs with
    | 0, hai, h1, h2, hs => exact absurd (by rw [hai (by omega)]) h1
    | 1, hai, h1, h2, hs => exact hs
    | 2, hai, h1, h2, hs => exact hs
    | 3, hai, h1, h2, hs => exact hs
    | 4, hai, h1, h2, hs => exact hs
    | 5, hai, h1, h2, hs => exact hs
    | 6, hai, h1, h2, hs => exact hs
    | 7, hai, h1, h2, hs => exact hs
    | 8, hai, h1, h2, hs => exact hs
    | 9, hai, h1, h2, hs => exact hs
    | 10, hai, h1, h2, hs => exact hs
    | n + 11, hai, h1, h2, hs => exact trivial
  · cases e
    exact ⟨by simpa [World.setCell] using h.lto h.o0, Or.inr h.o0⟩
/-- A client's text. -/
theorem RefM.textSet (h : RefM w mb m L own) {c : Nat} (hc : c < m.n) (t : List UInt8) : RefM (w.setCell ⟨L.tb, c, none⟩ (str t)) mb (m.set c { m.cl c with text := t }) L (reown own (1, 0) (some L.tb)) := by
  have g := fun {α : Type} (f : Cli → α) (hx : f { m.cl c with text := t } = f (m.cl c)) j => set_get f (m := m) (i := c) hx j
  have p0 : Piece (w.setCell ⟨L.tb, c, none⟩ (str t)) mb (m.set c { m.cl c with text := t }) L (1, 0) := by
    obtain ⟨a0, f⟩ := h.pc 1 0 (fun _ => rfl)
    refine ⟨fun i hi => ?_, fun j => set_frozen.trans (f j)⟩
    by_cases e : i = c
    · subst e; rw [set_at]; exact set_self (a0 i hi)
    · rw [set_far _ _ e, set_other (Or.inr (fun e2 => e e2.symm))]; exact a0 i hi
  refine h.upd (1, 0) (1, 0) (some L.tb) (keptX_set L.tb c _) (fun k e => Or.inr (Or.inl (by rw [e]; exact h.o1))) rfl rfl (fun a i hai h1 h2 hs => ?_) (fun s k _ e => e) (fun k e => by rw [e.2]) (fun k e => ?_) p0 p0
  · revert hai h1 h2 hs
    intro hai h1 h2 hs
    match a, hai, h1, h2, hs with
    | 0, hai, h1, h2, hs => exact hs
    | 1, hai, h1, h2, hs => exact absurd (by rw [hai (by omega)]) h1
    | 2, hai, h1, h2, hs => exact ⟨fun j hj => by rw [g (·.hs) rfl, g (·.hc) rfl, g (·.hk) rfl]; exact hs.1 j hj, hs.2⟩
    | 3, hai, h1, h2, hs => exact ⟨fun j hj => by rw [g (·.ts) rfl, g (·.tc) rfl, g (·.tk) rfl]; exact hs.1 j hj, hs.2⟩
    | 4, hai, h1, h2, hs => exact hs
    | 5, hai, h1, h2, hs => exact hs
    | 6, hai, h1, h2, hs => exact hs
    | 7, hai, h1, h2, hs => exact fun hi => by rw [g (·.ho) rfl]; exact hs hi
    | 8, hai, h1, h2, hs => exact fun hi => by rw [g (·.tq) rfl]; exact hs hi
    | 9, hai, h1, h2, hs => exact fun hi => by rw [g (·.up) rfl]; exact hs hi
    | 10, hai, h1, h2, hs => exact fun hi => by rw [g (·.dn) rfl]; exact hs hi
    | n + 11, hai, h1, h2, hs => exact trivial
  · cases e
    exact ⟨by simpa [World.setCell] using h.lto h.o1, Or.inr h.o1⟩
end
end Go.Proofs.Ytabahmcbhapbiaa

namespace Go.Proofs.Ytabahmcbhapbiaa
open Go.RowKit Go.Lib
set_option linter.unusedVariables false
section
variable {w w' W1 : World} {mb : Nat} {m : Moo} {L : Lay} {own : Nat → Option Slot}
theorem RefM.hereSet (h : RefM w mb m L own) {c : Nat} (hc : c < m.n) (s' c' k' : Nat) (l' : List Op4) (v' : Value) (g' : Option Nat) (hk : KeptX (fun k => k = L.hb) w w') (hs : SideAt w' L.hb (c * 4) s' c' k' v')
    (hoth : ∀ j, (j < c * 4 ∨ c * 4 + 4 ≤ j) → w'.cell? ⟨L.hb, j, none⟩ = w.cell? ⟨L.hb, j, none⟩) (hfr : ∀ j, w'.frozen? ⟨L.hb, j, none⟩ = w.frozen? ⟨L.hb, j, none⟩) (hq : RowQ w' 4 v' (flat4 l') g') (hg : ∀ k, g' = some k → w.heap.size ≤ k) :
    RefM w' mb (m.set c { m.cl c with hs := s', hc := c', hk := k', ho := l' }) { L with ov := fun j => if j = c then v' else L.ov j, og := fun j => if j = c then g' else L.og j } (reown own (7, c) g') := by
  have g := fun {α : Type} (f : Cli → α) (hx : f { m.cl c with hs := s', hc := c', hk := k', ho := l' } = f (m.cl c)) j => set_get f (m := m) (i := c) hx j
  have p1 : Piece w' mb (m.set c { m.cl c with hs := s', hc := c', hk := k', ho := l' }) { L with ov := fun j => if j = c then v' else L.ov j, og := fun j => if j = c then g' else L.og j } (2, 0) := by
    obtain ⟨a0, f⟩ := h.pc 2 0 (fun _ => rfl)
    refine ⟨fun i hi => ?_, fun j => (hfr j).trans (f j)⟩
    show SideAt w' L.hb (i * 4) ((m.set c { m.cl c with hs := s', hc := c', hk := k', ho := l' }).cl i).hs ((m.set c { m.cl c with hs := s', hc := c', hk := k', ho := l' }).cl i).hc ((m.set c { m.cl c with hs := s', hc := c', hk := k', ho := l' }).cl i).hk (if i = c then v' else L.ov i)
    by_cases e : i = c
    · subst e; rw [set_at, if_pos rfl]; exact hs
    · rw [set_far _ _ e, if_neg e]
      obtain ⟨x0, x1, x2, x3⟩ := a0 i hi
      exact ⟨(hoth _ (by omega)).trans x0, (hoth _ (by omega)).trans x1, (hoth _ (by omega)).trans x2, (hoth _ (by omega)).trans x3⟩
  have p2 : Piece w' mb (m.set c { m.cl c with hs := s', hc := c', hk := k', ho := l' }) { L with ov := fun j => if j = c then v' else L.ov j, og := fun j => if j = c then g' else L.og j } (7, c) := by
    intro _
    show RowQ w' 4 (if c = c then v' else L.ov c) (flat4 ((m.set c { m.cl c with hs := s', hc := c', hk := k', ho := l' }).cl c).ho) (if c = c then g' else L.og c)
    rw [if_pos rfl, if_pos rfl, set_at]
    exact hq
  refine h.upd (2, 0) (7, c) g' hk (fun k e => Or.inr (Or.inl (by rw [e]; exact h.o2))) rfl rfl (fun a i hai h1 h2 hs => ?_) (fun s k h2 e => ?_) (fun k e => ?_) (fun k e => ⟨hq.lt k e, Or.inl (h.new (hg k e))⟩) p1 p2
  · revert hai h1 h2 hs
    intro hai h1 h2 hs
    match a, hai, h1, h2, hs with
    | 0, hai, h1, h2, hs => exact hs
    | 1, hai, h1, h2, hs => exact ⟨fun j hj => by rw [g (·.text) rfl]; exact hs.1 j hj, hs.2⟩
    | 2, hai, h1, h2, hs => exact absurd (by rw [hai (by omega)]) h1
    | 3, hai, h1, h2, hs => exact ⟨fun j hj => by rw [g (·.ts) rfl, g (·.tc) rfl, g (·.tk) rfl]; exact hs.1 j hj, hs.2⟩
    | 4, hai, h1, h2, hs => exact hs
    | 5, hai, h1, h2, hs => exact hs
    | 6, hai, h1, h2, hs => exact hs
    | 7, hai, h1, h2, hs => exact fun hi => by have hn : ¬ i = c := fun e => h2 (by rw [e]); show RowQ w' 4 (if i = c then v' else L.ov i) (flat4 ((m.set c { m.cl c with hs := s', hc := c', hk := k', ho := l' }).cl i).ho) (if i = c then g' else L.og i); rw [if_neg hn, if_neg hn, set_far _ _ hn]; exact hs hi
    | 8, hai, h1, h2, hs => exact fun hi => by rw [g (·.tq) rfl]; exact hs hi
    | 9, hai, h1, h2, hs => exact fun hi => by rw [g (·.up) rfl]; exact hs hi
    | 10, hai, h1, h2, hs => exact fun hi => by rw [g (·.dn) rfl]; exact hs hi
    | n + 11, hai, h1, h2, hs => exact trivial
  · obtain ⟨a, i⟩ := s
    match a, h2, e with
    | 0, h2, e => exact e
    | 1, h2, e => exact e
    | 2, h2, e => exact e
    | 3, h2, e => exact e
    | 4, h2, e => exact e
    | 5, h2, e => exact e
    | 6, h2, e => exact e
    | 7, h2, e => exact ⟨e.1, by have := e.2; have hn : ¬ i = c := fun e => h2 (by rw [e]); simpa [hn] using this⟩
    | 8, h2, e => exact e
    | 9, h2, e => exact e
    | 10, h2, e => exact e
    | n + 11, h2, e => exact e.elim
  · have := e.2
    simpa using this
theorem RefM.thereSet (h : RefM w mb m L own) {c : Nat} (hc : c < m.n) (s' c' k' : Nat) (l' : List Op4) (v' : Value) (g' : Option Nat) (hk : KeptX (fun k => k = L.sb) w w') (hs : SideAt w' L.sb (c * 4) s' c' k' v')
    (hoth : ∀ j, (j < c * 4 ∨ c * 4 + 4 ≤ j) → w'.cell? ⟨L.sb, j, none⟩ = w.cell? ⟨L.sb, j, none⟩) (hfr : ∀ j, w'.frozen? ⟨L.sb, j, none⟩ = w.frozen? ⟨L.sb, j, none⟩) (hq : RowQ w' 4 v' (flat4 l') g') (hg : ∀ k, g' = some k → w.heap.size ≤ k) :
    RefM w' mb (m.set c { m.cl c with ts := s', tc := c', tk := k', tq := l' }) { L with sv := fun j => if j = c then v' else L.sv j, sg := fun j => if j = c then g' else L.sg j } (reown own (8, c) g') := by
  have g := fun {α : Type} (f : Cli → α) (hx : f { m.cl c with ts := s', tc := c', tk := k', tq := l' } = f (m.cl c)) j => set_get f (m := m) (i := c) hx j
  have p1 : Piece w' mb (m.set c { m.cl c with ts := s', tc := c', tk := k', tq := l' }) { L with sv := fun j => if j = c then v' else L.sv j, sg := fun j => if j = c then g' else L.sg j } (3, 0) := by
    obtain ⟨a0, f⟩ := h.pc 3 0 (fun _ => rfl)
    refine ⟨fun i hi => ?_, fun j => (hfr j).trans (f j)⟩
    show SideAt w' L.sb (i * 4) ((m.set c { m.cl c with ts := s', tc := c', tk := k', tq := l' }).cl i).ts ((m.set c { m.cl c with ts := s', tc := c', tk := k', tq := l' }).cl i).tc ((m.set c { m.cl c with ts := s', tc := c', tk := k', tq := l' }).cl i).tk (if i = c then v' else L.sv i)
    by_cases e : i = c
    · subst e; rw [set_at, if_pos rfl]; exact hs
    · rw [set_far _ _ e, if_neg e]
      obtain ⟨x0, x1, x2, x3⟩ := a0 i hi
      exact ⟨(hoth _ (by omega)).trans x0, (hoth _ (by omega)).trans x1, (hoth _ (by omega)).trans x2, (hoth _ (by omega)).trans x3⟩
  have p2 : Piece w' mb (m.set c { m.cl c with ts := s', tc := c', tk := k', tq := l' }) { L with sv := fun j => if j = c then v' else L.sv j, sg := fun j => if j = c then g' else L.sg j } (8, c) := by
    intro _
    show RowQ w' 4 (if c = c then v' else L.sv c) (flat4 ((m.set c { m.cl c with ts := s', tc := c', tk := k', tq := l' }).cl c).tq) (if c = c then g' else L.sg c)
    rw [if_pos rfl, if_pos rfl, set_at]
    exact hq
  refine h.upd (3, 0) (8, c) g' hk (fun k e => Or.inr (Or.inl (by rw [e]; exact h.o3))) rfl rfl (fun a i hai h1 h2 hs => ?_) (fun s k h2 e => ?_) (fun k e => ?_) (fun k e => ⟨hq.lt k e, Or.inl (h.new (hg k e))⟩) p1 p2
  · revert hai h1 h2 hs
    intro hai h1 h2 hs
    match a, hai, h1, h2, hs with
    | 0, hai, h1, h2, hs => exact hs
    | 1, hai, h1, h2, hs => exact ⟨fun j hj => by rw [g (·.text) rfl]; exact hs.1 j hj, hs.2⟩
    | 2, hai, h1, h2, hs => exact ⟨fun j hj => by rw [g (·.hs) rfl, g (·.hc) rfl, g (·.hk) rfl]; exact hs.1 j hj, hs.2⟩
    | 3, hai, h1, h2, hs => exact absurd (by rw [hai (by omega)]) h1
    | 4, hai, h1, h2, hs => exact hs
    | 5, hai, h1, h2, hs => exact hs
    | 6, hai, h1, h2, hs => exact hs
    | 7, hai, h1, h2, hs => exact fun hi => by rw [g (·.ho) rfl]; exact hs hi
    | 8, hai, h1, h2, hs => exact fun hi => by have hn : ¬ i = c := fun e => h2 (by rw [e]); show RowQ w' 4 (if i = c then v' else L.sv i) (flat4 ((m.set c { m.cl c with ts := s', tc := c', tk := k', tq := l' }).cl i).tq) (if i = c then g' else L.sg i); rw [if_neg hn, if_neg hn, set_far _ _ hn]; exact hs hi
    | 9, hai, h1, h2, hs => exact fun hi => by rw [g (·.up) rfl]; exact hs hi
    | 10, hai, h1, h2, hs => exact fun hi => by rw [g (·.dn) rfl]; exact hs hi
    | n + 11, hai, h1, h2, hs => exact trivial
  · obtain ⟨a, i⟩ := s
    match a, h2, e with
    | 0, h2, e => exact e
    | 1, h2, e => exact e
    | 2, h2, e => exact e
    | 3, h2, e => exact e
    | 4, h2, e => exact e
    | 5, h2, e => exact e
    | 6, h2, e => exact e
    | 7, h2, e => exact e
    | 8, h2, e => exact ⟨e.1, by have := e.2; have hn : ¬ i = c := fun e => h2 (by rw [e]); simpa [hn] using this⟩
    | 9, h2, e => exact e
    | 10, h2, e => exact e
    | n + 11, h2, e => exact e.elim
  · have := e.2
    simpa using this
theorem RefM.upsSet (h : RefM w mb m L own) {c : Nat} (hc : c < m.n) (l' : List Msg) (v' : Value) (g' : Option Nat) (hk : KeptX (fun k => L.ug c = some k) w W1) (hq : RowQ W1 6 v' (flat6 l') g') (hg : g' = L.ug c ∨ ∀ k, g' = some k → w.heap.size ≤ k) :
    RefM (W1.setCell ⟨L.ub, c, none⟩ v') mb (m.set c { m.cl c with up := l' }) { L with uv := fun j => if j = c then v' else L.uv j, ug := fun j => if j = c then g' else L.ug j } (reown own (9, c) g') := by
  have g := fun {α : Type} (f : Cli → α) (hx : f { m.cl c with up := l' } = f (m.cl c)) j => set_get f (m := m) (i := c) hx j
  have hub : ∀ k, L.ug c = some k → own k = some (9, c) := fun k e => h.ow (9, c) k ⟨hc, e⟩
  have hnb : ¬ L.ug c = some L.ub := fun e => by have := hub _ e; rw [h.o4] at this; cases this
  have hlb : L.ub < w.heap.size := h.lto h.o4
  have hgo : ∀ k, g' = some k → own k = none ∨ own k = some (9, c) := fun k e => by
    rcases hg with x | x
    · exact Or.inr (hub k (x ▸ e))
    · exact Or.inl (h.new (x k e))
  have hgb : ∀ k, g' = some k → ¬ k = L.ub := fun k e e2 => by
    rcases hgo k e with x | x <;> rw [e2, h.o4] at x <;> cases x
  have p1 : Piece (W1.setCell ⟨L.ub, c, none⟩ v') mb (m.set c { m.cl c with up := l' }) { L with uv := fun j => if j = c then v' else L.uv j, ug := fun j => if j = c then g' else L.ug j } (4, 0) := by
    obtain ⟨a0, f⟩ := h.pc 4 0 (fun _ => rfl)
    refine ⟨fun i hi => ?_, fun j => set_frozen.trans ((hk.frozen (p := ⟨L.ub, j, none⟩) hlb hnb).trans (f j))⟩
    show (W1.setCell ⟨L.ub, c, none⟩ v').cell? ⟨L.ub, i, none⟩ = some (if i = c then v' else L.uv i)
    have hcell := (hk.cell (p := ⟨L.ub, i, none⟩) hlb hnb).trans (a0 i hi)
    by_cases e : i = c
    · subst e; rw [if_pos rfl]; exact set_self hcell
    · rw [if_neg e, set_other (Or.inr (fun e2 => e e2.symm))]; exact hcell
  have p2 : Piece (W1.setCell ⟨L.ub, c, none⟩ v') mb (m.set c { m.cl c with up := l' }) { L with uv := fun j => if j = c then v' else L.uv j, ug := fun j => if j = c then g' else L.ug j } (9, c) := by
    intro _
    show RowQ _ 6 (if c = c then v' else L.uv c) (flat6 ((m.set c { m.cl c with up := l' }).cl c).up) (if c = c then g' else L.ug c)
    rw [if_pos rfl, if_pos rfl, set_at]
    exact hq.keep (keptX_set L.ub c v') hgb
  have hkk : KeptX (fun k => k = L.ub ∨ L.ug c = some k) w (W1.setCell ⟨L.ub, c, none⟩ v') := KeptX.setCell (F := fun k => k = L.ub ∨ L.ug c = some k) (hk.mono (fun _ _ e => Or.inr e)) (p := ⟨L.ub, c, none⟩) (fun _ => Or.inl rfl) v'
  refine h.upd (4, 0) (9, c) g' hkk (fun k e => ?_) rfl rfl (fun a i hai h1 h2 hs => ?_) (fun s k h2 e => ?_) (fun k e => ?_) (fun k e => ⟨by simpa [World.setCell] using hq.lt k e, hgo k e⟩) p1 p2
  · rcases e with e | e
    · exact Or.inr (Or.inl (by rw [e]; exact h.o4))
    · exact Or.inr (Or.inr (hub k e))
  · revert hai h1 h2 hs
    intro hai h1 h2 hs
    match a, hai, h1, h2, hs with
    | 0, hai, h1, h2, hs => exact hs
    | 1, hai, h1, h2, hs => exact ⟨fun j hj => by rw [g (·.text) rfl]; exact hs.1 j hj, hs.2⟩
    | 2, hai, h1, h2, hs => exact ⟨fun j hj => by rw [g (·.hs) rfl, g (·.hc) rfl, g (·.hk) rfl]; exact hs.1 j hj, hs.2⟩
    | 3, hai, h1, h2, hs => exact ⟨fun j hj => by rw [g (·.ts) rfl, g (·.tc) rfl, g (·.tk) rfl]; exact hs.1 j hj, hs.2⟩
    | 4, hai, h1, h2, hs => exact absurd (by rw [hai (by omega)]) h1
    | 5, hai, h1, h2, hs => exact hs
    | 6, hai, h1, h2, hs => exact hs
    | 7, hai, h1, h2, hs => exact fun hi => by rw [g (·.ho) rfl]; exact hs hi
    | 8, hai, h1, h2, hs => exact fun hi => by rw [g (·.tq) rfl]; exact hs hi
    | 9, hai, h1, h2, hs => exact fun hi => by have hn : ¬ i = c := fun e => h2 (by rw [e]); show RowQ _ 6 (if i = c then v' else L.uv i) (flat6 ((m.set c { m.cl c with up := l' }).cl i).up) (if i = c then g' else L.ug i); rw [if_neg hn, if_neg hn, set_far _ _ hn]; exact hs hi
    | 10, hai, h1, h2, hs => exact fun hi => by rw [g (·.dn) rfl]; exact hs hi
    | n + 11, hai, h1, h2, hs => exact trivial
  · obtain ⟨a, i⟩ := s
    match a, h2, e with
    | 0, h2, e => exact e
    | 1, h2, e => exact e
    | 2, h2, e => exact e
    | 3, h2, e => exact e
    | 4, h2, e => exact e
    | 5, h2, e => exact e
    | 6, h2, e => exact e
    | 7, h2, e => exact e
    | 8, h2, e => exact e
    | 9, h2, e => exact ⟨e.1, by have := e.2; have hn : ¬ i = c := fun e => h2 (by rw [e]); simpa [hn] using this⟩
    | 10, h2, e => exact e
    | n + 11, h2, e => exact e.elim
  · have := e.2
    simpa using this
theorem RefM.dnsSet (h : RefM w mb m L own) {c : Nat} (hc : c < m.n) (l' : List Msg) (v' : Value) (g' : Option Nat) (hk : KeptX (fun k => L.dg c = some k) w W1) (hq : RowQ W1 6 v' (flat6 l') g') (hg : g' = L.dg c ∨ ∀ k, g' = some k → w.heap.size ≤ k) :
    RefM (W1.setCell ⟨L.db, c, none⟩ v') mb (m.set c { m.cl c with dn := l' }) { L with dv := fun j => if j = c then v' else L.dv j, dg := fun j => if j = c then g' else L.dg j } (reown own (10, c) g') := by
  have g := fun {α : Type} (f : Cli → α) (hx : f { m.cl c with dn := l' } = f (m.cl c)) j => set_get f (m := m) (i := c) hx j
  have hub : ∀ k, L.dg c = some k → own k = some (10, c) := fun k e => h.ow (10, c) k ⟨hc, e⟩
  have hnb : ¬ L.dg c = some L.db := fun e => by have := hub _ e; rw [h.o5] at this; cases this
  have hlb : L.db < w.heap.size := h.lto h.o5
  have hgo : ∀ k, g' = some k → own k = none ∨ own k = some (10, c) := fun k e => by
    rcases hg with x | x
    · exact Or.inr (hub k (x ▸ e))
    · exact Or.inl (h.new (x k e))
  have hgb : ∀ k, g' = some k → ¬ k = L.db := fun k e e2 => by
    rcases hgo k e with x | x <;> rw [e2, h.o5] at x <;> cases x
  have p1 : Piece (W1.setCell ⟨L.db, c, none⟩ v') mb (m.set c { m.cl c with dn := l' }) { L with dv := fun j => if j = c then v' else L.dv j, dg := fun j => if j = c then g' else L.dg j } (5, 0) := by
    obtain ⟨a0, f⟩ := h.pc 5 0 (fun _ => rfl)
    refine ⟨fun i hi => ?_, fun j => set_frozen.trans ((hk.frozen (p := ⟨L.db, j, none⟩) hlb hnb).trans (f j))⟩
    show (W1.setCell ⟨L.db, c, none⟩ v').cell? ⟨L.db, i, none⟩ = some (if i = c then v' else L.dv i)
    have hcell := (hk.cell (p := ⟨L.db, i, none⟩) hlb hnb).trans (a0 i hi)
    by_cases e : i = c
    · subst e; rw [if_pos rfl]; exact set_self hcell
    · rw [if_neg e, set_other (Or.inr (fun e2 => e e2.symm))]; exact hcell
  have p2 : Piece (W1.setCell ⟨L.db, c, none⟩ v') mb (m.set c { m.cl c with dn := l' }) { L with dv := fun j => if j = c then v' else L.dv j, dg := fun j => if j = c then g' else L.dg j } (10, c) := by
    intro _
    show RowQ _ 6 (if c = c then v' else L.dv c) (flat6 ((m.set c { m.cl c with dn := l' }).cl c).dn) (if c = c then g' else L.dg c)
    rw [if_pos rfl, if_pos rfl, set_at]
    exact hq.keep (keptX_set L.db c v') hgb
  have hkk : KeptX (fun k => k = L.db ∨ L.dg c = some k) w (W1.setCell ⟨L.db, c, none⟩ v') := KeptX.setCell (F := fun k => k = L.db ∨ L.dg c = some k) (hk.mono (fun _ _ e => Or.inr e)) (p := ⟨L.db, c, none⟩) (fun _ => Or.inl rfl) v'
  refine h.upd (5, 0) (10, c) g' hkk (fun k e => ?_) rfl rfl (fun a i hai h1 h2 hs => ?_) (fun s k h2 e => ?_) (fun k e => ?_) (fun k e => ⟨by simpa [World.setCell] using hq.lt k e, hgo k e⟩) p1 p2
  · rcases e with e | e
    · exact Or.inr (Or.inl (by rw [e]; exact h.o5))
    · exact Or.inr (Or.inr (hub k e))
  · revert hai h1 h2 hs
    intro hai h1 h2 hs
    match a, hai, h1, h2, hs with
    | 0, hai, h1, h2, hs => exact hs
    | 1, hai, h1, h2, hs => exact ⟨fun j hj => by rw [g (·.text) rfl]; exact hs.1 j hj, hs.2⟩
    | 2, hai, h1, h2, hs => exact ⟨fun j hj => by rw [g (·.hs) rfl, g (·.hc) rfl, g (·.hk) rfl]; exact hs.1 j hj, hs.2⟩
    | 3, hai, h1, h2, hs => exact ⟨fun j hj => by rw [g (·.ts) rfl, g (·.tc) rfl, g (·.tk) rfl]; exact hs.1 j hj, hs.2⟩
    | 4, hai, h1, h2, hs => exact hs
    | 5, hai, h1, h2, hs => exact absurd (by rw [hai (by omega)]) h1
    | 6, hai, h1, h2, hs => exact hs
    | 7, hai, h1, h2, hs => exact fun hi => by rw [g (·.ho) rfl]; exact hs hi
    | 8, hai, h1, h2, hs => exact fun hi => by rw [g (·.tq) rfl]; exact hs hi
    | 9, hai, h1, h2, hs => exact fun hi => by rw [g (·.up) rfl]; exact hs hi
    | 10, hai, h1, h2, hs => exact fun hi => by have hn : ¬ i = c := fun e => h2 (by rw [e]); show RowQ _ 6 (if i = c then v' else L.dv i) (flat6 ((m.set c { m.cl c with dn := l' }).cl i).dn) (if i = c then g' else L.dg i); rw [if_neg hn, if_neg hn, set_far _ _ hn]; exact hs hi
    | n + 11, hai, h1, h2, hs => exact trivial
  · obtain ⟨a, i⟩ := s
    match a, h2, e with
    | 0, h2, e => exact e
    | 1, h2, e => exact e
    | 2, h2, e => exact e
    | 3, h2, e => exact e
    | 4, h2, e => exact e
    | 5, h2, e => exact e
    | 6, h2, e => exact e
    | 7, h2, e => exact e
    | 8, h2, e => exact e
    | 9, h2, e => exact e
    | 10, h2, e => exact ⟨e.1, by have := e.2; have hn : ¬ i = c := fun e => h2 (by rw [e]); simpa [hn] using this⟩
    | n + 11, h2, e => exact e.elim
  · have := e.2
    simpa using this
/-- The history. -/
theorem RefM.histSet (h : RefM w mb m L own) (l' : List Op4) (v' : Value) (g' : Option Nat) (hk : KeptX (fun k => L.hg = some k) w W1) (hq : RowQ W1 4 v' (flat4 l') g') (hg : g' = L.hg ∨ ∀ k, g' = some k → w.heap.size ≤ k) :
    RefM (W1.setCell ⟨mb, 6, none⟩ v') mb { m with hist := l' } { L with hv := v', hg := g' } (reown own (6, 0) g') := by
  have hub : ∀ k, L.hg = some k → own k = some (6, 0) := fun k e => h.ow (6, 0) k ⟨rfl, e⟩
  have hnb : ¬ L.hg = some mb := fun e => by have := hub _ e; rw [h.o0] at this; cases this
  have hlb : mb < w.heap.size := h.lto h.o0
  have hgo : ∀ k, g' = some k → own k = none ∨ own k = some (6, 0) := fun k e => by
    rcases hg with x | x
    · exact Or.inr (hub k (x ▸ e))
    · exact Or.inl (h.new (x k e))
  have hgb : ∀ k, g' = some k → ¬ k = mb := fun k e e2 => by
    rcases hgo k e with x | x <;> rw [e2, h.o0] at x <;> cases x
  have p1 : Piece (W1.setCell ⟨mb, 6, none⟩ v') mb { m with hist := l' } { L with hv := v', hg := g' } (0, 0) := by
    obtain ⟨⟨a0, a1, a2, a3, a4, a5, a6⟩, f⟩ := h.pc 0 0 (fun _ => rfl)
    have c : ∀ j, W1.cell? ⟨mb, j, none⟩ = w.cell? ⟨mb, j, none⟩ := fun j => hk.cell (p := ⟨mb, j, none⟩) hlb hnb
    exact ⟨⟨(set_other (Or.inr (by omega))).trans ((c _).trans a0), (set_other (Or.inr (by omega))).trans ((c _).trans a1), (set_other (Or.inr (by omega))).trans ((c _).trans a2), (set_other (Or.inr (by omega))).trans ((c _).trans a3), (set_other (Or.inr (by omega))).trans ((c _).trans a4), (set_other (Or.inr (by omega))).trans ((c _).trans a5), set_self ((c _).trans a6)⟩, fun j => set_frozen.trans ((hk.frozen (p := ⟨mb, j, none⟩) hlb hnb).trans (f j))⟩
  have p2 : Piece (W1.setCell ⟨mb, 6, none⟩ v') mb { m with hist := l' } { L with hv := v', hg := g' } (6, 0) := hq.keep (keptX_set mb 6 v') hgb
  have hkk : KeptX (fun k => k = mb ∨ L.hg = some k) w (W1.setCell ⟨mb, 6, none⟩ v') := KeptX.setCell (F := fun k => k = mb ∨ L.hg = some k) (hk.mono (fun _ _ e => Or.inr e)) (p := ⟨mb, 6, none⟩) (fun _ => Or.inl rfl) v'
  refine h.upd (0, 0) (6, 0) g' hkk (fun k e => ?_) rfl rfl (fun a i hai h1 h2 hs => ?_) (fun s k h2 e => ?_) (fun k e => e.2) (fun k e => ⟨by simpa [World.setCell] using hq.lt k e, hgo k e⟩) p1 p2
  · rcases e with e | e
    · exact Or.inr (Or.inl (by rw [e]; exact h.o0))
    · exact Or.inr (Or.inr (hub k e))
  · revert hai h1 h2 hs
    intro hai h1 h2 hs
    match a, hai, h1, h2, hs with
    | 0, hai, h1, h2, hs => exact absurd (by rw [hai (by omega)]) h1
    | 1, hai, h1, h2, hs => exact hs
    | 2, hai, h1, h2, hs => exact hs
    | 3, hai, h1, h2, hs => exact hs
    | 4, hai, h1, h2, hs => exact hs
    | 5, hai, h1, h2, hs => exact hs
    | 6, hai, h1, h2, hs => exact absurd (by rw [hai (by omega)]) h2
    | 7, hai, h1, h2, hs => exact hs
    | 8, hai, h1, h2, hs => exact hs
    | 9, hai, h1, h2, hs => exact hs
    | 10, hai, h1, h2, hs => exact hs
    | n + 11, hai, h1, h2, hs => exact trivial
  · obtain ⟨a, i⟩ := s
    match a, h2, e with
    | 0, h2, e => exact e
    | 1, h2, e => exact e
    | 2, h2, e => exact e
    | 3, h2, e => exact e
    | 4, h2, e => exact e
    | 5, h2, e => exact e
    | 6, h2, e => exact absurd (by have e0 : i = 0 := e.1; rw [e0]) h2
    | 7, h2, e => exact e
    | 8, h2, e => exact e
    | 9, h2, e => exact e
    | 10, h2, e => exact e
    | n + 11, h2, e => exact e.elim
end
end Go.Proofs.Ytabahmcbhapbiaa

namespace Go.Proofs.Ytabahmcbhapbiaa
open Go.RowKit Go.Lib
set_option linter.unusedVariables false

/-- What a call on a moot may do: of what was there it turns nothing but what the moot owns; and it owns no more than that and new blocks. -/
def Frm (w : World) (own : Nat → Option Slot) (w' : World) (own' : Nat → Option Slot) : Prop := KeptX (fun k => own k ≠ none) w w' ∧ ∀ k, own' k ≠ none → own k ≠ none ∨ w.heap.size ≤ k
theorem Frm.refl (w : World) (own : Nat → Option Slot) : Frm w own w own := ⟨KeptX.refl _ _, fun _ h => Or.inl h⟩
theorem Frm.trans {w w' w'' : World} {o o' o'' : Nat → Option Slot} (h : Frm w o w' o') (k : Frm w' o' w'' o'') : Frm w o w'' o'' :=
  ⟨h.1.trans k.1 (fun i hi e => (h.2 i e).elim (fun x => x) (fun x => absurd hi (by omega))), fun i e => (k.2 i e).elim (fun x => h.2 i x) (fun x => Or.inr (Nat.le_trans h.1.size x))⟩
theorem Frm.below {w w' w'' : World} {o o' : Nat → Option Slot} (h : Frm w o w' o') (k : Below w'.heap.size w' w'') : Frm w o w'' o' :=
  ⟨h.1.trans (KeptX.of_below (F := fun _ => False) k) (fun _ _ e => e.elim), h.2⟩
theorem frame_reown {w w' : World} {own : Nat → Option Slot} {F : Nat → Prop} {s : Slot} {g : Option Nat} (hk : KeptX F w w') (hF : ∀ k, F k → own k ≠ none) (hg : ∀ k, g = some k → own k ≠ none ∨ w.heap.size ≤ k) : Frm w own w' (reown own s g) :=
  ⟨hk.mono (fun k _ e => hF k e), fun k e => (reown_foot e).elim Or.inl (fun x => hg k x)⟩

section
variable {w w' W1 : World} {mb : Nat} {m : Moo} {L : Lay} {own : Nat → Option Slot}
theorem RefM.below (h : RefM w mb m L own) (hb : Below w.heap.size w w') : RefM w' mb m L own := h.keep (KeptX.of_below (F := fun _ => False) hb) (fun _ _ e => e)
theorem RefM.frame (h : RefM w mb m L own) {b : Nat} {s : Slot} (hb : own b = some s) {s2 : Slot} {g : Option Nat} (hk : KeptX (fun k => k = b) w w') (hg : ∀ k, g = some k → w.heap.size ≤ k) : Frm w own w' (reown own s2 g) :=
  frame_reown hk (fun k e => by rw [e, hb]; simp) (fun k e => Or.inr (hg k e))

theorem take_here (h : RefM w mb m L own) {c : Nat} (hc : c < m.n) (μ : Msg) (hkn : (m.cl c).hk ≤ μ.came) (hd : μ.came - (m.cl c).hk ≤ (m.cl c).ho.length) (b1 : (m.cl c).hc ≤ 1000000000000000000) (b2 : μ.came ≤ 1000000000000000000)
    (hlen : (m.cl c).ho.length ≤ 1000000000) (ho : Bd 100000000000000 μ.o) (hl : ∀ x ∈ (m.cl c).ho, Bd 100000000000000 x) :
    Calls Try.prog 82 #[.pointer (some ⟨L.hb, c * 4, none⟩), .agg #[.int .i64 μ.o.k, .int .i64 μ.o.p, .int .i64 μ.o.b, .int .i64 μ.o.s, .int .i64 (μ.sent : Int), .int .i64 (μ.came : Int)]] w fun e w' =>
      ∃ r : Op4, r = (cross μ.o ((m.cl c).ho.drop (μ.came - (m.cl c).hk))).1 ∧ e = .returned (.agg #[.int .i64 r.k, .int .i64 r.p, .int .i64 r.b, .int .i64 r.s]) ∧ ∃ v' g', RefM w' mb (m.set c { m.cl c with hs := (m.cl c).hs, hc := (m.cl c).hc + 1, hk := μ.came, ho := (cross μ.o ((m.cl c).ho.drop (μ.came - (m.cl c).hk))).2 }) { L with ov := fun j => if j = c then v' else L.ov j, og := fun j => if j = c then g' else L.og j } (reown own (7, c) g') ∧ Frm w own w' (reown own (7, c) g') := by
  obtain ⟨a0, f⟩ := h.pc 2 0 (fun _ => rfl)
  obtain ⟨x0, x1, x2, x3⟩ := a0 c hc
  have hq := h.pc 7 c (fun e => absurd e (by omega)) hc
  have hgo : ∀ k, L.og c = some k → own k = some (7, c) := fun k e => h.ow (7, c) k ⟨hc, e⟩
  have hne : L.og c ≠ some L.hb := fun e => by have := hgo _ e; rw [h.o2] at this; cases this
  refine (take_any L.hb (c * 4) (m.cl c).hs (m.cl c).hc (m.cl c).hk (L.ov c) (m.cl c).ho (L.og c) μ.o μ.sent μ.came w (h.lto h.o2) (μ.came - (m.cl c).hk) (by omega) hd x1 x2 x3 (f _) (f _) (f _) (by omega) (by omega) (by omega) (by omega) (by omega) hq hne (by omega) ho hl).mono ?_
  rintro e w' ⟨rfl, v', g', y1, y2, y3, yq, yg, yk, yo, yf⟩
  refine ⟨_, rfl, rfl, v', g', h.hereSet hc _ _ _ _ v' g' yk ⟨(yo _ (by omega) (by omega) (by omega)).trans x0, y1, y2, y3⟩ (fun j hj => yo j (by omega) (by omega) (by omega)) yf yq yg, h.frame h.o2 yk yg⟩
theorem send_here (h : RefM w mb m L own) {c : Nat} (hc : c < m.n) (o : Op4) (b1 : (m.cl c).hs ≤ 1000000000000000000) (hlen : (m.cl c).ho.length ≤ 1000000000) :
    Calls Try.prog 81 #[.pointer (some ⟨L.hb, c * 4, none⟩), .agg #[.int .i64 o.k, .int .i64 o.p, .int .i64 o.b, .int .i64 o.s]] w fun e w' =>
      e = .returned (.agg #[.int .i64 o.k, .int .i64 o.p, .int .i64 o.b, .int .i64 o.s, .int .i64 ((m.cl c).hs : Int), .int .i64 ((m.cl c).hc : Int)]) ∧ ∃ v' g', RefM w' mb (m.set c { m.cl c with hs := (m.cl c).hs + 1, hc := (m.cl c).hc, hk := (m.cl c).hk, ho := (m.cl c).ho ++ [o] }) { L with ov := fun j => if j = c then v' else L.ov j, og := fun j => if j = c then g' else L.og j } (reown own (7, c) g') ∧ Frm w own w' (reown own (7, c) g') := by
  obtain ⟨a0, f⟩ := h.pc 2 0 (fun _ => rfl)
  obtain ⟨x0, x1, x2, x3⟩ := a0 c hc
  have hq := h.pc 7 c (fun e => absurd e (by omega)) hc
  have hgo : ∀ k, L.og c = some k → own k = some (7, c) := fun k e => h.ow (7, c) k ⟨hc, e⟩
  have hne : L.og c ≠ some L.hb := fun e => by have := hgo _ e; rw [h.o2] at this; cases this
  refine (send_any L.hb (c * 4) (m.cl c).hs (m.cl c).hc (m.cl c).hk (L.ov c) (m.cl c).ho (L.og c) o.k o.p o.b o.s w (h.lto h.o2) x0 x1 x3 (f _) (f _) (by omega) (by omega) hq hne (by omega)).mono ?_
  rintro e w' ⟨rfl, v', g', y0, y3, yq, yg, yk, yo, yf⟩
  have yg' : ∀ k, some g' = some k → w.heap.size ≤ k := fun k e => by cases e; exact yg
  refine ⟨rfl, v', some g', h.hereSet hc _ _ _ _ v' (some g') yk ⟨y0, (yo _ (by omega) (by omega)).trans x1, (yo _ (by omega) (by omega)).trans x2, y3⟩ (fun j hj => yo j (by omega) (by omega)) yf yq yg', h.frame h.o2 yk yg'⟩

theorem take_there (h : RefM w mb m L own) {c : Nat} (hc : c < m.n) (μ : Msg) (hkn : (m.cl c).tk ≤ μ.came) (hd : μ.came - (m.cl c).tk ≤ (m.cl c).tq.length) (b1 : (m.cl c).tc ≤ 1000000000000000000) (b2 : μ.came ≤ 1000000000000000000)
    (hlen : (m.cl c).tq.length ≤ 2000000000000) (ho : Bd 100000000000000 μ.o) (hl : ∀ x ∈ (m.cl c).tq, Bd 100000000000000 x) :
    Calls Try.prog 82 #[.pointer (some ⟨L.sb, c * 4, none⟩), .agg #[.int .i64 μ.o.k, .int .i64 μ.o.p, .int .i64 μ.o.b, .int .i64 μ.o.s, .int .i64 (μ.sent : Int), .int .i64 (μ.came : Int)]] w fun e w' =>
      ∃ r : Op4, r = (cross μ.o ((m.cl c).tq.drop (μ.came - (m.cl c).tk))).1 ∧ e = .returned (.agg #[.int .i64 r.k, .int .i64 r.p, .int .i64 r.b, .int .i64 r.s]) ∧ ∃ v' g', RefM w' mb (m.set c { m.cl c with ts := (m.cl c).ts, tc := (m.cl c).tc + 1, tk := μ.came, tq := (cross μ.o ((m.cl c).tq.drop (μ.came - (m.cl c).tk))).2 }) { L with sv := fun j => if j = c then v' else L.sv j, sg := fun j => if j = c then g' else L.sg j } (reown own (8, c) g') ∧ Frm w own w' (reown own (8, c) g') := by
  obtain ⟨a0, f⟩ := h.pc 3 0 (fun _ => rfl)
  obtain ⟨x0, x1, x2, x3⟩ := a0 c hc
  have hq := h.pc 8 c (fun e => absurd e (by omega)) hc
  have hgo : ∀ k, L.sg c = some k → own k = some (8, c) := fun k e => h.ow (8, c) k ⟨hc, e⟩
  have hne : L.sg c ≠ some L.sb := fun e => by have := hgo _ e; rw [h.o3] at this; cases this
  refine (take_any L.sb (c * 4) (m.cl c).ts (m.cl c).tc (m.cl c).tk (L.sv c) (m.cl c).tq (L.sg c) μ.o μ.sent μ.came w (h.lto h.o3) (μ.came - (m.cl c).tk) (by omega) hd x1 x2 x3 (f _) (f _) (f _) (by omega) (by omega) (by omega) (by omega) (by omega) hq hne (by omega) ho hl).mono ?_
  rintro e w' ⟨rfl, v', g', y1, y2, y3, yq, yg, yk, yo, yf⟩
  refine ⟨_, rfl, rfl, v', g', h.thereSet hc _ _ _ _ v' g' yk ⟨(yo _ (by omega) (by omega) (by omega)).trans x0, y1, y2, y3⟩ (fun j hj => yo j (by omega) (by omega) (by omega)) yf yq yg, h.frame h.o3 yk yg⟩
theorem send_there (h : RefM w mb m L own) {c : Nat} (hc : c < m.n) (o : Op4) (b1 : (m.cl c).ts ≤ 1000000000000000000) (hlen : (m.cl c).tq.length ≤ 2000000000000) :
    Calls Try.prog 81 #[.pointer (some ⟨L.sb, c * 4, none⟩), .agg #[.int .i64 o.k, .int .i64 o.p, .int .i64 o.b, .int .i64 o.s]] w fun e w' =>
      e = .returned (.agg #[.int .i64 o.k, .int .i64 o.p, .int .i64 o.b, .int .i64 o.s, .int .i64 ((m.cl c).ts : Int), .int .i64 ((m.cl c).tc : Int)]) ∧ ∃ v' g', RefM w' mb (m.set c { m.cl c with ts := (m.cl c).ts + 1, tc := (m.cl c).tc, tk := (m.cl c).tk, tq := (m.cl c).tq ++ [o] }) { L with sv := fun j => if j = c then v' else L.sv j, sg := fun j => if j = c then g' else L.sg j } (reown own (8, c) g') ∧ Frm w own w' (reown own (8, c) g') := by
  obtain ⟨a0, f⟩ := h.pc 3 0 (fun _ => rfl)
  obtain ⟨x0, x1, x2, x3⟩ := a0 c hc
  have hq := h.pc 8 c (fun e => absurd e (by omega)) hc
  have hgo : ∀ k, L.sg c = some k → own k = some (8, c) := fun k e => h.ow (8, c) k ⟨hc, e⟩
  have hne : L.sg c ≠ some L.sb := fun e => by have := hgo _ e; rw [h.o3] at this; cases this
  refine (send_any L.sb (c * 4) (m.cl c).ts (m.cl c).tc (m.cl c).tk (L.sv c) (m.cl c).tq (L.sg c) o.k o.p o.b o.s w (h.lto h.o3) x0 x1 x3 (f _) (f _) (by omega) (by omega) hq hne (by omega)).mono ?_
  rintro e w' ⟨rfl, v', g', y0, y3, yq, yg, yk, yo, yf⟩
  have yg' : ∀ k, some g' = some k → w.heap.size ≤ k := fun k e => by cases e; exact yg
  refine ⟨rfl, v', some g', h.thereSet hc _ _ _ _ v' (some g') yk ⟨y0, (yo _ (by omega) (by omega)).trans x1, (yo _ (by omega) (by omega)).trans x2, y3⟩ (fun j hj => yo j (by omega) (by omega)) yf yq yg', h.frame h.o3 yk yg'⟩
end
end Go.Proofs.Ytabahmcbhapbiaa
