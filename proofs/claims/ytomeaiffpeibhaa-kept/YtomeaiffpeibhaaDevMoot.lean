import Derived.Test.YtomeaiffpeibhaaEndMem
namespace Go.Proofs.Ytomeaiffpeibhaa
open Go.RowKit Go.Lib
set_option linter.unusedVariables false
set_option linter.unusedSimpArgs false

/-! ### The developers' moot in memory -/
abbrev dstr (t : List UInt8) : Value := .string ⟨t.toArray⟩
theorem hidP {p : Prop} (h : p) : Hid p := h
/-- The fixed blocks: the server, the row of clients, the row of seats, the clients. -/
structure DLay where
  vb : Nat
  kb : Nat
  kcap : Nat
  eb : Nat
  ecap : Nat
  cb : Nat → Nat
/-- A client at its block. -/
structure CliMem (w : World) (cb i : Nat) (x : Cli) (go gq : Option Nat) : Prop where
  en : ∃ vo vq, EndAt w cb 0 x.hs x.hc vo vq x.ho x.up go gq
  c4 : w.cell? ⟨cb, 4, none⟩ = some (.int .i64 (i : Int))
  c5 : w.cell? ⟨cb, 5, none⟩ = some (dstr x.text)
/-- A seat in the row of seats. -/
structure SeatMem (w : World) (eb i : Nat) (x : Cli) (go gq : Option Nat) : Prop where
  en : ∃ vo vq, EndAt w eb (i * 5) x.ts x.tc vo vq x.to x.dn go gq
  c4 : w.cell? ⟨eb, i * 5 + 4, none⟩ = some (.int .i64 (i : Int))
/-- What a call on a client's block may turn. -/
structure LocKept (w w' : World) (b : Nat) (go gq go' gq' : Option Nat) : Prop where
  kx : KeptX (fun k => k = b ∨ go = some k ∨ gq = some k) w w'
  fo : ∀ k, go' = some k → go = some k ∨ w.heap.size ≤ k
  fq : ∀ k, gq' = some k → gq = some k ∨ w.heap.size ≤ k
theorem EndAt.ltO {w : World} {b o s c : Nat} {vo vq : Value} {l : List Op4} {q : List Msg} {go gq : Option Nat} (h : EndAt w b o s c vo vq l q go gq) : ∀ k, go = some k → k < w.heap.size := h.qo.lt
theorem LocKept.refl (w : World) (b : Nat) (go gq : Option Nat) : LocKept w w b go gq go gq := ⟨KeptX.refl _ _, fun _ e => Or.inl e, fun _ e => Or.inl e⟩
theorem LocKept.trans {w w1 w2 : World} {b : Nat} {go gq go1 gq1 go2 gq2 : Option Nat} (h : LocKept w w1 b go gq go1 gq1) (k : LocKept w1 w2 b go1 gq1 go2 gq2) : LocKept w w2 b go gq go2 gq2 := by
  refine ⟨h.kx.trans k.kx (fun i hi e => ?_), fun i e => ?_, fun i e => ?_⟩
  · rcases e with e | e | e
    · exact Or.inl e
    · rcases h.fo i e with e | e
      · exact Or.inr (Or.inl e)
      · omega
    · rcases h.fq i e with e | e
      · exact Or.inr (Or.inr e)
      · omega
  · rcases k.fo i e with e | e
    · exact h.fo i e
    · exact Or.inr (Nat.le_trans h.kx.size e)
  · rcases k.fq i e with e | e
    · exact h.fq i e
    · exact Or.inr (Nat.le_trans h.kx.size e)
theorem LocKept.below {w w1 w2 : World} {b : Nat} {go gq go1 gq1 : Option Nat} (h : LocKept w w1 b go gq go1 gq1) (hb : Below w1.heap.size w1 w2) : LocKept w w2 b go gq go1 gq1 :=
  h.trans ⟨KeptX.of_below hb, fun _ e => Or.inl e, fun _ e => Or.inl e⟩
theorem LocKept.of_below {w w2 : World} {b : Nat} {go gq : Option Nat} (hb : Below w.heap.size w w2) : LocKept w w2 b go gq go gq := (LocKept.refl w b go gq).below hb
theorem LocKept.of_end {w w' : World} {b o : Nat} {go gq go' gq' : Option Nat} (h : EndKept w w' b o go gq go' gq') : LocKept w w' b go gq go' gq' := ⟨h.kx, h.fo, h.fq⟩
theorem LocKept.of_set {w w' : World} {b o s c : Nat} {vo vq : Value} {l : List Op4} {q : List Msg} {go gq : Option Nat} (h : EndSet w w' b o s c vo vq l q go gq) : LocKept w w' b go gq go gq := ⟨h.kx.mono (fun _ _ e => Or.inl e), fun _ e => Or.inl e, fun _ e => Or.inl e⟩
theorem CliMem.keep {w w' : World} {cb i : Nat} {x : Cli} {go gq : Option Nat} {F : Nat → Prop} (h : CliMem w cb i x go gq) (hk : KeptX F w w') (hF : ∀ k, (k = cb ∨ go = some k ∨ gq = some k) → ¬ F k) : CliMem w' cb i x go gq := by
  obtain ⟨⟨vo, vq, he⟩, h4, h5⟩ := h
  exact ⟨⟨vo, vq, he.keep hk hF⟩, (hk.cell (p := ⟨cb, 4, none⟩) he.lt (hF cb (Or.inl rfl))).trans h4, (hk.cell (p := ⟨cb, 5, none⟩) he.lt (hF cb (Or.inl rfl))).trans h5⟩
theorem CliMem.below {w w' : World} {cb i : Nat} {x : Cli} {go gq : Option Nat} (h : CliMem w cb i x go gq) (hb : Below w.heap.size w w') : CliMem w' cb i x go gq := h.keep (KeptX.of_below (F := fun _ => False) hb) (fun _ _ e => e)
theorem SeatMem.keep {w w' : World} {eb i : Nat} {x : Cli} {go gq : Option Nat} {F : Nat → Prop} (h : SeatMem w eb i x go gq) (hk : KeptX F w w') (hF : ∀ k, (k = eb ∨ go = some k ∨ gq = some k) → ¬ F k) : SeatMem w' eb i x go gq := by
  obtain ⟨⟨vo, vq, he⟩, h4⟩ := h
  exact ⟨⟨vo, vq, he.keep hk hF⟩, (hk.cell (p := ⟨eb, i * 5 + 4, none⟩) he.lt (hF eb (Or.inl rfl))).trans h4⟩

/-- The moot m at mb. 'own' tells whose a block is: 0 the moot, 1 the server, 2 the row of clients, 3 the row of seats, 10 + i the client i, 20 + i the seat i's lists. -/
structure DevM (w : World) (mb : Nat) (m : Moo) (L : DLay) (own : Nat → Option Nat) : Prop where
  n1 : 1 ≤ m.n
  n4 : m.n ≤ 4
  m0 : w.cell? ⟨mb, 0, none⟩ = some (.pointer (some ⟨L.vb, 0, none⟩))
  m1 : w.cell? ⟨mb, 1, none⟩ = some (.slice (some ⟨L.kb, 0, none⟩) m.n L.kcap)
  v0 : w.cell? ⟨L.vb, 0, none⟩ = some (dstr m.srv)
  v1 : w.cell? ⟨L.vb, 1, none⟩ = some (.slice (some ⟨L.eb, 0, none⟩) m.n L.ecap)
  vf : ∀ j, w.frozen? ⟨L.vb, j, none⟩ = false
  kp : ∀ i, i < m.n → w.cell? ⟨L.kb, i, none⟩ = some (.pointer (some ⟨L.cb i, 0, none⟩))
  cl : ∀ i, i < m.n → ∃ go gq, CliMem w (L.cb i) i (m.cl i) go gq ∧ own (L.cb i) = some (10 + i) ∧ (∀ k, go = some k → own k = some (10 + i)) ∧ (∀ k, gq = some k → own k = some (10 + i))
  se : ∀ i, i < m.n → ∃ go gq, SeatMem w L.eb i (m.cl i) go gq ∧ (∀ k, go = some k → own k = some (20 + i)) ∧ (∀ k, gq = some k → own k = some (20 + i))
  ko : ∀ i, i < m.n → (m.cl i).hk + (m.cl i).ho.length = (m.cl i).hs ∧ (m.cl i).tk + (m.cl i).to.length = (m.cl i).ts
  o0 : own mb = some 0
  o1 : own L.vb = some 1
  o2 : own L.kb = some 2
  o3 : own L.eb = some 3
  lt : ∀ k, own k ≠ none → k < w.heap.size
section
variable {w w' : World} {mb : Nat} {m : Moo} {L : DLay} {own : Nat → Option Nat}
theorem DevM.lto (h : DevM w mb m L own) {k a : Nat} (e : own k = some a) : k < w.heap.size := h.lt k (by rw [e]; simp)
/-- What a call on a moot may turn: its own blocks; what is new may be its own then. -/
structure DFrm (w : World) (own : Nat → Option Nat) (w' : World) (own' : Nat → Option Nat) : Prop where
  kx : KeptX (fun k => own k ≠ none) w w'
  nw : ∀ k, own' k ≠ none → own k ≠ none ∨ w.heap.size ≤ k
theorem DFrm.refl (w : World) (own : Nat → Option Nat) : DFrm w own w own := ⟨KeptX.refl _ _, fun _ e => Or.inl e⟩
theorem DFrm.trans {w w1 w2 : World} {o o1 o2 : Nat → Option Nat} (h : DFrm w o w1 o1) (k : DFrm w1 o1 w2 o2) : DFrm w o w2 o2 :=
  ⟨h.kx.trans k.kx (fun i hi e => (h.nw i e).elim id (fun x => absurd hi (by omega))), fun i e => (k.nw i e).elim (h.nw i) (fun x => Or.inr (Nat.le_trans h.kx.size x))⟩
theorem DFrm.of_below {w w1 : World} {o : Nat → Option Nat} (h : Below w.heap.size w w1) : DFrm w o w1 o := ⟨KeptX.of_below h, fun _ e => Or.inl e⟩
/-- What turns none of its blocks keeps the moot. -/
theorem DevM.keep {F : Nat → Prop} (h : DevM w mb m L own) (hk : KeptX F w w') (hF : ∀ k, own k ≠ none → ¬ F k) : DevM w' mb m L own := by
  have c : ∀ {b a : Nat} (j : Nat), own b = some a → w'.cell? ⟨b, j, none⟩ = w.cell? ⟨b, j, none⟩ := fun {b a} j e => hk.cell (p := ⟨b, j, none⟩) (h.lto e) (hF b (by rw [e]; simp))
  have s : ∀ {k a : Nat}, own k = some a → ¬ F k := fun {k a} e => hF k (by rw [e]; simp)
  refine ⟨h.n1, h.n4, (c 0 h.o0).trans h.m0, (c 1 h.o0).trans h.m1, (c 0 h.o1).trans h.v0, (c 1 h.o1).trans h.v1, fun j => (hk.frozen (p := ⟨L.vb, j, none⟩) (h.lto h.o1) (s h.o1)).trans (h.vf j), fun i hi => (c i h.o2).trans (h.kp i hi), fun i hi => ?_, fun i hi => ?_, h.ko, h.o0, h.o1, h.o2, h.o3, fun k e => Nat.lt_of_lt_of_le (h.lt k e) hk.size⟩
  · obtain ⟨go, gq, h1, h2, h3, h4⟩ := h.cl i hi
    exact ⟨go, gq, h1.keep hk (fun k e => by rcases e with rfl | e | e; exact s h2; exact s (h3 k e); exact s (h4 k e)), h2, h3, h4⟩
  · obtain ⟨go, gq, h1, h3, h4⟩ := h.se i hi
    exact ⟨go, gq, h1.keep hk (fun k e => by rcases e with rfl | e | e; exact s h.o3; exact s (h3 k e); exact s (h4 k e)), h3, h4⟩
theorem DevM.below (h : DevM w mb m L own) (hb : Below w.heap.size w w') : DevM w' mb m L own := h.keep (KeptX.of_below (F := fun _ => False) hb) (fun _ _ e => e)

/-- The new blocks are a's. -/
def grown (own : Nat → Option Nat) (w w' : World) (a : Nat) : Nat → Option Nat := fun k => if w.heap.size ≤ k ∧ k < w'.heap.size then some a else own k
theorem grown_old {a k b : Nat} (hlt : ∀ k, own k ≠ none → k < w.heap.size) (h : own k = some b) : grown own w w' a k = some b := by
  unfold grown
  rw [if_neg (fun e => by have := hlt k (by rw [h]; simp); omega)]
  exact h
theorem grown_new {a k : Nat} (h1 : w.heap.size ≤ k) (h2 : k < w'.heap.size) : grown own w w' a k = some a := if_pos ⟨h1, h2⟩
theorem grown_lt {a k : Nat} (hs : w.heap.size ≤ w'.heap.size) (hlt : ∀ k, own k ≠ none → k < w.heap.size) (h : grown own w w' a k ≠ none) : k < w'.heap.size := by
  unfold grown at h
  by_cases e : w.heap.size ≤ k ∧ k < w'.heap.size
  · exact e.2
  · rw [if_neg e] at h
    have := hlt k h
    omega
theorem grown_frm {a : Nat} {F : Nat → Prop} (hk : KeptX F w w') (hF : ∀ k, F k → k < w.heap.size → own k ≠ none) : DFrm w own w' (grown own w w' a) :=
  ⟨hk.mono (fun k hk e => hF k e hk), fun k e => by
    unfold grown at e
    by_cases c : w.heap.size ≤ k ∧ k < w'.heap.size
    · exact Or.inr c.1
    · rw [if_neg c] at e; exact Or.inl e⟩
theorem dset_at (m : Moo) (i : Nat) (x : Cli) : (m.set i x).cl i = x := if_pos rfl
theorem dset_far (m : Moo) {i j : Nat} (x : Cli) (h : j ≠ i) : (m.set i x).cl j = m.cl j := if_neg h

/-- A client's block was turned by a call on it. -/
theorem DevM.cliSet (h : DevM w mb m L own) {i : Nat} (hi : i < m.n) {go gq go' gq' : Option Nat} {x' : Cli} (h2 : own (L.cb i) = some (10 + i)) (h3 : ∀ k, go = some k → own k = some (10 + i)) (h4 : ∀ k, gq = some k → own k = some (10 + i))
    (hk : LocKept w w' (L.cb i) go gq go' gq') (hc : CliMem w' (L.cb i) i x' go' gq') (hko : x'.hk + x'.ho.length = x'.hs) (e1 : x'.ts = (m.cl i).ts) (e2 : x'.tc = (m.cl i).tc) (e3 : x'.tk = (m.cl i).tk) (e4 : x'.to = (m.cl i).to) (e5 : x'.dn = (m.cl i).dn) :
    DevM w' mb (m.set i x') L (grown own w w' (10 + i)) ∧ DFrm w own w' (grown own w w' (10 + i)) := by
  have hF : ∀ k, (k = L.cb i ∨ go = some k ∨ gq = some k) → own k = some (10 + i) := fun k e => by
    rcases e with rfl | e | e
    · exact h2
    · exact h3 k e
    · exact h4 k e
  have s : ∀ {k a : Nat}, own k = some a → a ≠ 10 + i → ¬ (k = L.cb i ∨ go = some k ∨ gq = some k) := fun {k a} e hn e2 => hn (by have := hF k e2; rw [e] at this; exact Option.some.inj this)
  have c : ∀ {b a : Nat} (j : Nat), own b = some a → a ≠ 10 + i → w'.cell? ⟨b, j, none⟩ = w.cell? ⟨b, j, none⟩ := fun {b a} j e hn => hk.kx.cell (p := ⟨b, j, none⟩) (h.lto e) (s e hn)
  have g : ∀ {k a : Nat}, own k = some a → grown own w w' (10 + i) k = some a := fun {k a} e => grown_old h.lt e
  have hi4 : i < 4 := Nat.lt_of_lt_of_le hi h.n4
  refine ⟨⟨h.n1, h.n4, (c 0 h.o0 (by omega)).trans h.m0, (c 1 h.o0 (by omega)).trans h.m1, (c 0 h.o1 (by omega)).trans h.v0, (c 1 h.o1 (by omega)).trans h.v1, fun j => (hk.kx.frozen (p := ⟨L.vb, j, none⟩) (h.lto h.o1) (s h.o1 (by omega))).trans (h.vf j), fun j hj => (c j h.o2 (by omega)).trans (h.kp j hj), fun j hj => ?_, fun j hj => ?_, fun j hj => ?_, g h.o0, g h.o1, g h.o2, g h.o3, fun k e => grown_lt hk.kx.size h.lt e⟩, grown_frm hk.kx (fun k e _ => by rw [hF k e]; simp)⟩
  · by_cases e : j = i
    · subst e
      rw [dset_at]
      refine ⟨go', gq', hc, g h2, fun k e => ?_, fun k e => ?_⟩
      · rcases hk.fo k e with e' | e'
        · exact g (h3 k e')
        · obtain ⟨vo, vq, he⟩ := hc.en
          exact grown_new e' (he.qo.lt k e)
      · rcases hk.fq k e with e' | e'
        · exact g (h4 k e')
        · obtain ⟨vo, vq, he⟩ := hc.en
          exact grown_new e' (he.qq.lt k e)
    · rw [dset_far _ _ e]
      obtain ⟨a1, a2, b1, b2, b3, b4⟩ := h.cl j hj
      exact ⟨a1, a2, b1.keep hk.kx (fun k e2 => by rcases e2 with rfl | e2 | e2; exact s b2 (by omega); exact s (b3 k e2) (by omega); exact s (b4 k e2) (by omega)), g b2, fun k e => g (b3 k e), fun k e => g (b4 k e)⟩
  · obtain ⟨a1, a2, b1, b3, b4⟩ := h.se j hj
    have b1' := b1.keep hk.kx (fun k e2 => by rcases e2 with rfl | e2 | e2; exact s h.o3 (by omega); exact s (b3 k e2) (by have : j < 4 := Nat.lt_of_lt_of_le hj h.n4; omega); exact s (b4 k e2) (by have : j < 4 := Nat.lt_of_lt_of_le hj h.n4; omega))
    refine ⟨a1, a2, ?_, fun k e => g (b3 k e), fun k e => g (b4 k e)⟩
    by_cases e : j = i
    · subst e
      rw [dset_at]
      obtain ⟨⟨vo, vq, he⟩, h4'⟩ := b1'
      exact ⟨⟨vo, vq, by rw [e1, e2, e4, e5]; exact he⟩, h4'⟩
    · rw [dset_far _ _ e]; exact b1'
  · by_cases e : j = i
    · subst e
      rw [dset_at]
      have := (h.ko j hj).2
      exact ⟨hko, by rw [e1, e3, e4]; exact this⟩
    · rw [dset_far _ _ e]; exact h.ko j hj
/-- A seat was turned by a call on its end. -/
theorem DevM.seatSet (h : DevM w mb m L own) {i : Nat} (hi : i < m.n) {go gq go' gq' : Option Nat} {x' : Cli} (h3 : ∀ k, go = some k → own k = some (20 + i)) (h4 : ∀ k, gq = some k → own k = some (20 + i))
    (hk : EndKept w w' L.eb (i * 5) go gq go' gq') (hc : ∃ vo vq, EndAt w' L.eb (i * 5) x'.ts x'.tc vo vq x'.to x'.dn go' gq') (hko : x'.tk + x'.to.length = x'.ts) (e0 : x'.text = (m.cl i).text) (e1 : x'.hs = (m.cl i).hs) (e2 : x'.hc = (m.cl i).hc) (e3 : x'.hk = (m.cl i).hk) (e4 : x'.ho = (m.cl i).ho) (e5 : x'.up = (m.cl i).up) :
    DevM w' mb (m.set i x') L (grown own w w' (20 + i)) ∧ DFrm w own w' (grown own w w' (20 + i)) := by
  have hF : ∀ k, (k = L.eb ∨ go = some k ∨ gq = some k) → own k = some 3 ∨ own k = some (20 + i) := fun k e => by
    rcases e with rfl | e | e
    · exact Or.inl h.o3
    · exact Or.inr (h3 k e)
    · exact Or.inr (h4 k e)
  have s : ∀ {k a : Nat}, own k = some a → a ≠ 3 → a ≠ 20 + i → ¬ (k = L.eb ∨ go = some k ∨ gq = some k) := fun {k a} e hn hm e2 => by
    rcases hF k e2 with x | x
    · rw [e] at x; exact hn (Option.some.inj x)
    · rw [e] at x; exact hm (Option.some.inj x)
  have c : ∀ {b a : Nat} (j : Nat), own b = some a → a ≠ 3 → a ≠ 20 + i → w'.cell? ⟨b, j, none⟩ = w.cell? ⟨b, j, none⟩ := fun {b a} j e hn hm => hk.kx.cell (p := ⟨b, j, none⟩) (h.lto e) (s e hn hm)
  have g : ∀ {k a : Nat}, own k = some a → grown own w w' (20 + i) k = some a := fun {k a} e => grown_old h.lt e
  have hi4 : i < 4 := Nat.lt_of_lt_of_le hi h.n4
  refine ⟨⟨h.n1, h.n4, (c 0 h.o0 (by omega) (by omega)).trans h.m0, (c 1 h.o0 (by omega) (by omega)).trans h.m1, (c 0 h.o1 (by omega) (by omega)).trans h.v0, (c 1 h.o1 (by omega) (by omega)).trans h.v1, fun j => (hk.kx.frozen (p := ⟨L.vb, j, none⟩) (h.lto h.o1) (s h.o1 (by omega) (by omega))).trans (h.vf j), fun j hj => (c j h.o2 (by omega) (by omega)).trans (h.kp j hj), fun j hj => ?_, fun j hj => ?_, fun j hj => ?_, g h.o0, g h.o1, g h.o2, g h.o3, fun k e => grown_lt hk.kx.size h.lt e⟩, grown_frm hk.kx (fun k e _ => by rcases hF k e with x | x <;> (rw [x]; simp))⟩
  · have hj4 : j < 4 := Nat.lt_of_lt_of_le hj h.n4
    obtain ⟨a1, a2, b1, b2, b3, b4⟩ := h.cl j hj
    have b1' := b1.keep hk.kx (fun k e2 => by rcases e2 with rfl | e2 | e2; exact s b2 (by omega) (by omega); exact s (b3 k e2) (by omega) (by omega); exact s (b4 k e2) (by omega) (by omega))
    refine ⟨a1, a2, ?_, g b2, fun k e => g (b3 k e), fun k e => g (b4 k e)⟩
    by_cases e : j = i
    · subst e
      rw [dset_at]
      obtain ⟨⟨vo, vq, he⟩, h4', h5'⟩ := b1'
      exact ⟨⟨vo, vq, by rw [e1, e2, e4, e5]; exact he⟩, h4', by rw [e0]; exact h5'⟩
    · rw [dset_far _ _ e]; exact b1'
  · have hj4 : j < 4 := Nat.lt_of_lt_of_le hj h.n4
    by_cases e : j = i
    · subst e
      rw [dset_at]
      obtain ⟨_, _, ⟨_, b4⟩, _, _⟩ := h.se j hj
      refine ⟨go', gq', ⟨hc, (hk.ot _ (by omega)).trans b4⟩, fun k e => ?_, fun k e => ?_⟩
      · rcases hk.fo k e with e' | e'
        · exact g (h3 k e')
        · obtain ⟨vo, vq, he⟩ := hc
          exact grown_new e' (he.qo.lt k e)
      · rcases hk.fq k e with e' | e'
        · exact g (h4 k e')
        · obtain ⟨vo, vq, he⟩ := hc
          exact grown_new e' (he.qq.lt k e)
    · rw [dset_far _ _ e]
      obtain ⟨a1, a2, ⟨⟨vo, vq, he⟩, b4'⟩, b3, b4⟩ := h.se j hj
      have hlt : L.eb < w'.heap.size := Nat.lt_of_lt_of_le he.lt hk.kx.size
      have ot : ∀ t, t < 5 → w'.cell? ⟨L.eb, j * 5 + t, none⟩ = w.cell? ⟨L.eb, j * 5 + t, none⟩ := fun t ht => hk.ot _ (by omega)
      have fz : ∀ t, w'.frozen? ⟨L.eb, t, none⟩ = false := fun t => by obtain ⟨vo, vq, he2⟩ := hc; exact he2.fr t
      refine ⟨a1, a2, ⟨⟨vo, vq, ⟨hlt, (ot 0 (by omega)).trans he.c0, (ot 1 (by omega)).trans he.c1, (ot 2 (by omega)).trans he.c2, (ot 3 (by omega)).trans he.c3, he.qo.keep hk.kx (fun k e2 => s (b3 k e2) (by omega) (by omega)), he.qq.keep hk.kx (fun k e2 => s (b4 k e2) (by omega) (by omega)), fz, he.no, he.nq, he.ne⟩⟩, (ot 4 (by omega)).trans b4'⟩, fun k e => g (b3 k e), fun k e => g (b4 k e)⟩
  · by_cases e : j = i
    · subst e
      rw [dset_at]
      have := (h.ko j hj).1
      exact ⟨by rw [e1, e3, e4]; exact this, hko⟩
    · rw [dset_far _ _ e]; exact h.ko j hj
/-- The server's text is set. -/
theorem DevM.srvSet (h : DevM w mb m L own) (t : List UInt8) : DevM (w.setCell ⟨L.vb, 0, none⟩ (dstr t)) mb { m with srv := t } L own ∧ DFrm w own (w.setCell ⟨L.vb, 0, none⟩ (dstr t)) own := by
  have hk : KeptX (fun k => k = L.vb) w (w.setCell ⟨L.vb, 0, none⟩ (dstr t)) := (KeptX.refl (fun k => k = L.vb) w).setCell (p := ⟨L.vb, 0, none⟩) (fun _ => rfl) _
  have s : ∀ {k a : Nat}, own k = some a → a ≠ 1 → ¬ (k = L.vb) := fun {k a} e hn e2 => hn (by rw [e2, h.o1] at e; exact (Option.some.inj e).symm)
  have c : ∀ {b a : Nat} (j : Nat), own b = some a → a ≠ 1 → (w.setCell ⟨L.vb, 0, none⟩ (dstr t)).cell? ⟨b, j, none⟩ = w.cell? ⟨b, j, none⟩ := fun {b a} j e hn => hk.cell (p := ⟨b, j, none⟩) (h.lto e) (s e hn)
  refine ⟨⟨h.n1, h.n4, (c 0 h.o0 (by omega)).trans h.m0, (c 1 h.o0 (by omega)).trans h.m1, by have := h.v0; simp [go_sem, this], (World.cell?_setCell_other _ _ _ _ (by simp)).trans h.v1, fun j => by rw [World.frozen?_setCell]; exact h.vf j, fun j hj => (c j h.o2 (by omega)).trans (h.kp j hj), fun j hj => ?_, fun j hj => ?_, h.ko, h.o0, h.o1, h.o2, h.o3, fun k e => Nat.lt_of_lt_of_le (h.lt k e) hk.size⟩, ⟨hk.mono (fun k _ e => by rw [e, h.o1]; simp), fun _ e => Or.inl e⟩⟩
  · obtain ⟨a1, a2, b1, b2, b3, b4⟩ := h.cl j hj
    exact ⟨a1, a2, b1.keep hk (fun k e2 => by rcases e2 with rfl | e2 | e2; exact s b2 (by omega); exact s (b3 k e2) (by omega); exact s (b4 k e2) (by omega)), b2, b3, b4⟩
  · obtain ⟨a1, a2, b1, b3, b4⟩ := h.se j hj
    exact ⟨a1, a2, b1.keep hk (fun k e2 => by rcases e2 with rfl | e2 | e2; exact s h.o3 (by omega); exact s (b3 k e2) (by omega); exact s (b4 k e2) (by omega)), b3, b4⟩
end
end Go.Proofs.Ytomeaiffpeibhaa
