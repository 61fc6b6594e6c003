import Derived.Test.YtabahmcbhapbiaaQEndMem
namespace Go.Proofs.Ytabahmcbhapbiaa
open Go.RowKit Go.Lib
set_option linter.unusedVariables false
set_option linter.unusedSimpArgs false

/-! ### The developers' moot in memory -/
abbrev dstr (t : List UInt8) : Value := .string ⟨t.toArray⟩
theorem hidP {p : Prop} (h : p) : Hid p := h
/-- The fixed blocks: the server, the row of clients, the row of seats, the clients. -/
structure DLay where
  vb : Nat
  kb : Nat
  kcap : Nat
  eb : Nat
  ecap : Nat
  cb : Nat → Nat
/-- A client at its block. -/
structure CliMem (w : World) (cb i : Nat) (x : Cli) (go gq : Option Nat) : Prop where
  en : ∃ vo vq, EndAt w cb 0 x.hs x.hc vo vq x.ho x.up go gq
  c4 : w.cell? ⟨cb, 4, none⟩ = some (.int .i64 (i : Int))
  c5 : w.cell? ⟨cb, 5, none⟩ = some (dstr x.text)
/-- A seat in the row of seats. -/
structure SeatMem (w : World) (eb i : Nat) (x : Cli) (go gq : Option Nat) : Prop where
  en : ∃ vo vq, EndAt w eb (i * 5) x.ts x.tc vo vq x.tq x.dn go gq
  c4 : w.cell? ⟨eb, i * 5 + 4, none⟩ = some (.int .i64 (i : Int))
/-- What a call on a client's block may turn. -/
structure LocKept (w w' : World) (b : Nat) (go gq go' gq' : Option Nat) : Prop where
  kx : KeptX (fun k => k = b ∨ go = some k ∨ gq = some k) w w'
  fo : ∀ k, go' = some k → go = some k ∨ w.heap.size ≤ k
  fq : ∀ k, gq' = some k → gq = some k ∨ w.heap.size ≤ k
theorem EndAt.ltO {w : World} {b o s c : Nat} {vo vq : Value} {l : List Op4} {q : List Msg} {go gq : Option Nat} (h : EndAt w b o s c vo vq l q go gq) : ∀ k, go = some k → k < w.heap.size := h.qo.lt
theorem LocKept.refl (w : World) (b : Nat) (go gq : Option Nat) : LocKept w w b go gq go gq := ⟨KeptX.refl _ _, fun _ e => Or.inl e, fun _ e => Or.inl e⟩
theorem LocKept.trans {w w1 w2 : World} {b : Nat} {go gq go1 gq1 go2 gq2 : Option Nat} (h : LocKept w w1 b go gq go1 gq1) (k : LocKept w1 w2 b go1 gq1 go2 gq2) : LocKept w w2 b go gq go2 gq2 := by
  refine ⟨h.kx.trans k.kx (fun i hi e => ?_), fun i e => ?_, fun i e => ?_⟩
  · rcases e with e | e | e
    · exact Or.inl e
    · rcases h.fo i e with e | e
      · exact Or.inr (Or.inl e)
      · omega
    · rcases h.fq i e with e | e
      · exact Or.inr (Or.inr e)
      · omega
  · rcases k.fo i e with e | e
    · exact h.fo i e
    · exact Or.inr (Nat.le_trans h.kx.size e)
  · rcases k.fq i e with e | e
    · exact h.fq i e
    · exact Or.inr (Nat.le_trans h.kx.size e)
theorem LocKept.below {w w1 w2 : World} {b : Nat} {go gq go1 gq1 : Option Nat} (h : LocKept w w1 b go gq go1 gq1) (hb : Below w1.heap.size w1 w2) : LocKept w w2 b go gq go1 gq1 :=
  h.trans ⟨KeptX.of_below hb, fun _ e => Or.inl e, fun _ e => Or.inl e⟩
theorem LocKept.of_below {w w2 : World} {b : Nat} {go gq : Option Nat} (hb : Below w.heap.size w w2) : LocKept w w2 b go gq go gq := (LocKept.refl w b go gq).below hb
theorem LocKept.of_end {w w' : World} {b o : Nat} {go gq go' gq' : Option Nat} (h : EndKept w w' b o go gq go' gq') : LocKept w w' b go gq go' gq' := ⟨h.kx, h.fo, h.fq⟩
theorem LocKept.of_set {w w' : World} {b o s c : Nat} {vo vq : Value} {l : List Op4} {q : List Msg} {go gq : Option Nat} (h : EndSet w w' b o s c vo vq l q go gq) : LocKept w w' b go gq go gq := ⟨h.kx.mono (fun _ _ e => Or.inl e), fun _ e => Or.inl e, fun _ e => Or.inl e⟩
theorem CliMem.keep {w w' : World} {cb i : Nat} {x : Cli} {go gq : Option Nat} {F : Nat → Prop} (h : CliMem w cb i x go gq) (hk : KeptX F w w') (hF : ∀ k, (k = cb ∨ go = some k ∨ gq = some k) → ¬ F k) : CliMem w' cb i x go gq := by
  obtain ⟨⟨vo, vq, he⟩, h4, h5⟩ := h
  exact ⟨⟨vo, vq, he.keep hk hF⟩, (hk.cell (p := ⟨cb, 4, none⟩) he.lt (hF cb (Or.inl rfl))).trans h4, (hk.cell (p := ⟨cb, 5, none⟩) he.lt (hF cb (Or.inl rfl))).trans h5⟩
theorem CliMem.below {w w' : World} {cb i : Nat} {x : Cli} {go gq : Option Nat} (h : CliMem w cb i x go gq) (hb : Below w.heap.size w w') : CliMem w' cb i x go gq := h.keep (KeptX.of_below (F := fun _ => False) hb) (fun _ _ e => e)
theorem SeatMem.keep {w w' : World} {eb i : Nat} {x : Cli} {go gq : Option Nat} {F : Nat → Prop} (h : SeatMem w eb i x go gq) (hk : KeptX F w w') (hF : ∀ k, (k = eb ∨ go = some k ∨ gq = some k) → ¬ F k) : SeatMem w' eb i x go gq := by
  obtain ⟨⟨vo, vq, he⟩, h4⟩ := h
  exact ⟨⟨vo, vq, he.keep hk hF⟩, (hk.cell (p := ⟨eb, i * 5 + 4, none⟩) he.lt (hF eb (Or.inl rfl))).trans h4⟩

/-- Where a slice begins: at its block's head, or where the elder one did. -/
def OffOK (v v' : Value) : Prop := ∀ (gb off n c : Nat), v' = .slice (some ⟨gb, off, none⟩) n c → off = 0 ∨ ∃ n0 c0, v = .slice (some ⟨gb, off, none⟩) n0 c0
/-- A block that is new is nowhere frozen; an elder one as it was. -/
def FrzOK (g g' : Option Nat) (W W' : World) : Prop := ∀ gb, g' = some gb → (g = some gb ∧ ∀ j, W'.frozen? ⟨gb, j, none⟩ = W.frozen? ⟨gb, j, none⟩) ∨ ∀ j, W'.frozen? ⟨gb, j, none⟩ = false
/-- What lies ahead of a slice's end stays. -/
def PreOK (size : Nat) (v : Value) (W W' : World) : Prop := ∀ (gb off n c : Nat), v = .slice (some ⟨gb, off, none⟩) n c → gb < W.heap.size → ∀ j, j < off + n * size → W'.cell? ⟨gb, j, none⟩ = W.cell? ⟨gb, j, none⟩
/-- 'append(v, x...)': the row takes what x holds. -/
theorem rowq_append_off {P : Program} {t tx e : TypeId} {z : Value} {size bytes : Nat} (W : World) (ht : P.underlying t = some (.slice e)) (hinfo : (P.info? e).map (fun i => (i.zero, i.size, i.bytes)) = some (some z, size, bytes))
    (hzc : z.cells.size = size) (hs0 : 0 < size) {v : Value} {xs : List Value} {g : Option Nat} (h : RowQ W size v xs g) {x : Value} {m : Nat} {news : List Value} (hsrc : Src P size tx x m news W) {N : Nat} (hN : xs.length + news.length = N * size)
    (hbig : N * bytes ≤ 140737488355328) (hN63 : N ≤ 9223372036854775807) :
    ∃ (v' : Value) (W' : World), (∀ ty, (Builtin.append_ #[t, tx] ty #[v, x]).run P W = .ok v' W') ∧ ∃ g', RowQ W' size v' (xs ++ news) g' ∧ KeptX (fun k => g = some k) W W' ∧ ((g' = g ∨ g' = some W.heap.size) ∧ OffOK v v' ∧ FrzOK g g' W W' ∧ PreOK size v W W') := by
  obtain ⟨i0, hi0, hz0, hzs, hzb⟩ := info_parts hinfo
  have hnl := hsrc.newsLen
  have grown : ∀ (base : Option Addr) (n cap : Nat), v = .slice base n cap → xs.length = n * size → cap < n + m → (Builtin.firstCells i0.size n (.slice base n cap)).run P W.drew = .ok xs.toArray W.drew →
      ∃ (v' : Value) (W' : World), (∀ ty, (Builtin.append_ #[t, tx] ty #[v, x]).run P W = .ok v' W') ∧ ∃ g', RowQ W' size v' (xs ++ news) g' ∧ KeptX (fun k => g = some k) W W' ∧ ((g' = g ∨ g' = some W.heap.size) ∧ OffOK v v' ∧ FrzOK g g' W W' ∧ PreOK size v W W') := by
    intro base n cap hv hxl hlt hold
    have hNn : N = n + m := by
      have : N * size = (n + m) * size := by rw [Nat.add_mul]; omega
      exact Nat.eq_of_mul_eq_mul_right hs0 this
    subst hNn
    have hG := grownCap_ge W (n + m) cap e
    have hG2 := grownCap_le_maxLen W (n + m) cap e (by unfold maxLen; omega)
    unfold maxLen at hG2
    refine ⟨_, _, fun ty => by rw [hv]; exact run_append_grow_src W t tx ty e i0 z ht hi0 hz0 base n cap xs hold x m news (by rw [hzs]; exact hsrc) hlt (by omega) (by rw [hzb]; exact growslice_fits hlt hbig), some W.heap.size, ?_, (KeptX.refl _ _).drew.alloc _, Or.inr rfl, fun gb off n1 c1 e => (by cases e; exact Or.inl rfl), fun gb e => by cases e; exact Or.inr (fun j => World.frozen?_alloc_at (w := W.drew) _ _ W.heap.size j rfl), fun gb off n1 c1 _ hl j _ => ((KeptX.refl (fun _ => False) W).drew.alloc _).cell (p := ⟨gb, j, none⟩) hl (fun e => e)⟩
    refine Or.inr ⟨W.heap.size, 0, n + m, grownCap W (n + m) cap e, rfl, rfl, by rw [List.length_append]; exact hN, hG, by omega, by simp, fun j y hj => ?_, fun j hj => ?_⟩
    · rw [Nat.zero_add, World.cell?_alloc_at (w := W.drew) _ _ W.heap.size j rfl]
      have hjl := (List.getElem?_eq_some_iff.1 hj).1
      rw [Array.getElem?_append_left (by simpa using hjl)]
      simpa using hj
    · rw [Nat.zero_add]
      refine ⟨?_, World.frozen?_alloc_at (w := W.drew) _ _ W.heap.size j rfl⟩
      rw [World.cell?_alloc_at (w := W.drew) _ _ W.heap.size j rfl, Array.getElem?_eq_getElem]
      · rfl
      · have hzl : (Builtin.zeroCells z.cells (grownCap W (n + m) cap e - (n + m))).size = (grownCap W (n + m) cap e - (n + m)) * size := by
          simp [Builtin.zeroCells, hzc]
        rw [Array.size_append, hzl]
        simp only [List.size_toArray, List.length_append]
        rw [hN, ← Nat.add_mul]
        rw [show n + m + (grownCap W (n + m) cap e - (n + m)) = grownCap W (n + m) cap e by omega]
        exact hj
  rcases h with ⟨rfl, rfl, rfl⟩ | ⟨gb, off, n, cap, rfl, rfl, h3, h4, h5, h6, h7, h8⟩
  · by_cases hm : m = 0
    · subst hm
      have e0 : news = [] := List.length_eq_zero_iff.1 (by omega)
      subst e0
      refine ⟨.slice none 0 0, W, fun ty => ?_, none, RowQ.nil _ _, KeptX.refl _ _, Or.inl rfl, fun gb off n1 c1 e => (by cases e), fun gb e => (by cases e), fun gb off n1 c1 e => (by cases e)⟩
      have hc := hsrc.cells
      rw [← hzs] at hc
      rcases hsrc.kind with ⟨e', hk⟩ | hk <;> simp [Builtin.append_, run_underlying ht, run_underlying hk, sizeOf, typeInfo, hi0, hsrc.len, hc]
    · refine grown none 0 0 rfl (by simp) (by omega) ?_
      exact run_firstCells_none W.drew i0.size 0 0 0
  · by_cases hroom : n + m ≤ cap
    · refine ⟨_, _, fun ty => run_append_room_src W t tx ty e i0 ht hi0 gb off n cap x m news (by rw [hzs]; exact hsrc) hroom (fun j hj => ?_) (fun j hj => ?_), some gb, ?_, KeptX.setCells (F := fun k => some gb = some k) (fun _ => rfl) _ _ _ (KeptX.refl _ _), Or.inl rfl, fun gb1 off1 n1 c1 e => (by cases e; exact Or.inr ⟨_, _, rfl⟩), fun gb1 e => Or.inl ⟨e, fun j => World.frozen?_setCells _ _ _ _ _⟩, fun gb1 off1 n1 c1 e hl j hj => by cases e; rw [hzs]; exact World.cell?_setCells_out gb _ _ _ _ (fun _ _ => Or.inl hj)⟩
      · rw [hzs, Nat.add_assoc]
        refine (h8 _ ?_).1
        have : (n + m) * size ≤ cap * size := Nat.mul_le_mul_right _ hroom
        rw [Nat.add_mul] at this
        omega
      · rw [hzs, Nat.add_assoc]
        refine (h8 _ ?_).2
        have : (n + m) * size ≤ cap * size := Nat.mul_le_mul_right _ hroom
        rw [Nat.add_mul] at this
        omega
      · have hle : (n + m) * size ≤ cap * size := Nat.mul_le_mul_right _ hroom
        rw [Nat.add_mul] at hle
        have hin : ∀ j, j < news.length → (W.cell? ⟨gb, off + n * size + j, none⟩).isSome = true := fun j hj => by
          rw [Nat.add_assoc]; exact (h8 _ (by omega)).1
        rw [hzs]
        refine Or.inr ⟨gb, off, n + m, cap, rfl, rfl, by rw [List.length_append, h3, hnl, Nat.add_mul], hroom, h5, ?_, fun j y hj => ?_, fun j hj => ?_⟩
        · exact Nat.lt_of_lt_of_le h6 (KeptX.setCells (F := fun _ => True) (fun _ => trivial) news _ _ (KeptX.refl _ _)).size
        · by_cases hjx : j < xs.length
          · rw [List.getElem?_append_left hjx] at hj
            rw [World.cell?_setCells_out gb _ _ _ _ (fun _ _ => Or.inl (by show off + j < off + n * size; omega))]
            exact h7 j y hj
          · rw [List.getElem?_append_right (by omega)] at hj
            have hjl := (List.getElem?_eq_some_iff.1 hj).1
            have := World.cell?_setCells_in gb news (off + n * size) W hin (j - xs.length) hjl
            rw [show off + n * size + (j - xs.length) = off + j by omega] at this
            rw [this]
            rw [List.getElem?_eq_getElem hjl] at hj
            exact hj
        · rw [World.frozen?_setCells]
          exact ⟨isSome_setCells gb news _ W hin _ (h8 j hj).1, (h8 j hj).2⟩
    · refine grown (some ⟨gb, off, none⟩) n cap rfl h3 (by omega) ?_
      rw [hzs]
      exact run_firstCells_some W.drew size n ⟨gb, off, none⟩ n cap xs h3 (fun j y hj => by rw [Addr.add_lit]; exact h7 j y hj)

end Go.Proofs.Ytabahmcbhapbiaa
namespace Go.Proofs.Ytabahmcbhapbiaa
open Go.RowKit Go.Lib
set_option linter.unusedVariables false
/-- n rows in a row. -/
def flatN (row : Nat → List Value) (n : Nat) : List Value := (List.range n).flatMap row
theorem flatN_zero (row : Nat → List Value) : flatN row 0 = [] := rfl
theorem flatN_succ (row : Nat → List Value) (n : Nat) : flatN row (n + 1) = flatN row n ++ row n := by
  unfold flatN
  rw [List.range_succ, List.flatMap_append]
  simp
theorem flatN_len {row : Nat → List Value} {s : Nat} (h : ∀ i, (row i).length = s) : ∀ n, (flatN row n).length = n * s
  | 0 => by simp [flatN]
  | n + 1 => by rw [flatN_succ, List.length_append, flatN_len h n, h, Nat.add_mul]; simp
theorem flatN_at {row : Nat → List Value} {s : Nat} (h : ∀ i, (row i).length = s) {i k : Nat} (hk : k < s) : ∀ n, i < n → (flatN row n)[i * s + k]? = (row i)[k]?
  | n + 1, hi => by
    rw [flatN_succ]
    by_cases e : i < n
    · rw [List.getElem?_append_left (by
        rw [flatN_len h]
        have : (i + 1) * s ≤ n * s := Nat.mul_le_mul_right _ e
        rw [Nat.add_mul] at this
        omega)]
      exact flatN_at h hk n e
    · have e0 : i = n := by omega
      subst e0
      rw [List.getElem?_append_right (by rw [flatN_len h]; omega), flatN_len h, Nat.add_sub_cancel_left]
/-- 'append(q, x)' of one row. -/
theorem appN {t e : TypeId} {z : Value} {size bytes : Nat} {row : Nat → List Value} {W : World} {v : Value} {j : Nat} {g : Option Nat} (ht : Try.prog.underlying t = some (.slice e)) (hinfo : (Try.prog.info? e).map (fun i => (i.zero, i.size, i.bytes)) = some (some z, size, bytes))
    (hzc : z.cells.size = size) (hs0 : 0 < size) (hrow : ∀ i, (row i).length = size) (hone : ∀ u ∈ row j, u.oneCell' = true) (hq : RowQ W size v (flatN row j) g) (C : Array Value) (hC : C = (row j).toArray) (hbig : (j + 1) * bytes ≤ 140737488355328) (h63 : j + 1 ≤ 9223372036854775807) :
    ∃ v' W', (∀ ty, (Builtin.append_ #[t, t] ty #[v, .slice (some ⟨W.heap.size, 0, none⟩) 1 1]).run Try.prog (W.alloc (.cells C e)) = .ok v' W') ∧
      (∃ a n c, v' = .slice a n c) ∧ ∃ g', RowQ W' size v' (flatN row (j + 1)) g' ∧ KeptX (fun k => g = some k) W W' ∧ (∀ k, g' = some k → g = some k ∨ W.heap.size < k) ∧ OffOK v v' ∧ FrzOK g g' W W' := by
  have hsrc : Src Try.prog size t (.slice (some ⟨W.heap.size, 0, none⟩) 1 1) 1 (row j) (W.alloc (.cells C e)) :=
    Src.ofSlice _ ht ⟨W.heap.size, 0, none⟩ 1 1 _ (by rw [hrow, Nat.one_mul]) (fun k u hk => by
      rw [Addr.add_lit, Nat.zero_add, World.cell?_alloc_at (w := W) _ _ _ k rfl, hC]
      simpa using hk) hone
  have q1 := hq.keep (w' := W.alloc (.cells C e)) (F := fun _ => False) ((KeptX.refl _ _).alloc _) (fun _ _ h => h)
  obtain ⟨v2, W2, e2, g2, q2, k2, d2, o2, f2, _⟩ := rowq_append_off (P := Try.prog) (t := t) (tx := t) _ ht hinfo hzc hs0 q1 hsrc (N := j + 1) (by rw [flatN_len hrow, hrow, Nat.add_mul, Nat.one_mul]) hbig h63
  rw [← flatN_succ] at q2
  have hv2 : ∃ a n c, v2 = .slice a n c := by
    rcases q2 with ⟨h, _, _⟩ | ⟨gb, off, n, cap, _, h, _⟩
    · exact ⟨_, _, _, h⟩
    · exact ⟨_, _, _, h⟩
  refine ⟨v2, W2, e2, hv2, g2, q2, KeptX.trans ((KeptX.refl (fun k => g = some k) W).alloc _) k2 (fun _ _ e => e), fun k e => ?_, o2, fun gb e => (f2 gb e).imp (fun x => ⟨x.1, fun j => (x.2 j).trans (((KeptX.refl (fun _ => False) W).alloc _).frozen (p := ⟨gb, j, none⟩) (hq.lt gb x.1) (fun e => e))⟩) id⟩
  rcases d2 with d | d
  · exact Or.inl (by rw [← d]; exact e)
  · rw [d] at e
    cases e
    right; simp
/-- Rows that begin at their block's head. -/
def Off0 (v : Value) : Prop := ∀ (gb off n c : Nat), v = .slice (some ⟨gb, off, none⟩) n c → off = 0
theorem Off0.nil : Off0 (.slice none 0 0) := fun _ _ _ _ e => by cases e
theorem Off0.next {v v' : Value} (h : Off0 v) (k : OffOK v v') : Off0 v' := fun gb off n c e => (k gb off n c e).elim id (fun ⟨_, _, e2⟩ => h _ _ _ _ e2)
/-- The row as it lies, with something in it. -/
theorem rowN_open {W : World} {size : Nat} {v : Value} {row : Nat → List Value} {n : Nat} {g : Option Nat} (hs0 : 0 < size) (hrow : ∀ i, (row i).length = size) (hq : RowQ W size v (flatN row n) g) (h0 : Off0 v) (hn : 0 < n) :
    ∃ gb cap, g = some gb ∧ v = .slice (some ⟨gb, 0, none⟩) n cap ∧ gb < W.heap.size ∧ (∀ i k, i < n → k < size → W.cell? ⟨gb, i * size + k, none⟩ = (row i)[k]?) ∧ (∀ i, i < n * size → W.frozen? ⟨gb, i, none⟩ = false) := by
  rcases hq with ⟨_, h, _⟩ | ⟨gb, off, n', cap, hg, hv, h3, h4, h5, h6, h7, h8⟩
  · exfalso
    have := congrArg List.length h
    rw [flatN_len hrow] at this
    have h2 : 0 < n * size := Nat.mul_pos hn hs0
    rw [this] at h2
    exact absurd h2 (by simp)
  · have e0 := h0 _ _ _ _ hv
    subst e0
    have en : n' = n := by rw [flatN_len hrow] at h3; exact (Nat.eq_of_mul_eq_mul_right hs0 h3).symm
    subst en
    refine ⟨gb, cap, hg, hv, h6, fun i k hi hk => ?_, fun i hi => ?_⟩
    · have hat := flatN_at hrow hk n' hi
      obtain ⟨u, hu⟩ : ∃ u, (row i)[k]? = some u := ⟨_, List.getElem?_eq_getElem (by rw [hrow]; exact hk)⟩
      have := h7 (i * size + k) u (hat.trans hu)
      rw [Nat.zero_add] at this
      rw [this, hu]
    · have := (h8 i (Nat.lt_of_lt_of_le hi (Nat.mul_le_mul_right _ h4))).2
      rw [Nat.zero_add] at this
      exact this
/-- 'append(h, o)' of one op: the elder ones stay where they lie. -/
theorem appH {W : World} {v : Value} {l : List Op4} {g : Option Nat} (hq : RowQ W 4 v (flat4 l) g) (h0 : Off0 v) (x : Op4) (hlen : (l.length + 1) * 32 ≤ 140737488355328) :
    ∃ v' W', (∀ ty, (Builtin.append_ #[49, 49] ty #[v, .slice (some ⟨W.heap.size, 0, none⟩) 1 1]).run Try.prog (W.alloc (.cells #[.int .i64 x.k, .int .i64 x.p, .int .i64 x.b, .int .i64 x.s] 26)) = .ok v' W') ∧
      (∃ a n c, v' = .slice a n c) ∧ ∃ g', RowQ W' 4 v' (flat4 (l ++ [x])) g' ∧ KeptX (fun k => g = some k) W W' ∧ (∀ k, g' = some k → g = some k ∨ W.heap.size < k) ∧ Off0 v' ∧ ∀ k, g = some k → ∀ j, j < l.length * 4 → W'.cell? ⟨k, j, none⟩ = W.cell? ⟨k, j, none⟩ := by
  have hsrc : Src Try.prog 4 49 (.slice (some ⟨W.heap.size, 0, none⟩) 1 1) 1 (flat4 [x]) (W.alloc (.cells #[.int .i64 x.k, .int .i64 x.p, .int .i64 x.b, .int .i64 x.s] 26)) :=
    Src.ofSlice _ Try.underlying49 ⟨W.heap.size, 0, none⟩ 1 1 _ rfl (fun j u hj => by
      rw [Addr.add_lit, Nat.zero_add, World.cell?_alloc_at (w := W) _ _ _ j rfl]
      simpa [flat4, Op4.cells] using hj) (flat4_one _)
  have hka : KeptX (fun _ => False) W (W.alloc (.cells #[.int .i64 x.k, .int .i64 x.p, .int .i64 x.b, .int .i64 x.s] 26)) := (KeptX.refl _ _).alloc _
  have q1 := hq.keep hka (fun _ _ h => h)
  obtain ⟨v2, W2, e2, g2, q2, k2, d2, o2, f2, p2⟩ := rowq_append_off (P := Try.prog) (t := 49) (tx := 49) _ Try.underlying49 infoOp4 rfl (by decide) q1 hsrc (N := l.length + 1) (by rw [flat4_len, flat4_len]; simp; omega) hlen (by omega)
  rw [← flat4_append] at q2
  obtain ⟨a2, c2, hv2⟩ := rowq_len q2
  refine ⟨v2, W2, e2, ⟨_, _, _, hv2⟩, g2, q2, KeptX.trans ((KeptX.refl (fun k => g = some k) W).alloc _) k2 (fun _ _ e => e), fun k e => ?_, h0.next o2, fun k e j hj => ?_⟩
  · rcases d2 with d | d
    · exact Or.inl (by rw [← d]; exact e)
    · rw [d] at e
      cases e
      right; simp
  · rcases hq with ⟨_, _, hn⟩ | ⟨gb, off, n, cap, hg, hv, h3, h4, h5, h6, h7, h8⟩
    · rw [e] at hn; cases hn
    · rw [e] at hg
      cases hg
      rw [flat4_len] at h3
      exact (p2 k off n cap hv (Nat.lt_of_lt_of_le h6 hka.size) j (by omega)).trans (hka.cell (p := ⟨k, j, none⟩) h6 (fun e => e))
/-- The moot m at mb. 'own' tells whose a block is: 0 the moot, 1 the server, 2 the row of clients, 3 the row of seats, 100 + n the history with n ops in it, 10 + i the client i, 20 + i the seat i's lists. -/
structure DevM (w : World) (mb : Nat) (m : Moo) (L : DLay) (own : Nat → Option Nat) : Prop where
  n1 : 1 ≤ m.n
  n4 : m.n ≤ 4
  m0 : w.cell? ⟨mb, 0, none⟩ = some (.pointer (some ⟨L.vb, 0, none⟩))
  m1 : w.cell? ⟨mb, 1, none⟩ = some (.slice (some ⟨L.kb, 0, none⟩) m.n L.kcap)
  v0 : w.cell? ⟨L.vb, 0, none⟩ = some (dstr m.srv)
  v1 : w.cell? ⟨L.vb, 2, none⟩ = some (.slice (some ⟨L.eb, 0, none⟩) m.n L.ecap)
  vf : ∀ j, w.frozen? ⟨L.vb, j, none⟩ = false
  kp : ∀ i, i < m.n → w.cell? ⟨L.kb, i, none⟩ = some (.pointer (some ⟨L.cb i, 0, none⟩))
  cl : ∀ i, i < m.n → ∃ go gq, CliMem w (L.cb i) i (m.cl i) go gq ∧ own (L.cb i) = some (10 + i) ∧ (∀ k, go = some k → own k = some (10 + i)) ∧ (∀ k, gq = some k → own k = some (10 + i))
  se : ∀ i, i < m.n → ∃ go gq, SeatMem w L.eb i (m.cl i) go gq ∧ (∀ k, go = some k → own k = some (20 + i)) ∧ (∀ k, gq = some k → own k = some (20 + i))
  ko : ∀ i, i < m.n → (m.cl i).hk + (m.cl i).ho.length = (m.cl i).hs ∧ (m.cl i).tk + (m.cl i).tq.length = (m.cl i).ts
  o0 : own mb = some 0
  o1 : own L.vb = some 1
  o2 : own L.kb = some 2
  o3 : own L.eb = some 3
  lt : ∀ k, own k ≠ none → k < w.heap.size
  hs : ∃ vd g, w.cell? ⟨L.vb, 1, none⟩ = some vd ∧ RowQ w 4 vd (flat4 m.hist) g ∧ Off0 vd ∧ ∀ k, g = some k → own k = some (100 + m.hist.length)
section
variable {w w' : World} {mb : Nat} {m : Moo} {L : DLay} {own : Nat → Option Nat}
theorem DevM.lto (h : DevM w mb m L own) {k a : Nat} (e : own k = some a) : k < w.heap.size := h.lt k (by rw [e]; simp)
/-- What a call on a moot may turn: its own blocks; what is new may be its own then. -/
structure DFrm (w : World) (own : Nat → Option Nat) (w' : World) (own' : Nat → Option Nat) : Prop where
  kx : KeptX (fun k => own k ≠ none) w w'
  nw : ∀ k, own' k ≠ none → own k ≠ none ∨ w.heap.size ≤ k
  hh : ∀ k n, k < w.heap.size → own k = some (100 + n) → (∃ n', n ≤ n' ∧ own' k = some (100 + n')) ∧ ∀ j, j < n * 4 → w'.cell? ⟨k, j, none⟩ = w.cell? ⟨k, j, none⟩
theorem DFrm.refl (w : World) (own : Nat → Option Nat) : DFrm w own w own := ⟨KeptX.refl _ _, fun _ e => Or.inl e, fun k n _ e => ⟨⟨n, Nat.le_refl _, e⟩, fun _ _ => rfl⟩⟩
theorem DFrm.trans {w w1 w2 : World} {o o1 o2 : Nat → Option Nat} (h : DFrm w o w1 o1) (k : DFrm w1 o1 w2 o2) : DFrm w o w2 o2 :=
  ⟨h.kx.trans k.kx (fun i hi e => (h.nw i e).elim id (fun x => absurd hi (by omega))), fun i e => (k.nw i e).elim (h.nw i) (fun x => Or.inr (Nat.le_trans h.kx.size x)), fun i n hi e => by
    obtain ⟨⟨n1, l1, e1⟩, c1⟩ := h.hh i n hi e
    obtain ⟨⟨n2, l2, e2⟩, c2⟩ := k.hh i n1 (Nat.lt_of_lt_of_le hi h.kx.size) e1
    exact ⟨⟨n2, Nat.le_trans l1 l2, e2⟩, fun j hj => (c2 j (by omega)).trans (c1 j hj)⟩⟩
theorem DFrm.of_below {w w1 : World} {o : Nat → Option Nat} (h : Below w.heap.size w w1) : DFrm w o w1 o := ⟨KeptX.of_below h, fun _ e => Or.inl e, fun k n hk e => ⟨⟨n, Nat.le_refl _, e⟩, fun j _ => h.cell (p := ⟨k, j, none⟩) hk⟩⟩
/-- What is turned behind it lies in new blocks. -/
theorem DFrm.after {w w1 w2 : World} {o o1 : Nat → Option Nat} {F : Nat → Prop} (h : DFrm w o w1 o1) (hk : KeptX F w1 w2) (hF : ∀ i, i < w.heap.size → ¬ F i) : DFrm w o w2 o1 :=
  ⟨h.kx.trans hk (fun i hi e => absurd e (hF i hi)), h.nw, fun k n hl e => ⟨(h.hh k n hl e).1, fun j hj => (hk.cell (p := ⟨k, j, none⟩) (Nat.lt_of_lt_of_le hl h.kx.size) (hF k hl)).trans ((h.hh k n hl e).2 j hj)⟩⟩
/-- What turns none of its blocks keeps the moot. -/
theorem DevM.keep {F : Nat → Prop} (h : DevM w mb m L own) (hk : KeptX F w w') (hF : ∀ k, own k ≠ none → ¬ F k) : DevM w' mb m L own := by
  have c : ∀ {b a : Nat} (j : Nat), own b = some a → w'.cell? ⟨b, j, none⟩ = w.cell? ⟨b, j, none⟩ := fun {b a} j e => hk.cell (p := ⟨b, j, none⟩) (h.lto e) (hF b (by rw [e]; simp))
  have s : ∀ {k a : Nat}, own k = some a → ¬ F k := fun {k a} e => hF k (by rw [e]; simp)
  refine ⟨h.n1, h.n4, (c 0 h.o0).trans h.m0, (c 1 h.o0).trans h.m1, (c 0 h.o1).trans h.v0, (c 2 h.o1).trans h.v1, fun j => (hk.frozen (p := ⟨L.vb, j, none⟩) (h.lto h.o1) (s h.o1)).trans (h.vf j), fun i hi => (c i h.o2).trans (h.kp i hi), fun i hi => ?_, fun i hi => ?_, h.ko, h.o0, h.o1, h.o2, h.o3, fun k e => Nat.lt_of_lt_of_le (h.lt k e) hk.size, by obtain ⟨vd, g, x1, x2, x0, x3⟩ := h.hs; exact ⟨vd, g, (c 1 h.o1).trans x1, x2.keep hk (fun k e => s (x3 k e)), x0, x3⟩⟩
  · obtain ⟨go, gq, h1, h2, h3, h4⟩ := h.cl i hi
    exact ⟨go, gq, h1.keep hk (fun k e => by rcases e with rfl | e | e; exact s h2; exact s (h3 k e); exact s (h4 k e)), h2, h3, h4⟩
  · obtain ⟨go, gq, h1, h3, h4⟩ := h.se i hi
    exact ⟨go, gq, h1.keep hk (fun k e => by rcases e with rfl | e | e; exact s h.o3; exact s (h3 k e); exact s (h4 k e)), h3, h4⟩
theorem DevM.below (h : DevM w mb m L own) (hb : Below w.heap.size w w') : DevM w' mb m L own := h.keep (KeptX.of_below (F := fun _ => False) hb) (fun _ _ e => e)

/-- The new blocks are a's. -/
def grown (own : Nat → Option Nat) (w w' : World) (a : Nat) : Nat → Option Nat := fun k => if w.heap.size ≤ k ∧ k < w'.heap.size then some a else own k
theorem grown_old {a k b : Nat} (hlt : ∀ k, own k ≠ none → k < w.heap.size) (h : own k = some b) : grown own w w' a k = some b := by
  unfold grown
  rw [if_neg (fun e => by have := hlt k (by rw [h]; simp); omega)]
  exact h
theorem grown_new {a k : Nat} (h1 : w.heap.size ≤ k) (h2 : k < w'.heap.size) : grown own w w' a k = some a := if_pos ⟨h1, h2⟩
theorem grown_lt {a k : Nat} (hs : w.heap.size ≤ w'.heap.size) (hlt : ∀ k, own k ≠ none → k < w.heap.size) (h : grown own w w' a k ≠ none) : k < w'.heap.size := by
  unfold grown at h
  by_cases e : w.heap.size ≤ k ∧ k < w'.heap.size
  · exact e.2
  · rw [if_neg e] at h
    have := hlt k h
    omega
theorem grown_frm {a : Nat} {F : Nat → Prop} (hk : KeptX F w w') (hF : ∀ k, F k → k < w.heap.size → ∃ b, own k = some b ∧ b < 100) : DFrm w own w' (grown own w w' a) :=
  ⟨hk.mono (fun k hk e => by obtain ⟨b, hb, _⟩ := hF k e hk; rw [hb]; simp), fun k e => by
    unfold grown at e
    by_cases c : w.heap.size ≤ k ∧ k < w'.heap.size
    · exact Or.inr c.1
    · rw [if_neg c] at e; exact Or.inl e, fun k n hl e => ⟨⟨n, Nat.le_refl _, by unfold grown; rw [if_neg (fun c => by omega)]; exact e⟩, fun j _ => hk.cell (p := ⟨k, j, none⟩) hl (fun f => by obtain ⟨b, hb, hb2⟩ := hF k f hl; rw [e] at hb; have := Option.some.inj hb; omega)⟩⟩
theorem dset_at (m : Moo) (i : Nat) (x : Cli) : (m.set i x).cl i = x := if_pos rfl
theorem dset_far (m : Moo) {i j : Nat} (x : Cli) (h : j ≠ i) : (m.set i x).cl j = m.cl j := if_neg h

/-- A client's block was turned by a call on it. -/
theorem DevM.cliSet (h : DevM w mb m L own) {i : Nat} (hi : i < m.n) {go gq go' gq' : Option Nat} {x' : Cli} (h2 : own (L.cb i) = some (10 + i)) (h3 : ∀ k, go = some k → own k = some (10 + i)) (h4 : ∀ k, gq = some k → own k = some (10 + i))
    (hk : LocKept w w' (L.cb i) go gq go' gq') (hc : CliMem w' (L.cb i) i x' go' gq') (hko : x'.hk + x'.ho.length = x'.hs) (e1 : x'.ts = (m.cl i).ts) (e2 : x'.tc = (m.cl i).tc) (e3 : x'.tk = (m.cl i).tk) (e4 : x'.tq = (m.cl i).tq) (e5 : x'.dn = (m.cl i).dn) :
    DevM w' mb (m.set i x') L (grown own w w' (10 + i)) ∧ DFrm w own w' (grown own w w' (10 + i)) := by
  have hF : ∀ k, (k = L.cb i ∨ go = some k ∨ gq = some k) → own k = some (10 + i) := fun k e => by
    rcases e with rfl | e | e
    · exact h2
    · exact h3 k e
    · exact h4 k e
  have s : ∀ {k a : Nat}, own k = some a → a ≠ 10 + i → ¬ (k = L.cb i ∨ go = some k ∨ gq = some k) := fun {k a} e hn e2 => hn (by have := hF k e2; rw [e] at this; exact Option.some.inj this)
  have c : ∀ {b a : Nat} (j : Nat), own b = some a → a ≠ 10 + i → w'.cell? ⟨b, j, none⟩ = w.cell? ⟨b, j, none⟩ := fun {b a} j e hn => hk.kx.cell (p := ⟨b, j, none⟩) (h.lto e) (s e hn)
  have g : ∀ {k a : Nat}, own k = some a → grown own w w' (10 + i) k = some a := fun {k a} e => grown_old h.lt e
  have hi4 : i < 4 := Nat.lt_of_lt_of_le hi h.n4
  refine ⟨⟨h.n1, h.n4, (c 0 h.o0 (by omega)).trans h.m0, (c 1 h.o0 (by omega)).trans h.m1, (c 0 h.o1 (by omega)).trans h.v0, (c 2 h.o1 (by omega)).trans h.v1, fun j => (hk.kx.frozen (p := ⟨L.vb, j, none⟩) (h.lto h.o1) (s h.o1 (by omega))).trans (h.vf j), fun j hj => (c j h.o2 (by omega)).trans (h.kp j hj), fun j hj => ?_, fun j hj => ?_, fun j hj => ?_, g h.o0, g h.o1, g h.o2, g h.o3, fun k e => grown_lt hk.kx.size h.lt e, by obtain ⟨vd, gv, x1, x2, x0, x3⟩ := h.hs; exact ⟨vd, gv, (c 1 h.o1 (by omega)).trans x1, x2.keep hk.kx (fun k e => s (x3 k e) (by omega)), x0, fun k e => g (x3 k e)⟩⟩, grown_frm hk.kx (fun k e _ => ⟨_, hF k e, by omega⟩)⟩
  · by_cases e : j = i
    · subst e
      rw [dset_at]
      refine ⟨go', gq', hc, g h2, fun k e => ?_, fun k e => ?_⟩
      · rcases hk.fo k e with e' | e'
        · exact g (h3 k e')
        · obtain ⟨vo, vq, he⟩ := hc.en
          exact grown_new e' (he.qo.lt k e)
      · rcases hk.fq k e with e' | e'
        · exact g (h4 k e')
        · obtain ⟨vo, vq, he⟩ := hc.en
          exact grown_new e' (he.qq.lt k e)
    · rw [dset_far _ _ e]
      obtain ⟨a1, a2, b1, b2, b3, b4⟩ := h.cl j hj
      exact ⟨a1, a2, b1.keep hk.kx (fun k e2 => by rcases e2 with rfl | e2 | e2; exact s b2 (by omega); exact s (b3 k e2) (by omega); exact s (b4 k e2) (by omega)), g b2, fun k e => g (b3 k e), fun k e => g (b4 k e)⟩
  · obtain ⟨a1, a2, b1, b3, b4⟩ := h.se j hj
    have b1' := b1.keep hk.kx (fun k e2 => by rcases e2 with rfl | e2 | e2; exact s h.o3 (by omega); exact s (b3 k e2) (by have : j < 4 := Nat.lt_of_lt_of_le hj h.n4; omega); exact s (b4 k e2) (by have : j < 4 := Nat.lt_of_lt_of_le hj h.n4; omega))
    refine ⟨a1, a2, ?_, fun k e => g (b3 k e), fun k e => g (b4 k e)⟩
    by_cases e : j = i
    · subst e
      rw [dset_at]
      obtain ⟨⟨vo, vq, he⟩, h4'⟩ := b1'
      exact ⟨⟨vo, vq, by rw [e1, e2, e4, e5]; exact he⟩, h4'⟩
    · rw [dset_far _ _ e]; exact b1'
  · by_cases e : j = i
    · subst e
      rw [dset_at]
      have := (h.ko j hj).2
      exact ⟨hko, by rw [e1, e3, e4]; exact this⟩
    · rw [dset_far _ _ e]; exact h.ko j hj
/-- A seat was turned by a call on its end. -/
theorem DevM.seatSet (h : DevM w mb m L own) {i : Nat} (hi : i < m.n) {go gq go' gq' : Option Nat} {x' : Cli} (h3 : ∀ k, go = some k → own k = some (20 + i)) (h4 : ∀ k, gq = some k → own k = some (20 + i))
    (hk : EndKept w w' L.eb (i * 5) go gq go' gq') (hc : ∃ vo vq, EndAt w' L.eb (i * 5) x'.ts x'.tc vo vq x'.tq x'.dn go' gq') (hko : x'.tk + x'.tq.length = x'.ts) (e0 : x'.text = (m.cl i).text) (e1 : x'.hs = (m.cl i).hs) (e2 : x'.hc = (m.cl i).hc) (e3 : x'.hk = (m.cl i).hk) (e4 : x'.ho = (m.cl i).ho) (e5 : x'.up = (m.cl i).up) :
    DevM w' mb (m.set i x') L (grown own w w' (20 + i)) ∧ DFrm w own w' (grown own w w' (20 + i)) := by
  have hF : ∀ k, (k = L.eb ∨ go = some k ∨ gq = some k) → own k = some 3 ∨ own k = some (20 + i) := fun k e => by
    rcases e with rfl | e | e
    · exact Or.inl h.o3
    · exact Or.inr (h3 k e)
    · exact Or.inr (h4 k e)
  have s : ∀ {k a : Nat}, own k = some a → a ≠ 3 → a ≠ 20 + i → ¬ (k = L.eb ∨ go = some k ∨ gq = some k) := fun {k a} e hn hm e2 => by
    rcases hF k e2 with x | x
    · rw [e] at x; exact hn (Option.some.inj x)
    · rw [e] at x; exact hm (Option.some.inj x)
  have c : ∀ {b a : Nat} (j : Nat), own b = some a → a ≠ 3 → a ≠ 20 + i → w'.cell? ⟨b, j, none⟩ = w.cell? ⟨b, j, none⟩ := fun {b a} j e hn hm => hk.kx.cell (p := ⟨b, j, none⟩) (h.lto e) (s e hn hm)
  have g : ∀ {k a : Nat}, own k = some a → grown own w w' (20 + i) k = some a := fun {k a} e => grown_old h.lt e
  have hi4 : i < 4 := Nat.lt_of_lt_of_le hi h.n4
  refine ⟨⟨h.n1, h.n4, (c 0 h.o0 (by omega) (by omega)).trans h.m0, (c 1 h.o0 (by omega) (by omega)).trans h.m1, (c 0 h.o1 (by omega) (by omega)).trans h.v0, (c 2 h.o1 (by omega) (by omega)).trans h.v1, fun j => (hk.kx.frozen (p := ⟨L.vb, j, none⟩) (h.lto h.o1) (s h.o1 (by omega) (by omega))).trans (h.vf j), fun j hj => (c j h.o2 (by omega) (by omega)).trans (h.kp j hj), fun j hj => ?_, fun j hj => ?_, fun j hj => ?_, g h.o0, g h.o1, g h.o2, g h.o3, fun k e => grown_lt hk.kx.size h.lt e, by obtain ⟨vd, gv, x1, x2, x0, x3⟩ := h.hs; exact ⟨vd, gv, (c 1 h.o1 (by omega) (by omega)).trans x1, x2.keep hk.kx (fun k e => s (x3 k e) (by omega) (by omega)), x0, fun k e => g (x3 k e)⟩⟩, grown_frm hk.kx (fun k e _ => by rcases hF k e with x | x <;> exact ⟨_, x, by omega⟩)⟩
  · have hj4 : j < 4 := Nat.lt_of_lt_of_le hj h.n4
    obtain ⟨a1, a2, b1, b2, b3, b4⟩ := h.cl j hj
    have b1' := b1.keep hk.kx (fun k e2 => by rcases e2 with rfl | e2 | e2; exact s b2 (by omega) (by omega); exact s (b3 k e2) (by omega) (by omega); exact s (b4 k e2) (by omega) (by omega))
    refine ⟨a1, a2, ?_, g b2, fun k e => g (b3 k e), fun k e => g (b4 k e)⟩
    by_cases e : j = i
    · subst e
      rw [dset_at]
      obtain ⟨⟨vo, vq, he⟩, h4', h5'⟩ := b1'
      exact ⟨⟨vo, vq, by rw [e1, e2, e4, e5]; exact he⟩, h4', by rw [e0]; exact h5'⟩
    · rw [dset_far _ _ e]; exact b1'
  · have hj4 : j < 4 := Nat.lt_of_lt_of_le hj h.n4
    by_cases e : j = i
    · subst e
      rw [dset_at]
      obtain ⟨_, _, ⟨_, b4⟩, _, _⟩ := h.se j hj
      refine ⟨go', gq', ⟨hc, (hk.ot _ (by omega)).trans b4⟩, fun k e => ?_, fun k e => ?_⟩
      · rcases hk.fo k e with e' | e'
        · exact g (h3 k e')
        · obtain ⟨vo, vq, he⟩ := hc
          exact grown_new e' (he.qo.lt k e)
      · rcases hk.fq k e with e' | e'
        · exact g (h4 k e')
        · obtain ⟨vo, vq, he⟩ := hc
          exact grown_new e' (he.qq.lt k e)
    · rw [dset_far _ _ e]
      obtain ⟨a1, a2, ⟨⟨vo, vq, he⟩, b4'⟩, b3, b4⟩ := h.se j hj
      have hlt : L.eb < w'.heap.size := Nat.lt_of_lt_of_le he.lt hk.kx.size
      have ot : ∀ t, t < 5 → w'.cell? ⟨L.eb, j * 5 + t, none⟩ = w.cell? ⟨L.eb, j * 5 + t, none⟩ := fun t ht => hk.ot _ (by omega)
      have fz : ∀ t, w'.frozen? ⟨L.eb, t, none⟩ = false := fun t => by obtain ⟨vo, vq, he2⟩ := hc; exact he2.fr t
      refine ⟨a1, a2, ⟨⟨vo, vq, ⟨hlt, (ot 0 (by omega)).trans he.c0, (ot 1 (by omega)).trans he.c1, (ot 2 (by omega)).trans he.c2, (ot 3 (by omega)).trans he.c3, he.qo.keep hk.kx (fun k e2 => s (b3 k e2) (by omega) (by omega)), he.qq.keep hk.kx (fun k e2 => s (b4 k e2) (by omega) (by omega)), fz, he.no, he.nq, he.ne⟩⟩, (ot 4 (by omega)).trans b4'⟩, fun k e => g (b3 k e), fun k e => g (b4 k e)⟩
  · by_cases e : j = i
    · subst e
      rw [dset_at]
      have := (h.ko j hj).1
      exact ⟨by rw [e1, e3, e4]; exact this, hko⟩
    · rw [dset_far _ _ e]; exact h.ko j hj
/-- The server's text is set. -/
theorem DevM.srvSet (h : DevM w mb m L own) (t : List UInt8) : DevM (w.setCell ⟨L.vb, 0, none⟩ (dstr t)) mb { m with srv := t } L own ∧ DFrm w own (w.setCell ⟨L.vb, 0, none⟩ (dstr t)) own := by
  have hk : KeptX (fun k => k = L.vb) w (w.setCell ⟨L.vb, 0, none⟩ (dstr t)) := (KeptX.refl (fun k => k = L.vb) w).setCell (p := ⟨L.vb, 0, none⟩) (fun _ => rfl) _
  have s : ∀ {k a : Nat}, own k = some a → a ≠ 1 → ¬ (k = L.vb) := fun {k a} e hn e2 => hn (by rw [e2, h.o1] at e; exact (Option.some.inj e).symm)
  have c : ∀ {b a : Nat} (j : Nat), own b = some a → a ≠ 1 → (w.setCell ⟨L.vb, 0, none⟩ (dstr t)).cell? ⟨b, j, none⟩ = w.cell? ⟨b, j, none⟩ := fun {b a} j e hn => hk.cell (p := ⟨b, j, none⟩) (h.lto e) (s e hn)
  refine ⟨⟨h.n1, h.n4, (c 0 h.o0 (by omega)).trans h.m0, (c 1 h.o0 (by omega)).trans h.m1, by have := h.v0; simp [go_sem, this], (World.cell?_setCell_other _ _ _ _ (by simp)).trans h.v1, fun j => by rw [World.frozen?_setCell]; exact h.vf j, fun j hj => (c j h.o2 (by omega)).trans (h.kp j hj), fun j hj => ?_, fun j hj => ?_, h.ko, h.o0, h.o1, h.o2, h.o3, fun k e => Nat.lt_of_lt_of_le (h.lt k e) hk.size, by obtain ⟨vd, gv, x1, x2, x0, x3⟩ := h.hs; exact ⟨vd, gv, (World.cell?_setCell_other _ _ _ _ (by simp)).trans x1, x2.keep hk (fun k e => s (x3 k e) (by omega)), x0, x3⟩⟩, ⟨hk.mono (fun k _ e => by rw [e, h.o1]; simp), fun _ e => Or.inl e, fun k n hl e => ⟨⟨n, Nat.le_refl _, e⟩, fun j _ => hk.cell (p := ⟨k, j, none⟩) hl (s e (by omega))⟩⟩⟩
  · obtain ⟨a1, a2, b1, b2, b3, b4⟩ := h.cl j hj
    exact ⟨a1, a2, b1.keep hk (fun k e2 => by rcases e2 with rfl | e2 | e2; exact s b2 (by omega); exact s (b3 k e2) (by omega); exact s (b4 k e2) (by omega)), b2, b3, b4⟩
  · obtain ⟨a1, a2, b1, b3, b4⟩ := h.se j hj
    exact ⟨a1, a2, b1.keep hk (fun k e2 => by rcases e2 with rfl | e2 | e2; exact s h.o3 (by omega); exact s (b3 k e2) (by omega); exact s (b4 k e2) (by omega)), b3, b4⟩
/-- The history is set: what it lies in now is its own, or new. -/
theorem DevM.histSet {w1 : World} (h : DevM w mb m L own) {vd v' : Value} {g g' : Option Nat} {l : List Op4} (h1 : w.cell? ⟨L.vb, 1, none⟩ = some vd) (h3 : ∀ k, g = some k → own k = some (100 + m.hist.length)) (hk : KeptX (fun k => g = some k) w w1) (hq : RowQ w1 4 v' (flat4 l) g') (hg : ∀ k, g' = some k → g = some k ∨ w.heap.size ≤ k)
    (h0 : Off0 v') (hp : ∀ k, g = some k → ∀ j, j < m.hist.length * 4 → w1.cell? ⟨k, j, none⟩ = w.cell? ⟨k, j, none⟩) (hl : m.hist.length ≤ l.length) :
    ∃ own', DevM (w1.setCell ⟨L.vb, 1, none⟩ v') mb { m with hist := l } L own' ∧ DFrm w own (w1.setCell ⟨L.vb, 1, none⟩ v') own' := by
  have sv : ∀ {k a : Nat}, own k = some a → a < 100 → ¬ (g = some k) := fun {k a} e hn e2 => by have := h3 k e2; rw [e] at this; have := Option.some.inj this; omega
  have hkS : KeptX (fun k => k = L.vb ∨ g = some k) w (w1.setCell ⟨L.vb, 1, none⟩ v') := (hk.mono (G := fun k => k = L.vb ∨ g = some k) (fun _ _ e => Or.inr e)).setCell (p := ⟨L.vb, 1, none⟩) (fun _ => Or.inl rfl) _
  have s : ∀ {k a : Nat}, own k = some a → a < 100 → a ≠ 1 → ¬ (k = L.vb ∨ g = some k) := fun {k a} e hn hm e2 => by
    rcases e2 with e2 | e2
    · exact hm (by rw [e2, h.o1] at e; exact (Option.some.inj e).symm)
    · exact sv e hn e2
  have c : ∀ {b a : Nat} (j : Nat), own b = some a → a < 100 → a ≠ 1 → (w1.setCell ⟨L.vb, 1, none⟩ v').cell? ⟨b, j, none⟩ = w.cell? ⟨b, j, none⟩ := fun {b a} j e hn hm => hkS.cell (p := ⟨b, j, none⟩) (h.lto e) (s e hn hm)
  have cv : ∀ j, w1.cell? ⟨L.vb, j, none⟩ = w.cell? ⟨L.vb, j, none⟩ := fun j => hk.cell (p := ⟨L.vb, j, none⟩) (h.lto h.o1) (sv h.o1 (by omega))
  have hz : (w1.setCell ⟨L.vb, 1, none⟩ v').heap.size = w1.heap.size := by simp [World.setCell]
  obtain ⟨own', hown⟩ : ∃ own' : Nat → Option Nat, own' = fun k => if g' = some k then some (100 + l.length) else own k := ⟨_, rfl⟩
  have ge : ∀ {k : Nat}, g' = some k → own' k = some (100 + l.length) := fun {k} e => by rw [hown]; exact if_pos e
  have gn : ∀ {k : Nat}, g' ≠ some k → own' k = own k := fun {k} e => by rw [hown]; exact if_neg e
  have gl : ∀ {k a : Nat}, own k = some a → a < 100 → own' k = some a := fun {k a} e hn => by
    rw [gn (fun e2 => ?_)]
    · exact e
    · rcases hg k e2 with x | x
      · exact sv e hn x
      · have := h.lto e; omega
  refine ⟨own', ⟨h.n1, h.n4, (c 0 h.o0 (by omega) (by omega)).trans h.m0, (c 1 h.o0 (by omega) (by omega)).trans h.m1, ?_, ?_, fun j => ?_, fun j hj => (c j h.o2 (by omega) (by omega)).trans (h.kp j hj), fun j hj => ?_, fun j hj => ?_, h.ko, gl h.o0 (by omega), gl h.o1 (by omega), gl h.o2 (by omega), gl h.o3 (by omega), fun k e => ?_, ?_⟩, ⟨hkS.mono (fun k _ e => ?_), fun k e => ?_, fun k n hlt e => ?_⟩⟩
  · exact ((World.cell?_setCell_other _ _ _ _ (by simp)).trans (cv 0)).trans h.v0
  · exact ((World.cell?_setCell_other _ _ _ _ (by simp)).trans (cv 2)).trans h.v1
  · rw [World.frozen?_setCell]
    exact (hk.frozen (p := ⟨L.vb, j, none⟩) (h.lto h.o1) (sv h.o1 (by omega))).trans (h.vf j)
  · obtain ⟨a1, a2, b1, b2, b3, b4⟩ := h.cl j hj
    have hj4 : j < 4 := Nat.lt_of_lt_of_le hj h.n4
    exact ⟨a1, a2, b1.keep hkS (fun k e2 => by rcases e2 with rfl | e2 | e2; exact s b2 (by omega) (by omega); exact s (b3 k e2) (by omega) (by omega); exact s (b4 k e2) (by omega) (by omega)), gl b2 (by omega), fun k e => gl (b3 k e) (by omega), fun k e => gl (b4 k e) (by omega)⟩
  · obtain ⟨a1, a2, b1, b3, b4⟩ := h.se j hj
    have hj4 : j < 4 := Nat.lt_of_lt_of_le hj h.n4
    exact ⟨a1, a2, b1.keep hkS (fun k e2 => by rcases e2 with rfl | e2 | e2; exact s h.o3 (by omega) (by omega); exact s (b3 k e2) (by omega) (by omega); exact s (b4 k e2) (by omega) (by omega)), fun k e => gl (b3 k e) (by omega), fun k e => gl (b4 k e) (by omega)⟩
  · rw [hz]
    by_cases e2 : g' = some k
    · exact hq.lt k e2
    · rw [gn e2] at e
      exact Nat.lt_of_lt_of_le (h.lt k e) hk.size
  · have hgv : g' ≠ some L.vb := fun e => by
      rcases hg _ e with x | x
      · exact sv h.o1 (by omega) x
      · have := h.lto h.o1; omega
    have cx := (cv 1).trans h1
    exact ⟨v', g', by simp [go_sem, cx], hq.keep (F := fun k => k = L.vb) ((KeptX.refl (fun k => k = L.vb) w1).setCell (p := ⟨L.vb, 1, none⟩) (fun _ => rfl) _) (fun k e e2 => hgv (by rw [← e2]; exact e)), h0, fun k e => ge e⟩
  · rcases e with e | e
    · rw [e, h.o1]; simp
    · rw [h3 k e]; simp
  · by_cases e2 : g' = some k
    · rcases hg k e2 with x | x
      · left; rw [h3 k x]; simp
      · exact Or.inr x
    · rw [gn e2] at e; exact Or.inl e
  · have hnv : k ≠ L.vb := fun e2 => by rw [e2, h.o1] at e; have := Option.some.inj e; omega
    have co : ∀ j, (w1.setCell ⟨L.vb, 1, none⟩ v').cell? ⟨k, j, none⟩ = w1.cell? ⟨k, j, none⟩ := fun j => World.cell?_setCell_other _ _ _ _ (by simp)
    refine ⟨?_, fun j hj => (co j).trans ?_⟩
    · by_cases e2 : g' = some k
      · refine ⟨l.length, ?_, ge e2⟩
        rcases hg k e2 with x | x
        · have := h3 k x
          rw [e] at this
          have := Option.some.inj this
          omega
        · omega
      · exact ⟨n, Nat.le_refl _, by rw [gn e2]; exact e⟩
    · by_cases e2 : g = some k
      · refine hp k e2 j ?_
        have := h3 k e2
        rw [e] at this
        have := Option.some.inj this
        omega
      · exact hk.cell (p := ⟨k, j, none⟩) hlt e2
end
end Go.Proofs.Ytabahmcbhapbiaa
