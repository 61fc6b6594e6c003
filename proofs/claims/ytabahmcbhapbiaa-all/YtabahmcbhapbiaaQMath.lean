import Derived.Test.YtabahmcbhapbiaaQBase
namespace Go.Proofs.Ytabahmcbhapbiaa

/-- An op: its Kind, At, Byte and Site. -/
structure Op4 where
  k : Int
  p : Int
  b : Int
  s : Int

/-- Turning (the document's section Words). -/
def turn (a b : Op4) : Op4 × Op4 :=
  if a.k = 0 ∨ b.k = 0 then (a, b)
  else if a.k = 1 ∧ b.k = 1 then if a.p < b.p ∨ (a.p = b.p ∧ a.s ≤ b.s) then (a, ⟨b.k, b.p + 1, b.b, b.s⟩) else (⟨a.k, a.p + 1, a.b, a.s⟩, b)
  else if a.k = 1 then if a.p ≤ b.p then (a, ⟨b.k, b.p + 1, b.b, b.s⟩) else (⟨a.k, a.p - 1, a.b, a.s⟩, b)
  else if b.k = 1 then if b.p ≤ a.p then (⟨a.k, a.p + 1, a.b, a.s⟩, b) else (a, ⟨b.k, b.p - 1, b.b, b.s⟩)
  else if a.p = b.p then (⟨0, 0, 0, a.s⟩, ⟨0, 0, 0, b.s⟩)
  else if a.p < b.p then (a, ⟨b.k, b.p - 1, b.b, b.s⟩) else (⟨a.k, a.p - 1, a.b, a.s⟩, b)

/-- The answer of a turning, as values. -/
def turnV (x : Op4 × Op4) : Value := .tuple #[.agg #[.int .i64 x.1.k, .int .i64 x.1.p, .int .i64 x.1.b, .int .i64 x.1.s], .agg #[.int .i64 x.2.k, .int .i64 x.2.p, .int .i64 x.2.b, .int .i64 x.2.s]]
theorem turnV_eq {x : Op4 × Op4} {a b c d e f g h : Int} (hx : x = (⟨a, b, c, d⟩, ⟨e, f, g, h⟩)) :
    (.tuple #[.agg #[.int .i64 a, .int .i64 b, .int .i64 c, .int .i64 d], .agg #[.int .i64 e, .int .i64 f, .int .i64 g, .int .i64 h]] : Value) = turnV x := by
  rw [hx]; rfl
end Go.Proofs.Ytabahmcbhapbiaa

namespace Go.Proofs.Ytabahmcbhapbiaa

section
variable (ak ap ab as1 bk bp bb bs : Int)
theorem turn_0x : turn ⟨0, ap, ab, as1⟩ ⟨bk, bp, bb, bs⟩ = (⟨0, ap, ab, as1⟩, ⟨bk, bp, bb, bs⟩) := by simp [turn]
theorem turn_x0 : turn ⟨ak, ap, ab, as1⟩ ⟨0, bp, bb, bs⟩ = (⟨ak, ap, ab, as1⟩, ⟨0, bp, bb, bs⟩) := by simp [turn]
theorem turn_ii_le (h : ap < bp ∨ (ap = bp ∧ as1 ≤ bs)) : turn ⟨1, ap, ab, as1⟩ ⟨1, bp, bb, bs⟩ = (⟨1, ap, ab, as1⟩, ⟨1, bp + 1, bb, bs⟩) := by simp [turn, h]
theorem turn_ii_gt (h : ¬ (ap < bp ∨ (ap = bp ∧ as1 ≤ bs))) : turn ⟨1, ap, ab, as1⟩ ⟨1, bp, bb, bs⟩ = (⟨1, ap + 1, ab, as1⟩, ⟨1, bp, bb, bs⟩) := by simp only [turn]; rw [if_neg (by simp), if_pos (by simp), if_neg h]
theorem turn_id_le (h : ap ≤ bp) : turn ⟨1, ap, ab, as1⟩ ⟨2, bp, bb, bs⟩ = (⟨1, ap, ab, as1⟩, ⟨2, bp + 1, bb, bs⟩) := by simp [turn, h]
theorem turn_id_gt (h : bp < ap) : turn ⟨1, ap, ab, as1⟩ ⟨2, bp, bb, bs⟩ = (⟨1, ap - 1, ab, as1⟩, ⟨2, bp, bb, bs⟩) := by simp only [turn]; rw [if_neg (by simp), if_neg (by simp), if_pos (by simp), if_neg (by omega)]
theorem turn_di_le (h : bp ≤ ap) : turn ⟨2, ap, ab, as1⟩ ⟨1, bp, bb, bs⟩ = (⟨2, ap + 1, ab, as1⟩, ⟨1, bp, bb, bs⟩) := by simp [turn, h]
theorem turn_di_gt (h : ap < bp) : turn ⟨2, ap, ab, as1⟩ ⟨1, bp, bb, bs⟩ = (⟨2, ap, ab, as1⟩, ⟨1, bp - 1, bb, bs⟩) := by simp only [turn]; rw [if_neg (by simp), if_neg (by simp), if_neg (by simp), if_pos (by simp), if_neg (by omega)]
theorem turn_dd_eq : turn ⟨2, bp, ab, as1⟩ ⟨2, bp, bb, bs⟩ = (⟨0, 0, 0, as1⟩, ⟨0, 0, 0, bs⟩) := by simp [turn]
theorem turn_dd_lt (h : ap < bp) : turn ⟨2, ap, ab, as1⟩ ⟨2, bp, bb, bs⟩ = (⟨2, ap, ab, as1⟩, ⟨2, bp - 1, bb, bs⟩) := by
  unfold turn; simp only; rw [if_neg (by omega), if_neg (by omega), if_neg (by omega), if_neg (by omega), if_neg (by omega), if_pos h]
theorem turn_dd_gt (h : bp < ap) : turn ⟨2, ap, ab, as1⟩ ⟨2, bp, bb, bs⟩ = (⟨2, ap - 1, ab, as1⟩, ⟨2, bp, bb, bs⟩) := by
  unfold turn; simp only; rw [if_neg (by omega), if_neg (by omega), if_neg (by omega), if_neg (by omega), if_neg (by omega), if_neg (by omega)]
end
end Go.Proofs.Ytabahmcbhapbiaa

namespace Go.Proofs.Ytabahmcbhapbiaa

/-! ### Texts: a byte put in, a byte taken away -/
def ins (t : List UInt8) (i : Nat) (x : UInt8) : List UInt8 := t.take i ++ x :: t.drop i
def del (t : List UInt8) (i : Nat) : List UInt8 := t.take i ++ t.drop (i + 1)

theorem ins_len (t : List UInt8) (i : Nat) (x : UInt8) (h : i ≤ t.length) : (ins t i x).length = t.length + 1 := by
  simp [ins]; omega
theorem del_len (t : List UInt8) (i : Nat) (h : i < t.length) : (del t i).length = t.length - 1 := by
  simp [del]; omega
theorem ins_get (t : List UInt8) (i : Nat) (x : UInt8) (h : i ≤ t.length) (j : Nat) : (ins t i x)[j]? = if j < i then t[j]? else if j = i then some x else t[j - 1]? := by
  have hl : (t.take i).length = i := by simp; omega
  unfold ins
  by_cases h1 : j < i
  · rw [if_pos h1, List.getElem?_append_left (by omega), List.getElem?_take, if_pos h1]
  · rw [if_neg h1, List.getElem?_append_right (by omega), hl]
    by_cases h2 : j = i
    · subst h2; simp
    · rw [if_neg h2]
      obtain ⟨k, hk⟩ : ∃ k, j - i = k + 1 := ⟨j - i - 1, by omega⟩
      rw [hk, List.getElem?_cons_succ, List.getElem?_drop]
      congr 1; omega
theorem del_get (t : List UInt8) (i : Nat) (h : i < t.length) (j : Nat) : (del t i)[j]? = if j < i then t[j]? else t[j + 1]? := by
  have hl : (t.take i).length = i := by simp; omega
  unfold del
  by_cases h1 : j < i
  · rw [if_pos h1, List.getElem?_append_left (by omega), List.getElem?_take, if_pos h1]
  · rw [if_neg h1, List.getElem?_append_right (by omega), hl, List.getElem?_drop]
    congr 1; omega

/-- Two inserts, the first ahead of the second. -/
theorem ins_ins (t : List UInt8) (i j : Nat) (x y : UInt8) (hij : i ≤ j) (hj : j ≤ t.length) : ins (ins t i x) (j + 1) y = ins (ins t j y) i x := by
  have h1 := ins_len t i x (by omega)
  have h2 := ins_len t j y hj
  apply List.ext_getElem?
  intro k
  rw [ins_get _ _ _ (by omega), ins_get _ _ _ (by omega), ins_get _ _ _ (by omega), ins_get _ _ _ (by omega)]
  repeat' split
  all_goals first | rfl | omega | (congr 1; omega) | (exfalso; omega) | skip
  all_goals first | rfl | (rw [ins_get _ _ _ (by omega)]; repeat' split) | skip
  all_goals first | rfl | omega | (congr 1; omega) | (exfalso; omega)

theorem ins_del_le (t : List UInt8) (i j : Nat) (x : UInt8) (hij : i ≤ j) (hj : j < t.length) : del (ins t i x) (j + 1) = ins (del t j) i x := by
  have h1 := ins_len t i x (by omega)
  have h2 := del_len t j hj
  apply List.ext_getElem?
  intro k
  rw [del_get _ _ (by omega), ins_get _ _ _ (by omega), ins_get _ _ _ (by omega), ins_get _ _ _ (by omega), del_get _ _ hj, del_get _ _ hj]
  repeat' split
  all_goals first | rfl | omega | (congr 1; omega)
theorem ins_del_gt (t : List UInt8) (i j : Nat) (x : UInt8) (hij : j < i) (hi : i ≤ t.length) : del (ins t i x) j = ins (del t j) (i - 1) x := by
  have h1 := ins_len t i x hi
  have h2 := del_len t j (by omega)
  apply List.ext_getElem?
  intro k
  rw [del_get _ _ (by omega), ins_get _ _ _ hi, ins_get _ _ _ hi, ins_get _ _ _ (by omega), del_get _ _ (by omega), del_get _ _ (by omega)]
  repeat' split
  all_goals first | rfl | omega | (congr 1; omega)
theorem del_del (t : List UInt8) (i j : Nat) (hij : i < j) (hj : j < t.length) : del (del t i) (j - 1) = del (del t j) i := by
  have h1 := del_len t i (by omega)
  have h2 := del_len t j hj
  apply List.ext_getElem?
  intro k
  rw [del_get _ _ (by omega), del_get _ _ (by omega), del_get _ _ (by omega), del_get _ _ (by omega), del_get _ _ (by omega), del_get _ _ (by omega)]
  repeat' split
  all_goals first | rfl | omega | (congr 1; omega)

/-! ### Ops on texts -/
/-- What an op makes of a text that it fits. -/
def app (t : List UInt8) (o : Op4) : Option (List UInt8) :=
  if o.k = 1 then if o.p.toNat ≤ t.length then some (ins t o.p.toNat (UInt8.ofNat o.b.toNat)) else none
  else if o.k = 2 then if o.p.toNat < t.length then some (del t o.p.toNat) else none
  else some t
/-- An op as above, whatever its At. -/
def Wf (o : Op4) : Prop := 0 ≤ o.p ∧ ((o.k = 0 ∧ o.p = 0 ∧ o.b = 0) ∨ (o.k = 1 ∧ 0 ≤ o.b ∧ o.b ≤ 255) ∨ (o.k = 2 ∧ o.b = 0)) ∧ 0 ≤ o.s ∧ o.s ≤ 3
theorem Wf.kind {o : Op4} (h : Wf o) : o.k = 0 ∨ o.k = 1 ∨ o.k = 2 := by
  obtain ⟨_, h, _⟩ := h; omega

theorem app_0 {t : List UInt8} {o : Op4} (h : o.k = 0) : app t o = some t := by simp [app, h]
theorem app_1 {t : List UInt8} {o : Op4} (h : o.k = 1) : app t o = if o.p.toNat ≤ t.length then some (ins t o.p.toNat (UInt8.ofNat o.b.toNat)) else none := by simp [app, h]
theorem app_2 {t : List UInt8} {o : Op4} (h : o.k = 2) : app t o = if o.p.toNat < t.length then some (del t o.p.toNat) else none := by simp [app, h]

theorem turn_wf {a b : Op4} (ha : Wf a) (hb : Wf b) : Wf (turn a b).1 ∧ Wf (turn a b).2 := by
  obtain ⟨ak, ap, ab, as1⟩ := a
  obtain ⟨bk, bp, bb, bs⟩ := b
  obtain ⟨ha2, ha1, ha3, ha4⟩ := ha
  obtain ⟨hb2, hb1, hb3, hb4⟩ := hb
  simp only at ha1 ha2 ha3 ha4 hb1 hb2 hb3 hb4
  unfold turn
  simp only
  repeat' split
  all_goals (refine ⟨⟨?_, ?_, ?_, ?_⟩, ⟨?_, ?_, ?_, ?_⟩⟩ <;> simp only <;> first | omega | simp)
theorem turn_site (a b : Op4) : (turn a b).1.s = a.s ∧ (turn a b).2.s = b.s := by
  unfold turn
  repeat' split
  all_goals exact ⟨rfl, rfl⟩

/-- SQUARE: a and then b' makes of a text what b and then a' makes. -/
theorem square {t ta tb : List UInt8} {a b : Op4} (ha : Wf a) (hb : Wf b) (h1 : app t a = some ta) (h2 : app t b = some tb) :
    ∃ u, app ta (turn a b).2 = some u ∧ app tb (turn a b).1 = some u := by
  obtain ⟨ak, ap, ab, as1⟩ := a
  obtain ⟨bk, bp, bb, bs⟩ := b
  have ha1 := ha.kind
  have hb1 := hb.kind
  have ha2 := ha.1
  have hb2 := hb.1
  clear ha hb
  simp only at ha1 ha2 hb1 hb2
  obtain ⟨i, rfl⟩ := Int.eq_ofNat_of_zero_le ha2
  obtain ⟨j, rfl⟩ := Int.eq_ofNat_of_zero_le hb2
  rcases ha1 with rfl | rfl | rfl
  · rw [turn_0x]
    rw [app_0 rfl] at h1
    cases h1
    exact ⟨tb, h2, by rw [app_0 rfl]⟩
  · rcases hb1 with rfl | rfl | rfl
    · rw [turn_x0]
      rw [app_0 rfl] at h2
      cases h2
      exact ⟨ta, by rw [app_0 rfl], h1⟩
    · rw [app_1 rfl] at h1 h2
      simp only [Int.toNat_natCast] at h1 h2
      split at h1
      · split at h2
        · rename_i hi hj
          cases h1; cases h2
          by_cases h : (i : Int) < j ∨ ((i : Int) = j ∧ as1 ≤ bs)
          · rw [turn_ii_le _ _ _ _ _ _ h]
            refine ⟨ins (ins t j (UInt8.ofNat bb.toNat)) i (UInt8.ofNat ab.toNat), ?_, ?_⟩
            · rw [app_1 rfl, if_pos (by rw [ins_len _ _ _ hi]; simp; omega)]
              simp only
              rw [show ((j : Int) + 1).toNat = j + 1 by omega, ins_ins _ _ _ _ _ (by omega) hj]
            · rw [app_1 rfl, if_pos (by rw [ins_len _ _ _ hj]; simp; omega)]
              simp only [Int.toNat_natCast]
          · rw [turn_ii_gt _ _ _ _ _ _ h]
            refine ⟨ins (ins t i (UInt8.ofNat ab.toNat)) j (UInt8.ofNat bb.toNat), ?_, ?_⟩
            · rw [app_1 rfl, if_pos (by rw [ins_len _ _ _ hi]; simp; omega)]
              simp only [Int.toNat_natCast]
            · rw [app_1 rfl, if_pos (by rw [ins_len _ _ _ hj]; simp; omega)]
              simp only
              rw [show ((i : Int) + 1).toNat = i + 1 by omega, ins_ins _ _ _ _ _ (by omega) hi]
        · cases h2
      · cases h1
    · rw [app_1 rfl] at h1
      rw [app_2 rfl] at h2
      simp only [Int.toNat_natCast] at h1 h2
      split at h1
      · split at h2
        · rename_i hi hj
          cases h1; cases h2
          by_cases h : (i : Int) ≤ j
          · rw [turn_id_le _ _ _ _ _ _ h]
            refine ⟨ins (del t j) i (UInt8.ofNat ab.toNat), ?_, ?_⟩
            · rw [app_2 rfl, if_pos (by rw [ins_len _ _ _ hi]; simp; omega)]
              simp only
              rw [show ((j : Int) + 1).toNat = j + 1 by omega, ins_del_le _ _ _ _ (by omega) hj]
            · rw [app_1 rfl, if_pos (by rw [del_len _ _ hj]; simp; omega)]
              simp only [Int.toNat_natCast]
          · rw [turn_id_gt _ _ _ _ _ _ (by omega)]
            refine ⟨ins (del t j) (i - 1) (UInt8.ofNat ab.toNat), ?_, ?_⟩
            · rw [app_2 rfl, if_pos (by rw [ins_len _ _ _ hi]; simp; omega)]
              simp only [Int.toNat_natCast]
              rw [ins_del_gt _ _ _ _ (by omega) hi]
            · rw [app_1 rfl, if_pos (by rw [del_len _ _ hj]; simp; omega)]
              simp only
              rw [show ((i : Int) - 1).toNat = i - 1 by omega]
        · cases h2
      · cases h1
  · rcases hb1 with rfl | rfl | rfl
    · rw [turn_x0]
      rw [app_0 rfl] at h2
      cases h2
      exact ⟨ta, by rw [app_0 rfl], h1⟩
    · rw [app_2 rfl] at h1
      rw [app_1 rfl] at h2
      simp only [Int.toNat_natCast] at h1 h2
      split at h1
      · split at h2
        · rename_i hi hj
          cases h1; cases h2
          by_cases h : (j : Int) ≤ i
          · rw [turn_di_le _ _ _ _ _ _ h]
            refine ⟨ins (del t i) j (UInt8.ofNat bb.toNat), ?_, ?_⟩
            · rw [app_1 rfl, if_pos (by rw [del_len _ _ hi]; simp; omega)]
              simp only [Int.toNat_natCast]
            · rw [app_2 rfl, if_pos (by rw [ins_len _ _ _ hj]; simp; omega)]
              simp only
              rw [show ((i : Int) + 1).toNat = i + 1 by omega, ins_del_le _ _ _ _ (by omega) hi]
          · rw [turn_di_gt _ _ _ _ _ _ (by omega)]
            refine ⟨ins (del t i) (j - 1) (UInt8.ofNat bb.toNat), ?_, ?_⟩
            · rw [app_1 rfl, if_pos (by rw [del_len _ _ hi]; simp; omega)]
              simp only
              rw [show ((j : Int) - 1).toNat = j - 1 by omega]
            · rw [app_2 rfl, if_pos (by rw [ins_len _ _ _ hj]; simp; omega)]
              simp only [Int.toNat_natCast]
              rw [ins_del_gt _ _ _ _ (by omega) hj]
        · cases h2
      · cases h1
    · rw [app_2 rfl] at h1 h2
      simp only [Int.toNat_natCast] at h1 h2
      split at h1
      · split at h2
        · rename_i hi hj
          cases h1; cases h2
          by_cases h : (i : Int) < j
          · rw [turn_dd_lt _ _ _ _ _ _ h]
            refine ⟨del (del t j) i, ?_, ?_⟩
            · rw [app_2 rfl, if_pos (by rw [del_len _ _ hi]; simp; omega)]
              simp only
              rw [show ((j : Int) - 1).toNat = j - 1 by omega, del_del _ _ _ (by omega) hj]
            · rw [app_2 rfl, if_pos (by rw [del_len _ _ hj]; simp; omega)]
              simp only [Int.toNat_natCast]
          by_cases he : (i : Int) = j
          · obtain rfl : i = j := by omega
            rw [turn_dd_eq]
            exact ⟨del t i, app_0 rfl, app_0 rfl⟩
          · rw [turn_dd_gt _ _ _ _ _ _ (by omega)]
            refine ⟨del (del t i) j, ?_, ?_⟩
            · rw [app_2 rfl, if_pos (by rw [del_len _ _ hi]; simp; omega)]
              simp only [Int.toNat_natCast]
            · rw [app_2 rfl, if_pos (by rw [del_len _ _ hj]; simp; omega)]
              simp only
              rw [show ((i : Int) - 1).toNat = i - 1 by omega, del_del _ _ _ (by omega) hi]
        · cases h2
      · cases h1

/-- Asked the other way round: the same, for unlike sites, or where one is nothing. -/
theorem turn_swap {a b : Op4} (ha : Wf a) (hb : Wf b) (h : a.s ≠ b.s ∨ a.k = 0 ∨ b.k = 0) : turn b a = ((turn a b).2, (turn a b).1) := by
  obtain ⟨ak, ap, ab, as1⟩ := a
  obtain ⟨bk, bp, bb, bs⟩ := b
  have ha1 := ha.kind
  have hb1 := hb.kind
  clear ha hb
  simp only at ha1 hb1 h
  unfold turn
  simp only
  rcases ha1 with rfl | rfl | rfl <;> rcases hb1 with rfl | rfl | rfl
  all_goals simp at h ⊢
  all_goals (repeat' split)
  all_goals first | rfl | (exfalso; omega) | omega | (simp; omega)
end Go.Proofs.Ytabahmcbhapbiaa

namespace Go.Proofs.Ytabahmcbhapbiaa

/-! ### An op carried over a list of ops, and they over it -/
def cross (o : Op4) : List Op4 → Op4 × List Op4
  | [] => (o, [])
  | x :: l => ((cross (turn o x).1 l).1, (turn o x).2 :: (cross (turn o x).1 l).2)
def apps (t : List UInt8) : List Op4 → Option (List UInt8)
  | [] => some t
  | o :: l => (app t o).bind fun u => apps u l

theorem cross_nil (o : Op4) : cross o [] = (o, []) := rfl
theorem cross_cons (o x : Op4) (l : List Op4) : cross o (x :: l) = ((cross (turn o x).1 l).1, (turn o x).2 :: (cross (turn o x).1 l).2) := rfl
theorem cross_append : ∀ (o : Op4) (l m : List Op4), cross o (l ++ m) = ((cross (cross o l).1 m).1, (cross o l).2 ++ (cross (cross o l).1 m).2)
  | o, [], m => by simp [cross_nil]
  | o, x :: l, m => by
    rw [List.cons_append, cross_cons, cross_append, cross_cons]
    simp
theorem cross_len : ∀ (o : Op4) (l : List Op4), (cross o l).2.length = l.length
  | _, [] => rfl
  | o, x :: l => by rw [cross_cons]; simp [cross_len]
theorem apps_append : ∀ (t : List UInt8) (l m : List Op4), apps t (l ++ m) = (apps t l).bind fun u => apps u m
  | t, [], m => rfl
  | t, o :: l, m => by
    show (app t o).bind (fun u => apps u (l ++ m)) = ((app t o).bind fun u => apps u l).bind fun u => apps u m
    cases app t o with
    | none => rfl
    | some u => exact apps_append u l m

/-- nothing turns nothing. -/
theorem turn_none (o x : Op4) (h : o.k = 0) : turn o x = (o, x) := by unfold turn; rw [if_pos (Or.inl h)]
theorem turn_none' (o x : Op4) (h : x.k = 0) : turn o x = (o, x) := by unfold turn; rw [if_pos (Or.inr h)]
theorem cross_none : ∀ (o : Op4) (l : List Op4), o.k = 0 → cross o l = (o, l)
  | _, [], _ => rfl
  | o, x :: l, h => by rw [cross_cons, turn_none o x h]; simp only; rw [cross_none o l h]

/-- The classes: ops of the client c itself; ops of the others, and nothings. -/
def Own (own : Bool) (c : Int) (o : Op4) : Prop := Wf o ∧ (if own then o.s = c else (o.s ≠ c ∨ o.k = 0))
theorem own_turn {own : Bool} {c : Int} {a b : Op4} (ha : Own own c a) (hb : Own (!own) c b) : Own own c (turn a b).1 ∧ Own (!own) c (turn a b).2 ∧ turn b a = ((turn a b).2, (turn a b).1) := by
  have hw := turn_wf ha.1 hb.1
  have hs := turn_site a b
  obtain ⟨wa, ca⟩ := ha
  obtain ⟨wb, cb⟩ := hb
  by_cases k0 : a.k = 0
  · rw [turn_none a b k0, turn_none' b a k0]
    exact ⟨⟨wa, ca⟩, ⟨wb, cb⟩, rfl⟩
  by_cases k1 : b.k = 0
  · rw [turn_none' a b k1, turn_none b a k1]
    exact ⟨⟨wa, ca⟩, ⟨wb, cb⟩, rfl⟩
  cases own
  · simp [k0] at ca cb
    exact ⟨⟨hw.1, Or.inl (by rw [hs.1]; exact ca)⟩, ⟨hw.2, by simp [hs.2, cb]⟩, turn_swap wa wb (Or.inl (by rw [cb]; exact ca))⟩
  · simp [k1] at ca cb
    exact ⟨⟨hw.1, by simp [hs.1, ca]⟩, ⟨hw.2, Or.inl (by rw [hs.2]; exact cb)⟩, turn_swap wa wb (Or.inl (by rw [ca]; exact fun h => cb h.symm))⟩
theorem own_cross {own : Bool} {c : Int} : ∀ {o : Op4} {l : List Op4}, Own own c o → (∀ x ∈ l, Own (!own) c x) → Own own c (cross o l).1 ∧ ∀ x ∈ (cross o l).2, Own (!own) c x
  | o, [], ho, _ => ⟨ho, fun x hx => by cases hx⟩
  | o, y :: l, ho, hl => by
    have h1 := own_turn ho (hl y (by simp))
    have h2 := own_cross (l := l) h1.1 (fun x hx => hl x (by simp [hx]))
    rw [cross_cons]
    refine ⟨h2.1, fun x hx => ?_⟩
    rcases List.mem_cons.1 hx with rfl | h
    · exact h1.2.1
    · exact h2.2 x h

/-- The square, along a list. -/
theorem square_path {own : Bool} {c : Int} : ∀ {l : List Op4} {o : Op4} {t tl to : List UInt8}, Own own c o → (∀ x ∈ l, Own (!own) c x) → apps t l = some tl → app t o = some to →
    ∃ u, app tl (cross o l).1 = some u ∧ apps to (cross o l).2 = some u
  | [], o, t, tl, to, _, _, h1, h2 => by
    cases h1
    exact ⟨to, h2, rfl⟩
  | x :: l, o, t, tl, to, ho, hl, h1, h2 => by
    have hx := hl x (by simp)
    simp only [apps] at h1
    obtain ⟨tx, h3, h4⟩ := Option.bind_eq_some_iff.1 h1
    obtain ⟨u, h5, h6⟩ := square ho.1 hx.1 h2 h3
    have h7 := own_turn ho hx
    obtain ⟨v, h8, h9⟩ := square_path (l := l) h7.1 (fun y hy => hl y (by simp [hy])) h4 h6
    refine ⟨v, h8, ?_⟩
    rw [cross_cons]
    simp only [apps]
    rw [h5]
    exact h9

/-! ### Messages on their way -/
/-- Messages (an op, and how many had come), each carried over what is open of the list L (of which the first stands behind number K) becomes the op that the other side has open for it. -/
def Chain : Nat → List Op4 → List (Op4 × Nat) → List Op4 → Prop
  | _, _, [], [] => True
  | K, L, m :: U, v :: V => K ≤ m.2 ∧ m.2 - K ≤ L.length ∧ (cross m.1 (L.drop (m.2 - K))).1 = v ∧ Chain m.2 (cross m.1 (L.drop (m.2 - K))).2 U V
  | _, _, _, _ => False
theorem chain_len : ∀ {K : Nat} {L : List Op4} {U : List (Op4 × Nat)} {V : List Op4}, Chain K L U V → V.length = U.length
  | _, _, [], [], _ => rfl
  | _, _, m :: U, v :: V, h => by simp [chain_len h.2.2.2]
  | _, _, [], _ :: _, h => by cases h
  | _, _, _ :: _, [], h => by cases h
theorem chain_snoc : ∀ {K : Nat} {L : List Op4} {U : List (Op4 × Nat)} {V : List Op4} (o : Op4), Chain K L U V → Chain K L (U ++ [(o, K + L.length)]) (V ++ [o])
  | K, L, [], [], o, _ => by
    refine ⟨by simp, by simp, ?_, ?_⟩
    · simp [cross_nil]
    · simp [Chain]
  | K, L, m :: U, v :: V, o, h => by
    refine ⟨h.1, h.2.1, h.2.2.1, ?_⟩
    have := chain_snoc o h.2.2.2
    rw [cross_len, List.length_drop, show m.2 + (L.length - (m.2 - K)) = K + L.length by have := h.1; have := h.2.1; omega] at this
    exact this
  | _, _, [], _ :: _, _, h => by cases h
  | _, _, _ :: _, [], _, h => by cases h
/-- One op more at the end of what is open: it goes over all that is on its way. -/
theorem chain_other {own : Bool} {c : Int} : ∀ {K : Nat} {L : List Op4} {U : List (Op4 × Nat)} {V : List Op4} {x : Op4}, Own (!own) c x → (∀ y ∈ L, Own (!own) c y) → (∀ m ∈ U, Own own c m.1) →
    Chain K L U V → Chain K (L ++ [x]) U (cross x V).2
  | K, L, [], [], x, _, _, _, _ => by simp [cross_nil, Chain]
  | K, L, m :: U, v :: V, x, hx, hL, hU, h => by
    obtain ⟨h1, h2, h3, h4⟩ := h
    have hm := hU m (by simp)
    have hc := own_cross (l := L.drop (m.2 - K)) hm (fun y hy => hL y (List.mem_of_mem_drop hy))
    rw [h3] at hc
    have ht := own_turn hc.1 hx
    have e : cross m.1 ((L ++ [x]).drop (m.2 - K)) = ((turn v x).1, (cross m.1 (L.drop (m.2 - K))).2 ++ [(turn v x).2]) := by
      rw [List.drop_append_of_le_length h2, cross_append, h3]
      simp [cross_cons, cross_nil]
    rw [cross_cons, ht.2.2]
    refine ⟨h1, by simp; omega, by rw [e], ?_⟩
    rw [e]
    exact chain_other ht.2.1 hc.2 (fun y hy => hU y (by simp [hy])) h4
  | _, _, [], _ :: _, _, _, _, _, h => by cases h
  | _, _, _ :: _, [], _, _, _, _, h => by cases h

/-! ### A client and the server -/
/-- Between two sides: a text S (of the one whose ops are of the class 'not own': the server) and C; what each has open (Os, Oc), of which it is known that Ks, Kc came; how many came (B: to C's side, A: to S's side); what is on its way (U to S's side, D to C's side).
  Both texts come of one text T: by those open ops that have not come to the other side. -/
def Link (own : Bool) (c : Int) (S C : List UInt8) (Ks : Nat) (Os : List Op4) (Kc : Nat) (Oc : List Op4) (B A : Nat) (U D : List (Op4 × Nat)) : Prop :=
  ∃ L1s Vs L1c Vc : List Op4, Os = L1s ++ Vs ∧ Oc = L1c ++ Vc ∧ B = Ks + L1s.length ∧ A = Kc + L1c.length ∧
    (∀ o ∈ Os, Own (!own) c o) ∧ (∀ o ∈ Oc, Own own c o) ∧ (∀ m ∈ U, Own own c m.1) ∧ (∀ m ∈ D, Own (!own) c m.1) ∧
    (∃ T, apps T Vs = some S ∧ apps T Vc = some C) ∧ Chain Ks L1s U Vc ∧ Chain Kc L1c D Vs

theorem link_flip {own : Bool} {c : Int} {S C : List UInt8} {Ks : Nat} {Os : List Op4} {Kc : Nat} {Oc : List Op4} {B A : Nat} {U D : List (Op4 × Nat)}
    (h : Link own c S C Ks Os Kc Oc B A U D) : Link (!own) c C S Kc Oc Ks Os A B D U := by
  obtain ⟨L1s, Vs, L1c, Vc, h1, h2, h3, h4, h5, h6, h7, h8, ⟨T, h9, h10⟩, h11, h12⟩ := h
  refine ⟨L1c, Vc, L1s, Vs, h2, h1, h4, h3, ?_, h5, h8, ?_, ⟨T, h10, h9⟩, h12, h11⟩
  · rw [Bool.not_not]; exact h6
  · rw [Bool.not_not]; exact h7

theorem link_init (own : Bool) (c : Int) (t : List UInt8) : Link own c t t 0 [] 0 [] 0 0 [] [] :=
  ⟨[], [], [], [], rfl, rfl, rfl, rfl, fun o ho => (by cases ho), fun o ho => (by cases ho), fun o ho => (by cases ho), fun o ho => (by cases ho), ⟨t, rfl, rfl⟩, trivial, trivial⟩

/-- The one side does an op of its own, and sends it. -/
theorem link_send {own : Bool} {c : Int} {S C C' : List UInt8} {Ks : Nat} {Os : List Op4} {Kc : Nat} {Oc : List Op4} {B A : Nat} {U D : List (Op4 × Nat)} {o : Op4}
    (h : Link own c S C Ks Os Kc Oc B A U D) (ho : Own own c o) (hC : app C o = some C') : Link own c S C' Ks Os Kc (Oc ++ [o]) B A (U ++ [(o, B)]) D := by
  obtain ⟨L1s, Vs, L1c, Vc, h1, h2, h3, h4, h5, h6, h7, h8, ⟨T, h9, h10⟩, h11, h12⟩ := h
  refine ⟨L1s, Vs, L1c, Vc ++ [o], h1, by rw [h2, List.append_assoc], h3, h4, h5, ?_, ?_, h8, ⟨T, h9, ?_⟩, ?_, h12⟩
  · intro x hx
    rcases List.mem_append.1 hx with h | h
    · exact h6 x h
    · simp at h; subst h; exact ho
  · intro x hx
    rcases List.mem_append.1 hx with h | h
    · exact h7 x h
    · simp at h; subst h; exact ho
  · rw [apps_append, h10]
    show (app C o).bind (fun u => apps u []) = some C'
    rw [hC]; rfl
  · rw [h3]; exact chain_snoc o h11

/-- The first message of U comes to S's side. -/
theorem link_take {own : Bool} {c : Int} {S C : List UInt8} {Ks : Nat} {Os : List Op4} {Kc : Nat} {Oc : List Op4} {B A : Nat} {U D : List (Op4 × Nat)} {m : Op4 × Nat}
    (h : Link own c S C Ks Os Kc Oc B A (m :: U) D) :
    Ks ≤ m.2 ∧ m.2 - Ks ≤ Os.length ∧ Own own c (cross m.1 (Os.drop (m.2 - Ks))).1 ∧ ∃ S', app S (cross m.1 (Os.drop (m.2 - Ks))).1 = some S' ∧
      Link own c S' C m.2 (cross m.1 (Os.drop (m.2 - Ks))).2 Kc Oc B (A + 1) U D := by
  obtain ⟨L1s, Vs, L1c, Vc, h1, h2, h3, h4, h5, h6, h7, h8, ⟨T, h9, h10⟩, h11, h12⟩ := h
  match Vc, h11 with
  | v :: Vc', h11 =>
    obtain ⟨k1, k2, k3, k4⟩ := h11
    have hm := h7 m (by simp)
    have hL : ∀ x ∈ L1s, Own (!own) c x := fun x hx => h5 x (by rw [h1]; simp [hx])
    have hV : ∀ x ∈ Vs, Own (!own) c x := fun x hx => h5 x (by rw [h1]; simp [hx])
    have hv : Own own c v := h6 v (by rw [h2]; simp)
    have hM := own_cross (l := L1s.drop (m.2 - Ks)) hm (fun x hx => hL x (List.mem_of_mem_drop hx))
    have e : cross m.1 (Os.drop (m.2 - Ks)) = ((cross v Vs).1, (cross m.1 (L1s.drop (m.2 - Ks))).2 ++ (cross v Vs).2) := by
      rw [h1, List.drop_append_of_le_length k2, cross_append, k3]
    have hW := own_cross hv hV
    simp only [apps] at h10
    obtain ⟨T', h13, h14⟩ := Option.bind_eq_some_iff.1 h10
    obtain ⟨S', h15, h16⟩ := square_path hv hV h9 h13
    refine ⟨k1, by rw [h1]; simp; omega, by rw [e]; exact hW.1, S', by rw [e]; exact h15, ?_⟩
    rw [e]
    refine ⟨(cross m.1 (L1s.drop (m.2 - Ks))).2, (cross v Vs).2, L1c ++ [v], Vc', rfl, by rw [h2]; simp, ?_, by rw [h4]; simp; omega, ?_, h6, fun x hx => h7 x (by simp [hx]), h8, ⟨T', h16, h14⟩, k4, ?_⟩
    · rw [h3, cross_len, List.length_drop]; omega
    · intro x hx
      rcases List.mem_append.1 hx with h | h
      · exact hM.2 x h
      · exact hW.2 x h
    · have := chain_other (own := !own) (c := c) (x := v) (by rw [Bool.not_not]; exact hv) (fun y hy => by rw [Bool.not_not]; exact h6 y (by rw [h2]; simp [hy])) h8 h12
      exact this
  | [], h11 => cases h11

/-- Nothing is on its way: the texts are the same. -/
theorem link_calm {own : Bool} {c : Int} {S C : List UInt8} {Ks : Nat} {Os : List Op4} {Kc : Nat} {Oc : List Op4} {B A : Nat} (h : Link own c S C Ks Os Kc Oc B A [] []) : S = C := by
  obtain ⟨L1s, Vs, L1c, Vc, _, _, _, _, _, _, _, _, ⟨T, h9, h10⟩, h11, h12⟩ := h
  have e1 : Vc = [] := List.length_eq_zero_iff.1 (chain_len h11)
  have e2 : Vs = [] := List.length_eq_zero_iff.1 (chain_len h12)
  subst e1; subst e2
  cases h9; cases h10
  rfl
end Go.Proofs.Ytabahmcbhapbiaa

namespace Go.Proofs.Ytabahmcbhapbiaa

/-! ### What the server did, and what of it is on its way to a client -/
def noop (c : Int) : Op4 := ⟨0, 0, 0, c⟩
theorem own_noop (c : Int) (h0 : 0 ≤ c) (h1 : c ≤ 3) : Own false c (noop c) := ⟨⟨Int.le_refl 0, Or.inl ⟨rfl, rfl, rfl⟩, h0, h1⟩, Or.inr rfl⟩
/-- How many of a list are c's own. -/
def ownN (c : Int) : List Op4 → Nat
  | [] => 0
  | z :: l => (if z.s = c then 1 else 0) + ownN c l
theorem ownN_append (c : Int) : ∀ l m : List Op4, ownN c (l ++ m) = ownN c l + ownN c m
  | [], m => by simp [ownN]
  | z :: l, m => by simp [ownN, ownN_append c l m]; omega
/-- The messages to c that tell a list: of its own ops nothing; with each how many of its own had come. -/
def dmsgs (c : Int) : Nat → List Op4 → List (Op4 × Nat)
  | _, [] => []
  | K, z :: l => if z.s = c then (noop c, K + 1) :: dmsgs c (K + 1) l else (z, K) :: dmsgs c K l
theorem dmsgs_snoc (c : Int) (z : Op4) : ∀ (K : Nat) (l : List Op4), dmsgs c K (l ++ [z]) = dmsgs c K l ++ [if z.s = c then (noop c, K + ownN c l + 1) else (z, K + ownN c l)]
  | K, [] => by
    simp only [List.nil_append, dmsgs, ownN, Nat.add_zero]
    split <;> rfl
  | K, y :: l => by
    simp only [List.cons_append, dmsgs, ownN]
    split
    · rw [dmsgs_snoc c z (K + 1) l, List.cons_append, show K + 1 + ownN c l = K + (1 + ownN c l) by omega]
    · rw [dmsgs_snoc c z K l, List.cons_append, Nat.zero_add]
theorem dmsgs_len (c : Int) : ∀ (K : Nat) (l : List Op4), (dmsgs c K l).length = l.length
  | _, [] => rfl
  | K, z :: l => by simp only [dmsgs]; split <;> simp [dmsgs_len]

/-- What is open at c when all of a list has come. -/
def runs (c : Int) : List Op4 → List Op4 → List Op4
  | o, [] => o
  | o, z :: l => if z.s = c then runs c o.tail l else runs c (cross z o).2 l
/-- Each own op of the list is just what c has open for it when it comes. -/
def Pend (c : Int) : List Op4 → List Op4 → Prop
  | _, [] => True
  | o, z :: l => if z.s = c then (∃ tl, o = z :: tl) ∧ Pend c o.tail l else Pend c (cross z o).2 l
theorem pend_snoc_other {c : Int} {z : Op4} (hz : z.s ≠ c) : ∀ {l o : List Op4}, Pend c o l → Pend c o (l ++ [z])
  | [], o, _ => by simp [Pend, hz]
  | y :: l, o, h => by
    simp only [List.cons_append, Pend] at h ⊢
    split at h
    · rw [if_pos (by assumption)]; exact ⟨h.1, pend_snoc_other hz h.2⟩
    · rw [if_neg (by assumption)]; exact pend_snoc_other hz h
theorem pend_snoc_own {c : Int} {z : Op4} (hz : z.s = c) : ∀ {l o : List Op4}, Pend c o l → (∃ tl, runs c o l = z :: tl) → Pend c o (l ++ [z])
  | [], o, _, ht => by simp only [List.nil_append, Pend, if_pos hz]; exact ⟨ht, trivial⟩
  | y :: l, o, h, ht => by
    simp only [List.cons_append, Pend, runs] at h ht ⊢
    split at h
    · rw [if_pos (by assumption)] at ht ⊢; exact ⟨h.1, pend_snoc_own hz h.2 ht⟩
    · rw [if_neg (by assumption)] at ht ⊢; exact pend_snoc_own hz h ht
theorem pend_open {c : Int} (x : Op4) : ∀ {l o : List Op4}, Pend c o l → Pend c (o ++ [x]) l
  | [], o, _ => by simp [Pend]
  | y :: l, o, h => by
    simp only [Pend] at h ⊢
    split at h
    · rename_i hy
      rw [if_pos hy]
      obtain ⟨⟨tl, rfl⟩, h2⟩ := h
      exact ⟨⟨tl ++ [x], rfl⟩, pend_open x h2⟩
    · rename_i hy
      rw [if_neg hy, cross_append]
      exact pend_open _ h

/-- The list L, turned by all of Vs in order. -/
def overs : List Op4 → List Op4 → List Op4
  | [], V => V
  | s :: Vs, V => overs Vs (cross s V).2
theorem overs_nil : ∀ Vs : List Op4, overs Vs [] = []
  | [] => rfl
  | s :: Vs => by show overs Vs (cross s []).2 = []; exact overs_nil Vs
/-- Its first: v over all of Vs. -/
theorem overs_cons {c : Int} : ∀ {Vs : List Op4} {v : Op4} {V : List Op4}, Own true c v → (∀ s ∈ Vs, Own false c s) → ∃ tl, overs Vs (v :: V) = (cross v Vs).1 :: tl
  | [], v, V, _, _ => ⟨V, rfl⟩
  | s :: Vs, v, V, hv, hs => by
    have h := own_turn (own := true) hv (hs s (by simp))
    show ∃ tl, overs Vs (cross s (v :: V)).2 = _
    rw [cross_cons, h.2.2]
    simp only
    rw [cross_cons]
    exact overs_cons h.1 (fun y hy => hs y (by simp [hy]))


theorem runs_over {c : Int} : ∀ {l : List Op4} {K : Nat} {L V Vs : List Op4}, L.length = ownN c l → Chain K L (dmsgs c K l) Vs → runs c (L ++ V) l = overs Vs V
  | [], K, L, V, Vs, hl, h => by
    have e : L = [] := List.length_eq_zero_iff.1 hl
    subst e
    have e2 : Vs = [] := List.length_eq_zero_iff.1 (chain_len h)
    subst e2
    rfl
  | z :: l, K, L, V, Vs, hl, h => by
    simp only [dmsgs] at h
    simp only [ownN] at hl
    split at h
    · rename_i hz
      rw [if_pos hz] at hl
      match L, Vs, h with
      | x :: L', s :: Vs', h =>
        obtain ⟨_, _, h3, h4⟩ := h
        simp only [show K + 1 - K = 1 by omega, List.drop_succ_cons, List.drop_zero] at h3 h4
        rw [cross_none _ _ rfl] at h3 h4
        simp only at h3 h4
        have e := runs_over (V := V) (by simp at hl; omega) h4
        simp only [runs, if_pos hz, List.cons_append, List.tail_cons, overs]
        rw [e, ← h3, cross_none _ _ rfl]
      | [], _, h => simp at hl; omega
      | _ :: _, [], h => cases h
    · rename_i hz
      rw [if_neg hz] at hl
      match Vs, h with
      | s :: Vs', h =>
        obtain ⟨_, _, h3, h4⟩ := h
        simp only [Nat.sub_self, List.drop_zero] at h3 h4
        simp only [runs, if_neg hz, overs]
        rw [cross_append, h3]
        exact runs_over (by rw [cross_len]; simpa using hl) h4
      | [], h => cases h

/-- How a client stands to what the server did: B of it have come; what is on its way tells the rest; its text is the server's text of then, and then its open ops. -/
def HistOK (c : Int) (first : List UInt8) (hist : List Op4) (B K : Nat) (ho : List Op4) (A : Nat) (D : List (Op4 × Nat)) (C : List UInt8) : Prop :=
  B ≤ hist.length ∧ D = dmsgs c K (hist.drop B) ∧ A = K + ownN c (hist.drop B) ∧ Pend c ho (hist.drop B) ∧ ∃ hb, apps first (hist.take B) = some hb ∧ apps hb ho = some C

theorem hist_init (c : Int) (t : List UInt8) : HistOK c t [] 0 0 [] 0 [] t := ⟨Nat.le_refl _, rfl, rfl, trivial, t, rfl, rfl⟩

theorem hist_type {c : Int} {first C C' : List UInt8} {hist ho : List Op4} {B K A : Nat} {D : List (Op4 × Nat)} {o : Op4} (h : HistOK c first hist B K ho A D C) (hC : app C o = some C') :
    HistOK c first hist B K (ho ++ [o]) A D C' := by
  obtain ⟨h1, h2, h3, h4, hb, h5, h6⟩ := h
  refine ⟨h1, h2, h3, pend_open o h4, hb, h5, ?_⟩
  rw [apps_append, h6]
  show (app C o).bind (fun u => apps u []) = some C'
  rw [hC]; rfl

/-- The server did another's op. -/
theorem hist_other {c : Int} {first C : List UInt8} {hist ho : List Op4} {B K A : Nat} {D : List (Op4 × Nat)} {z : Op4} (hz : z.s ≠ c) (h : HistOK c first hist B K ho A D C) :
    HistOK c first (hist ++ [z]) B K ho A (D ++ [(z, A)]) C := by
  obtain ⟨h1, h2, h3, h4, hb, h5, h6⟩ := h
  refine ⟨by simp; omega, ?_, ?_, ?_, hb, ?_, h6⟩
  · rw [List.drop_append_of_le_length h1, dmsgs_snoc, if_neg hz, h2, h3]
  · rw [List.drop_append_of_le_length h1, ownN_append]; simp [ownN, hz]; exact h3
  · rw [List.drop_append_of_le_length h1]; exact pend_snoc_other hz h4
  · rw [List.take_append_of_le_length h1]; exact h5

/-- The server did the client's own op, which has become z. -/
theorem hist_own {c : Int} {first C : List UInt8} {hist ho : List Op4} {B K A : Nat} {D : List (Op4 × Nat)} {z : Op4} (hz : z.s = c) (h : HistOK c first hist B K ho A D C) (hr : ∃ tl, runs c ho (hist.drop B) = z :: tl) :
    HistOK c first (hist ++ [z]) B K ho (A + 1) (D ++ [(noop c, A + 1)]) C := by
  obtain ⟨h1, h2, h3, h4, hb, h5, h6⟩ := h
  refine ⟨by simp; omega, ?_, ?_, ?_, hb, ?_, h6⟩
  · rw [List.drop_append_of_le_length h1, dmsgs_snoc, if_pos hz, h2, h3]
  · rw [List.drop_append_of_le_length h1, ownN_append]; simp [ownN, hz]; omega
  · rw [List.drop_append_of_le_length h1]; exact pend_snoc_own hz h4 hr
  · rw [List.take_append_of_le_length h1]; exact h5

theorem apps_prefix {t u : List UInt8} {l m : List Op4} (h : apps t (l ++ m) = some u) : ∃ v, apps t l = some v ∧ apps v m = some u := by
  rw [apps_append] at h
  exact Option.bind_eq_some_iff.1 h

/-- A message comes to the client. -/
theorem hist_down {c : Int} {first S C C' : List UInt8} {hist ho : List Op4} {B K A : Nat} {D : List (Op4 × Nat)} {m : Op4 × Nat} (hS : apps first hist = some S) (hh : ∀ z ∈ hist, Wf z) (ho' : ∀ x ∈ ho, Own true c x)
    (h : HistOK c first hist B K ho A (m :: D) C) (hC : app C (cross m.1 (ho.drop (m.2 - K))).1 = some C') :
    HistOK c first hist (B + 1) m.2 (cross m.1 (ho.drop (m.2 - K))).2 A D C' := by
  obtain ⟨h1, h2, h3, h4, hb, h5, h6⟩ := h
  have hlt : B < hist.length := by
    have := congrArg List.length h2
    rw [dmsgs_len] at this
    simp at this; omega
  obtain ⟨z, hzz⟩ : ∃ z, hist[B]? = some z := ⟨_, List.getElem?_eq_getElem hlt⟩
  have hd : hist.drop B = z :: hist.drop (B + 1) := by
    rw [List.drop_eq_getElem_cons hlt]
    rw [List.getElem?_eq_getElem hlt] at hzz
    cases hzz; rfl
  have ht : hist.take (B + 1) = hist.take B ++ [z] := by rw [List.take_add_one, hzz]; rfl
  have hzm : z ∈ hist := List.mem_of_getElem? hzz
  obtain ⟨hb', h7, h8⟩ : ∃ hb', app hb z = some hb' ∧ apps first (hist.take (B + 1)) = some hb' := by
    have hp : apps first (hist.take (B + 1) ++ hist.drop (B + 1)) = some S := by rw [List.take_append_drop]; exact hS
    obtain ⟨v, hv1, _⟩ := apps_prefix hp
    rw [ht] at hv1
    obtain ⟨w, hw1, hw2⟩ := apps_prefix hv1
    rw [h5] at hw1
    cases hw1
    simp only [apps] at hw2
    obtain ⟨y, hy1, hy2⟩ := Option.bind_eq_some_iff.1 hw2
    cases hy2
    exact ⟨_, hy1, by rw [ht]; exact hv1⟩
  rw [hd] at h2 h3 h4
  simp only [dmsgs, ownN, Pend] at h2 h3 h4
  by_cases hz : z.s = c
  · rw [if_pos hz] at h2 h3 h4
    obtain ⟨rfl, rfl⟩ := List.cons.inj h2
    obtain ⟨⟨tl, rfl⟩, h4⟩ := h4
    simp only [show K + 1 - K = 1 by omega, List.drop_succ_cons, List.drop_zero] at hC ⊢
    rw [cross_none _ _ rfl] at hC ⊢
    simp only at hC ⊢
    rw [app_0 rfl] at hC
    cases hC
    simp only [apps] at h6
    rw [h7] at h6
    exact ⟨hlt, rfl, by omega, h4, hb', h8, h6⟩
  · rw [if_neg hz] at h2 h3 h4
    obtain ⟨rfl, rfl⟩ := List.cons.inj h2
    simp only [Nat.sub_self, List.drop_zero] at hC ⊢
    obtain ⟨u, h9, h10⟩ := square_path (own := false) (c := c) ⟨hh z hzm, Or.inl hz⟩ ho' h6 h7
    rw [hC] at h9
    cases h9
    exact ⟨hlt, rfl, by omega, h4, hb', h8, h10⟩

/-- The server's own op is what the client has open for it. -/
theorem link_runs {c : Int} {first S C : List UInt8} {Ks : Nat} {Os : List Op4} {Kc : Nat} {Oc : List Op4} {B A : Nat} {U D : List (Op4 × Nat)} {m : Op4 × Nat} {hist : List Op4}
    (h : Link true c S C Ks Os Kc Oc B A (m :: U) D) (hh : HistOK c first hist B Kc Oc A D C) : ∃ tl, runs c Oc (hist.drop B) = (cross m.1 (Os.drop (m.2 - Ks))).1 :: tl := by
  obtain ⟨L1s, Vs, L1c, Vc, h1, h2, h3, h4, h5, h6, h7, h8, _, h11, h12⟩ := h
  obtain ⟨g1, g2, g3, g4, _⟩ := hh
  match Vc, h11 with
  | v :: Vc', h11 =>
    obtain ⟨k1, k2, k3, k4⟩ := h11
    have hl : L1c.length = ownN c (hist.drop B) := by omega
    rw [g2] at h12
    have e := runs_over (V := v :: Vc') hl h12
    rw [← h2] at e
    have hv : Own true c v := h6 v (by rw [h2]; simp)
    have hV : ∀ x ∈ Vs, Own false c x := fun x hx => h5 x (by rw [h1]; simp [hx])
    obtain ⟨tl, htl⟩ := overs_cons (V := Vc') hv hV
    refine ⟨tl, ?_⟩
    rw [e, htl, h1, List.drop_append_of_le_length k2, cross_append, k3]
  | [], h11 => cases h11
end Go.Proofs.Ytabahmcbhapbiaa

namespace Go.Proofs.Ytabahmcbhapbiaa

/-! ### The moot, in plain words -/
/-- A message: its op; what SENT and CAME were. -/
structure Msg where
  o : Op4
  sent : Nat
  came : Nat
/-- A client: its text; at the client (h): sent, came, known, open; at the server for it (t): the same; its two queues. -/
structure Cli where
  text : List UInt8
  hs : Nat
  hc : Nat
  hk : Nat
  ho : List Op4
  ts : Nat
  tc : Nat
  tk : Nat
  tq : List Op4
  up : List Msg
  dn : List Msg
structure Moo where
  n : Nat
  srv : List UInt8
  cl : Nat → Cli
  hist : List Op4

def newC (t : List UInt8) : Cli := ⟨t, 0, 0, 0, [], 0, 0, 0, [], [], []⟩
def newM (n : Nat) (t : List UInt8) : Moo := ⟨n, t, fun _ => newC t, []⟩
def Moo.set (m : Moo) (c : Nat) (x : Cli) : Moo := { m with cl := fun i => if i = c then x else m.cl i }
/-- A client types. -/
def typeC (x : Cli) (o : Op4) (t : List UInt8) : Cli := { x with text := t, hs := x.hs + 1, ho := x.ho ++ [o], up := x.up ++ [⟨o, x.hs, x.hc⟩] }
/-- The server sends to a client. -/
def sendS (x : Cli) (z : Op4) : Cli := { x with ts := x.ts + 1, tq := x.tq ++ [z], dn := x.dn ++ [⟨z, x.ts, x.tc⟩] }
/-- A client's message comes to the server: the op as it is now; what is open behind it. -/
def upO (x : Cli) (μ : Msg) : Op4 := (cross μ.o (x.tq.drop (μ.came - x.tk))).1
def takeS (x : Cli) (μ : Msg) (r : List Msg) : Cli := { x with up := r, tc := x.tc + 1, tk := μ.came, tq := (cross μ.o (x.tq.drop (μ.came - x.tk))).2 }
/-- The server's message comes to a client. -/
def dnO (x : Cli) (μ : Msg) : Op4 := (cross μ.o (x.ho.drop (μ.came - x.hk))).1
def takeC (x : Cli) (μ : Msg) (r : List Msg) (t : List UInt8) : Cli := { x with text := t, dn := r, hc := x.hc + 1, hk := μ.came, ho := (cross μ.o (x.ho.drop (μ.came - x.hk))).2 }
def upM (m : Moo) (c : Nat) (μ : Msg) (r : List Msg) (t : List UInt8) : Moo :=
  { m with srv := t, hist := m.hist ++ [upO (m.cl c) μ], cl := fun i => if i = c then sendS (takeS (m.cl c) μ r) (noop c) else sendS (m.cl i) (upO (m.cl c) μ) }

def prs (l : List Msg) : List (Op4 × Nat) := l.map fun μ => (μ.o, μ.came)

/-! ### Lengths -/
/-- By how much ops lengthen a text. -/
def grow : List Op4 → Int
  | [] => 0
  | o :: l => (if o.k = 1 then 1 else if o.k = 2 then -1 else 0) + grow l
theorem grow_append : ∀ l m : List Op4, grow (l ++ m) = grow l + grow m
  | [], m => by simp [grow]
  | o :: l, m => by simp only [List.cons_append, grow, grow_append l m]; omega
theorem app_grow {t u : List UInt8} {o : Op4} (h : app t o = some u) : (u.length : Int) = t.length + grow [o] := by
  unfold app at h
  simp only [grow]
  split at h
  · split at h
    · cases h; rw [ins_len _ _ _ (by assumption)]; omega
    · cases h
  · split at h
    · split at h
      · rename_i h1
        cases h; rw [del_len _ _ h1]; omega
      · cases h
    · cases h; omega
theorem apps_grow : ∀ {l : List Op4} {t u : List UInt8}, apps t l = some u → (u.length : Int) = t.length + grow l
  | [], t, u, h => by cases h; simp [grow]
  | o :: l, t, u, h => by
    simp only [apps] at h
    obtain ⟨v, h1, h2⟩ := Option.bind_eq_some_iff.1 h
    have e1 := app_grow h1
    have e2 := apps_grow h2
    simp only [grow] at e1 ⊢
    omega
theorem grow_le : ∀ l : List Op4, -(l.length : Int) ≤ grow l ∧ grow l ≤ l.length
  | [] => by simp [grow]
  | o :: l => by
    have := grow_le l
    simp only [grow, List.length_cons]
    split <;> (try split) <;> omega
/-- c's inserts in a list. -/
def insN (c : Int) : List Op4 → Nat
  | [] => 0
  | o :: l => (if o.s = c ∧ o.k = 1 then 1 else 0) + insN c l
theorem insN_append (c : Int) : ∀ l m : List Op4, insN c (l ++ m) = insN c l + insN c m
  | [], m => by simp [insN]
  | o :: l, m => by simp only [List.cons_append, insN, insN_append c l m]; omega
theorem insN_le_own (c : Int) : ∀ l : List Op4, insN c l ≤ ownN c l
  | [] => Nat.le_refl _
  | o :: l => by
    have := insN_le_own c l
    simp only [insN, ownN]
    repeat' split
    all_goals omega
theorem insN_le_len (c : Int) : ∀ l : List Op4, insN c l ≤ l.length
  | [] => Nat.le_refl _
  | o :: l => by
    have := insN_le_len c l
    simp only [insN, List.length_cons]
    split <;> omega
theorem ownN_mono (c : Int) (l : List Op4) {i j : Nat} (h : i ≤ j) : ownN c (l.take i) ≤ ownN c (l.take j) := by
  obtain ⟨k, rfl⟩ : ∃ k, j = i + k := ⟨j - i, by omega⟩
  have e : l.take (i + k) = l.take i ++ (l.drop i).take k := List.take_add
  rw [e, ownN_append]; omega

/-- Turning keeps inserts inserts. -/
theorem turn_ins {a b : Op4} (ha : Wf a) (hb : Wf b) : ((turn a b).1.k = 1 ↔ a.k = 1) ∧ ((turn a b).2.k = 1 ↔ b.k = 1) := by
  obtain ⟨ak, ap, ab, as1⟩ := a
  obtain ⟨bk, bp, bb, bs⟩ := b
  have ha1 := ha.kind
  have hb1 := hb.kind
  simp only at ha1 hb1
  unfold turn
  simp only
  repeat' split
  all_goals (refine ⟨?_, ?_⟩ <;> first | exact Iff.rfl | (constructor <;> intro h <;> simp only at h ⊢ <;> omega))
theorem cross_ins {own : Bool} {c : Int} : ∀ {o : Op4} {l : List Op4}, Own own c o → (∀ x ∈ l, Own (!own) c x) → ((cross o l).1.k = 1 ↔ o.k = 1)
  | o, [], _, _ => Iff.rfl
  | o, x :: l, ho, hl => by
    have hx := hl x (by simp)
    have h := own_turn ho hx
    rw [cross_cons]
    exact (cross_ins h.1 (fun y hy => hl y (by simp [hy]))).trans (turn_ins ho.1 hx.1).1
theorem cross_s (o : Op4) : ∀ l : List Op4, (cross o l).1.s = o.s
  | [] => rfl
  | x :: l => by rw [cross_cons]; exact (cross_s (turn o x).1 l).trans (turn_site o x).1
/-- Turning moves an op by one place at the most. -/
theorem turn_p {a b : Op4} (ha : Wf a) (hb : Wf b) : (turn a b).1.p ≤ a.p + 1 ∧ (turn a b).2.p ≤ b.p + 1 := by
  obtain ⟨ak, ap, ab, as1⟩ := a
  obtain ⟨bk, bp, bb, bs⟩ := b
  have ha1 := ha.1
  have hb1 := hb.1
  simp only at ha1 hb1
  unfold turn
  simp only
  repeat' split
  all_goals (refine ⟨?_, ?_⟩ <;> simp only <;> omega)
theorem cross_p {own : Bool} {c : Int} : ∀ {o : Op4} {l : List Op4}, Own own c o → (∀ x ∈ l, Own (!own) c x) → ∀ (i : Nat) (z : Op4), (cross o l).2[i]? = some z → ∃ y, l[i]? = some y ∧ z.p ≤ y.p + 1
  | o, [], _, _, i, z, h => by simp [cross_nil] at h
  | o, x :: l, ho, hl, 0, z, h => by
    rw [cross_cons] at h
    simp at h
    subst h
    exact ⟨x, rfl, (turn_p ho.1 (hl x (by simp)).1).2⟩
  | o, x :: l, ho, hl, i + 1, z, h => by
    rw [cross_cons] at h
    simp only [List.getElem?_cons_succ] at h ⊢
    exact cross_p (own_turn ho (hl x (by simp))).1 (fun y hy => hl y (by simp [hy])) i z h
end Go.Proofs.Ytabahmcbhapbiaa

namespace Go.Proofs.Ytabahmcbhapbiaa

/-- The server's length when it had done q ops. -/
def hl (first : List UInt8) (hist : List Op4) (q : Nat) : Int := first.length + grow (hist.take q)
theorem hl_append {first : List UInt8} {hist m : List Op4} {q : Nat} (h : q ≤ hist.length) : hl first (hist ++ m) q = hl first hist q := by
  unfold hl; rw [List.take_append_of_le_length h]

/-- How a client stands. -/
structure CliOK (first : List UInt8) (srv : List UInt8) (hist : List Op4) (c : Int) (x : Cli) : Prop where
  link : Link true c srv x.text x.tk x.tq x.hk x.ho x.hc x.tc (prs x.up) (prs x.dn)
  hok : HistOK c first hist x.hc x.hk x.ho x.tc (prs x.dn) x.text
  tsN : x.ts = hist.length
  tkto : x.tk + x.tq.length = hist.length
  hsN : x.hs = x.tc + x.up.length
  tcN : x.tc = ownN c hist
  few : x.ho.length ≤ 20
  budget : ∀ q, q ≤ hist.length → (∀ q', q < q' → q' ≤ hist.length → 79 < hl first hist q') → insN c (hist.drop q) + insN c (x.up.map Msg.o) ≤ 20
  toP : ∀ i z, x.tq[i]? = some z → z.p + (ownN c (hist.take (x.tk + i + 1)) : Int) ≤ 159 + (x.tc : Int)
  upB : ∀ i μ, x.up[i]? = some μ → x.tc + i + 1 ≤ ownN c (hist.take μ.came) + 20 ∧ μ.o.p ≤ 179 ∧ μ.came ≤ hist.length
  tkB : x.tc ≤ ownN c (hist.take x.tk) + 20

structure Inv (first : List UInt8) (m : Moo) : Prop where
  n1 : 1 ≤ m.n
  n4 : m.n ≤ 4
  f60 : first.length ≤ 60
  srv : apps first m.hist = some m.srv
  hw : ∀ z ∈ m.hist, Wf z ∧ z.s < m.n ∧ z.p ≤ 159
  hlB : ∀ q, q ≤ m.hist.length → hl first m.hist q ≤ 159
  cl : ∀ c : Nat, c < m.n → CliOK first m.srv m.hist c (m.cl c)

theorem link_len {own : Bool} {c : Int} {S C : List UInt8} {Ks : Nat} {Os : List Op4} {Kc : Nat} {Oc : List Op4} {B A : Nat} {U D : List (Op4 × Nat)}
    (h : Link own c S C Ks Os Kc Oc B A U D) : Kc ≤ A ∧ Oc.length = (A - Kc) + U.length ∧ Ks ≤ B ∧ Os.length = (B - Ks) + D.length ∧ (∀ o ∈ Os, Own (!own) c o) ∧ (∀ o ∈ Oc, Own own c o) ∧ (∀ m ∈ U, Own own c m.1) ∧ (∀ m ∈ D, Own (!own) c m.1) := by
  obtain ⟨L1s, Vs, L1c, Vc, h1, h2, h3, h4, h5, h6, h7, h8, _, h11, h12⟩ := h
  have e1 := chain_len h11
  have e2 := chain_len h12
  refine ⟨by omega, by rw [h2, List.length_append]; omega, by omega, by rw [h1, List.length_append]; omega, h5, h6, h7, h8⟩

theorem CliOK.textLen {first srv : List UInt8} {hist : List Op4} {c : Int} {x : Cli} (h : CliOK first srv hist c x) :
    x.hc ≤ hist.length ∧ (x.text.length : Int) ≤ hl first hist x.hc + x.ho.length ∧ hl first hist x.hc - x.ho.length ≤ x.text.length := by
  obtain ⟨h1, _, _, _, hb, h5, h6⟩ := h.hok
  have e1 := apps_grow h5
  have e2 := apps_grow h6
  have e3 := grow_le x.ho
  unfold hl
  refine ⟨h1, ?_, ?_⟩ <;> omega
theorem CliOK.hkN {first srv : List UInt8} {hist : List Op4} {c : Int} {x : Cli} (h : CliOK first srv hist c x) : x.hk = ownN c (hist.take x.hc) := by
  have h3 := h.hok.2.2.1
  have e := h.tcN
  have e2 : ownN c hist = ownN c (hist.take x.hc) + ownN c (hist.drop x.hc) := by rw [← ownN_append, List.take_append_drop]
  omega

theorem prs_snoc (l : List Msg) (μ : Msg) : prs (l ++ [μ]) = prs l ++ [(μ.o, μ.came)] := by simp [prs]
theorem prs_len (l : List Msg) : (prs l).length = l.length := by simp [prs]

theorem drop_own_le (c : Int) (l : List Op4) {i j : Nat} (h : i ≤ j) : ownN c (l.drop j) ≤ ownN c (l.drop i) := by
  obtain ⟨k, rfl⟩ : ∃ k, j = i + k := ⟨j - i, by omega⟩
  have e : l.drop i = (l.drop i).take k ++ l.drop (i + k) := by rw [← List.drop_drop, List.take_append_drop]
  rw [e, ownN_append]; omega

theorem app_p {t u : List UInt8} {o : Op4} (ho : Wf o) (h : app t o = some u) : o.p ≤ t.length := by
  obtain ⟨h0, hk, _⟩ := ho
  rcases hk with ⟨_, hp, _⟩ | ⟨hk, _⟩ | ⟨hk, _⟩
  · omega
  · rw [app_1 hk] at h
    split at h
    · omega
    · cases h
  · rw [app_2 hk] at h
    split at h
    · omega
    · cases h

/-- A client types. -/
theorem cli_type {first srv : List UInt8} {hist : List Op4} {c : Int} {x : Cli} {o : Op4} {t : List UInt8} (h : CliOK first srv hist c x) (hlB : ∀ q, q ≤ hist.length → hl first hist q ≤ 159)
    (ho : Wf o) (hs : o.s = c) (ht : app x.text o = some t) (h20 : x.ho.length < 20) (h60 : o.k = 1 → x.text.length < 60) : CliOK first srv hist c (typeC x o t) := by
  have hl := link_len h.link
  have htl := h.textLen
  have hkN := h.hkN
  have h3 := h.hok.2.2.1
  rw [prs_len] at hl
  refine ⟨?_, hist_type h.hok ht, h.tsN, h.tkto, ?_, h.tcN, ?_, ?_, h.toP, ?_, h.tkB⟩
  · have := link_send h.link ⟨ho, by simpa using hs⟩ ht
    simp only [typeC]
    rw [prs_snoc]
    exact this
  · simp only [typeC, List.length_append, List.length_singleton]
    have := h.hsN
    omega
  · simp only [typeC, List.length_append, List.length_singleton]
    omega
  · intro q hq hcond
    simp only [typeC, List.map_append, List.map_cons, List.map_nil]
    rw [insN_append]
    have hb := h.budget q hq hcond
    by_cases hk : o.k = 1
    · have h60' := h60 hk
      have hle : x.hc ≤ q := by
        rcases Nat.lt_or_ge q x.hc with h' | h'
        · have := hcond x.hc h' htl.1
          omega
        · exact h'
      have a1 := insN_le_own c (hist.drop q)
      have a2 := drop_own_le c hist hle
      have a3 := insN_le_len c (x.up.map Msg.o)
      rw [List.length_map] at a3
      simp only [insN]
      split <;> omega
    · have e : insN c [o] = 0 := by simp [insN, hk]
      omega
  · intro i μ hμ
    simp only [typeC] at hμ ⊢
    by_cases hi : i < x.up.length
    · rw [List.getElem?_append_left hi] at hμ
      exact h.upB i μ hμ
    · rw [List.getElem?_append_right (by omega)] at hμ
      have hi0 : i - x.up.length = 0 := by
        rcases Nat.eq_zero_or_pos (i - x.up.length) with h' | h'
        · exact h'
        · rw [List.getElem?_eq_none (by simp; omega)] at hμ; cases hμ
      rw [hi0] at hμ
      simp at hμ
      subst hμ
      have hp := app_p ho ht
      have hh := hlB x.hc htl.1
      refine ⟨?_, by simp only; omega, htl.1⟩
      simp only
      omega

/-- A message comes to a client. -/
theorem cli_down {first srv : List UInt8} {hist : List Op4} {c : Int} {x : Cli} {μ : Msg} {r : List Msg} (h : CliOK first srv hist c x) (hS : apps first hist = some srv) (hw : ∀ z ∈ hist, Wf z) (hd : x.dn = μ :: r) :
    x.hk ≤ μ.came ∧ μ.came - x.hk ≤ x.ho.length ∧ ∃ t, app x.text (dnO x μ) = some t ∧ CliOK first srv hist c (takeC x μ r t) := by
  have hl := link_len h.link
  have hf := link_flip h.link
  rw [hd] at hf
  obtain ⟨k1, k2, k3, t, k4, k5⟩ := link_take hf
  have hk := h.hok
  rw [hd] at hk
  refine ⟨k1, k2, t, k4, ?_, ?_, h.tsN, h.tkto, h.hsN, h.tcN, ?_, h.budget, h.toP, h.upB, h.tkB⟩
  · have := link_flip k5
    exact this
  · exact hist_down hS hw hl.2.2.2.2.2.1 hk k4
  · simp only [takeC]
    rw [cross_len, List.length_drop]
    have := h.few
    omega

/-- The server did another's op, and told it. -/
theorem cli_other {first srv srv' : List UInt8} {hist : List Op4} {c : Int} {x : Cli} {z : Op4} (h : CliOK first srv hist c x) (hz : Wf z) (hs : z.s ≠ c) (hp : z.p ≤ 159) (ha : app srv z = some srv') :
    CliOK first srv' (hist ++ [z]) c (sendS x z) := by
  have e0 : ownN c (hist ++ [z]) = ownN c hist := by rw [ownN_append]; simp [ownN, hs]
  have hkto := h.tkto
  refine ⟨?_, ?_, ?_, ?_, h.hsN, ?_, h.few, ?_, ?_, ?_, ?_⟩
  · have := link_flip (link_send (link_flip h.link) (o := z) ⟨hz, Or.inl hs⟩ ha)
    simp only [sendS]
    rw [prs_snoc]
    exact this
  · have := hist_other hs h.hok
    simp only [sendS]
    rw [prs_snoc]
    exact this
  · simp [sendS, h.tsN]
  · simp only [sendS, List.length_append, List.length_singleton]; omega
  · rw [e0]; exact h.tcN
  · intro q hq hcond
    by_cases hqn : q ≤ hist.length
    · rw [List.drop_append_of_le_length hqn, insN_append]
      have e : insN c [z] = 0 := by simp [insN, hs]
      have := h.budget q hqn (fun q' h1 h2 => by
        have := hcond q' h1 (by simp; omega)
        rwa [hl_append h2] at this)
      simp only [sendS]
      omega
    · have hq' : (hist ++ [z]).drop q = [] := List.drop_eq_nil_of_le (by simp; omega)
      rw [hq']
      have := h.budget hist.length (Nat.le_refl _) (fun q' h1 h2 => by omega)
      rw [List.drop_length] at this
      exact this
  · intro i y hy
    simp only [sendS] at hy ⊢
    by_cases hi : i < x.tq.length
    · rw [List.getElem?_append_left hi] at hy
      rw [List.take_append_of_le_length (by omega)]
      exact h.toP i y hy
    · rw [List.getElem?_append_right (by omega)] at hy
      have hi0 : i - x.tq.length = 0 := by
        rcases Nat.eq_zero_or_pos (i - x.tq.length) with h' | h'
        · exact h'
        · rw [List.getElem?_eq_none (by simp; omega)] at hy; cases hy
      rw [hi0] at hy
      simp at hy
      subst hy
      rw [List.take_of_length_le (by simp; omega), e0, ← h.tcN]
      omega
  · intro i μ hμ
    obtain ⟨b1, b2, b3⟩ := h.upB i μ hμ
    refine ⟨?_, b2, by simp; omega⟩
    rw [List.take_append_of_le_length b3]; exact b1
  · simp only [sendS]
    rw [List.take_append_of_le_length (by omega)]; exact h.tkB

/-- The server did the client's own op, and told it that it came. -/
theorem cli_own {first srv : List UInt8} {hist : List Op4} {c : Int} {x : Cli} {μ : Msg} {r : List Msg} (h : CliOK first srv hist c x) (hc0 : 0 ≤ c) (hc3 : c ≤ 3) (hu : x.up = μ :: r) :
    x.tk ≤ μ.came ∧ μ.came - x.tk ≤ x.tq.length ∧ Wf (upO x μ) ∧ (upO x μ).s = c ∧ ∃ srv', app srv (upO x μ) = some srv' ∧ CliOK first srv' (hist ++ [upO x μ]) c (sendS (takeS x μ r) (noop c)) := by
  have hl := link_len h.link
  have hk := h.link
  rw [hu] at hk
  have hkk : Link true c srv x.text x.tk x.tq x.hk x.ho x.hc x.tc ((μ.o, μ.came) :: prs r) (prs x.dn) := hk
  obtain ⟨k1, k2, k3, S', k4, k5⟩ := link_take hkk
  have hrun := link_runs hkk h.hok
  have hos : (upO x μ).s = c := k3.2
  have hμ : Own true c μ.o := hl.2.2.2.2.2.2.1 (μ.o, μ.came) (by rw [hu]; simp [prs])
  have hμs : μ.o.s = c := hμ.2
  have e0 : ownN c (hist ++ [upO x μ]) = ownN c hist + 1 := by rw [ownN_append]; simp [ownN, hos]
  have hkto := h.tkto
  have hins : (upO x μ).k = 1 ↔ μ.o.k = 1 := cross_ins hμ (fun y hy => hl.2.2.2.2.1 y (List.mem_of_mem_drop hy))
  have hub0 := h.upB 0 μ (by rw [hu]; rfl)
  refine ⟨k1, k2, k3.1, hos, S', k4, ?_, ?_, ?_, ?_, ?_, ?_, h.few, ?_, ?_, ?_, ?_⟩
  · have := link_flip (link_send (link_flip k5) (o := noop c) (own_noop c hc0 hc3) (app_0 rfl))
    simp only [sendS, takeS]
    rw [prs_snoc]
    exact this
  · have := hist_own hos h.hok hrun
    simp only [sendS, takeS]
    rw [prs_snoc]
    exact this
  · simp [sendS, takeS, h.tsN]
  · simp only [sendS, takeS, List.length_append, List.length_singleton, cross_len, List.length_drop]
    simp only at k1 k2
    omega
  · simp only [sendS, takeS]
    have := h.hsN
    rw [hu] at this
    simp at this
    omega
  · simp only [sendS, takeS]; rw [e0, h.tcN]
  · intro q hq hcond
    simp only [sendS, takeS]
    have hmap : insN c (x.up.map Msg.o) = (if μ.o.k = 1 then 1 else 0) + insN c (r.map Msg.o) := by
      rw [hu]; simp [insN, hμs]
    by_cases hqn : q ≤ hist.length
    · rw [List.drop_append_of_le_length hqn, insN_append]
      have e : insN c [upO x μ] = if μ.o.k = 1 then 1 else 0 := by
        by_cases hk1 : μ.o.k = 1
        · simp [insN, hos, hins.2 hk1, hk1]
        · have : ¬ (upO x μ).k = 1 := fun h' => hk1 (hins.1 h')
          simp [insN, this, hk1]
      have := h.budget q hqn (fun q' h1 h2 => by
        have := hcond q' h1 (by simp; omega)
        rwa [hl_append h2] at this)
      omega
    · have hq' : (hist ++ [upO x μ]).drop q = [] := List.drop_eq_nil_of_le (by simp; omega)
      rw [hq']
      have := h.budget hist.length (Nat.le_refl _) (fun q' h1 h2 => by omega)
      rw [List.drop_length] at this
      simp only [insN] at this ⊢
      omega
  · intro i y hy
    simp only [sendS, takeS] at hy ⊢
    simp only at k1 k2
    by_cases hi : i < (cross μ.o (x.tq.drop (μ.came - x.tk))).2.length
    · rw [List.getElem?_append_left hi] at hy
      rw [cross_len, List.length_drop] at hi
      obtain ⟨y', hy1, hy2⟩ := cross_p hμ (fun y hy => hl.2.2.2.2.1 y (List.mem_of_mem_drop hy)) i y hy
      rw [List.getElem?_drop] at hy1
      have := h.toP _ y' hy1
      rw [List.take_append_of_le_length (by omega), show μ.came + i + 1 = x.tk + (μ.came - x.tk + i) + 1 by omega]
      omega
    · rw [List.getElem?_append_right (by omega)] at hy
      have hi0 : i - (cross μ.o (x.tq.drop (μ.came - x.tk))).2.length = 0 := by
        rcases Nat.eq_zero_or_pos (i - (cross μ.o (x.tq.drop (μ.came - x.tk))).2.length) with h' | h'
        · exact h'
        · rw [List.getElem?_eq_none (by simp only [List.length_singleton]; omega)] at hy; cases hy
      rw [hi0] at hy
      simp at hy
      subst hy
      rw [cross_len, List.length_drop] at hi
      rw [List.take_of_length_le (by simp; omega), e0, h.tcN]
      show (0 : Int) + _ ≤ _
      omega
  · intro i ν hν
    simp only [sendS, takeS] at hν ⊢
    obtain ⟨b1, b2, b3⟩ := h.upB (i + 1) ν (by rw [hu]; exact hν)
    refine ⟨?_, b2, by simp; omega⟩
    rw [List.take_append_of_le_length b3]; omega
  · simp only [sendS, takeS]
    rw [List.take_append_of_le_length hub0.2.2]; omega
end Go.Proofs.Ytabahmcbhapbiaa
namespace Go.Proofs.Ytabahmcbhapbiaa

/-! ### The bound on the server's text -/
def insAll : List Op4 → Nat
  | [] => 0
  | o :: l => (if o.k = 1 then 1 else 0) + insAll l
theorem grow_ins : ∀ l : List Op4, grow l ≤ insAll l
  | [] => by simp [grow, insAll]
  | o :: l => by
    have := grow_ins l
    simp only [grow, insAll]
    split
    · omega
    · split <;> omega
/-- All inserts, client by client. -/
def insSum : Nat → List Op4 → Nat
  | 0, _ => 0
  | n + 1, l => insSum n l + insN n l
theorem insSum_nil : ∀ n : Nat, insSum n [] = 0
  | 0 => rfl
  | n + 1 => by simp [insSum, insSum_nil n, insN]
theorem insSum_cons (o : Op4) (l : List Op4) : ∀ n : Nat, insSum n (o :: l) = (if 0 ≤ o.s ∧ o.s < n ∧ o.k = 1 then 1 else 0) + insSum n l
  | 0 => by
    simp only [insSum]
    rw [if_neg (by omega)]
  | n + 1 => by
    simp only [insSum, insSum_cons o l n, insN]
    repeat' split
    all_goals omega
theorem insAll_sum {n : Nat} : ∀ {l : List Op4}, (∀ z ∈ l, 0 ≤ z.s ∧ z.s < n) → insAll l = insSum n l
  | [], _ => (insSum_nil n).symm
  | o :: l, h => by
    have ho := h o (by simp)
    have ih := insAll_sum (l := l) (fun z hz => h z (by simp [hz]))
    rw [insSum_cons, ← ih]
    simp only [insAll]
    repeat' split
    all_goals omega
theorem insSum_le {l : List Op4} : ∀ {n : Nat}, (∀ c, c < n → insN (c : Nat) l ≤ 20) → insSum n l ≤ 20 * n
  | 0, _ => Nat.le_refl _
  | n + 1, h => by
    have h1 := insSum_le (n := n) (fun c hc => h c (by omega))
    have h2 := h n (by omega)
    simp only [insSum]
    omega

/-- The last time that a number was small. -/
theorem last_small (f : Nat → Int) : ∀ N : Nat, f 0 ≤ 79 → ∃ q, q ≤ N ∧ f q ≤ 79 ∧ ∀ q', q < q' → q' ≤ N → 79 < f q'
  | 0, h => ⟨0, Nat.le_refl _, h, fun q' h1 h2 => by omega⟩
  | N + 1, h => by
    by_cases hN : f (N + 1) ≤ 79
    · exact ⟨N + 1, Nat.le_refl _, hN, fun q' h1 h2 => by omega⟩
    · obtain ⟨q, h1, h2, h3⟩ := last_small f N h
      refine ⟨q, by omega, h2, fun q' h4 h5 => ?_⟩
      rcases Nat.lt_or_ge q' (N + 1) with h6 | h6
      · exact h3 q' h4 (by omega)
      · obtain rfl : q' = N + 1 := by omega
        omega

theorem hl_bound {first srv : List UInt8} {hist : List Op4} {n : Nat} {cl : Nat → Cli} (h60 : first.length ≤ 60) (n4 : n ≤ 4) (hw : ∀ z ∈ hist, 0 ≤ z.s ∧ z.s < n) (hc : ∀ c : Nat, c < n → CliOK first srv hist c (cl c)) :
    hl first hist hist.length ≤ 159 := by
  obtain ⟨q, h1, h2, h3⟩ := last_small (hl first hist) hist.length (by simp [hl, grow]; omega)
  have hs := insSum_le (l := hist.drop q) (n := n) (fun c hcn => by
    have := (hc c hcn).budget q h1 h3
    omega)
  rw [← insAll_sum (fun z hz => hw z (List.mem_of_mem_drop hz))] at hs
  have hg := grow_ins (hist.drop q)
  have e : grow hist = grow (hist.take q) + grow (hist.drop q) := by rw [← grow_append, List.take_append_drop]
  unfold hl at h2 ⊢
  rw [List.take_length, e]
  omega

/-! ### The steps -/
theorem inv_new {n : Nat} {t : List UInt8} (n1 : 1 ≤ n) (n4 : n ≤ 4) (h60 : t.length ≤ 60) : Inv t (newM n t) := by
  refine ⟨n1, n4, h60, rfl, fun z hz => (by cases hz), fun q hq => (by simp [hl, newM, grow]; omega), fun c hc => ?_⟩
  refine ⟨link_init true c t, hist_init c t, rfl, rfl, rfl, rfl, Nat.zero_le _, fun q hq _ => (by simp [newM, newC, insN]), fun i z hz => (by simp [newM, newC] at hz), fun i μ hμ => (by simp [newM, newC] at hμ), Nat.zero_le _⟩

theorem inv_srvLen {first : List UInt8} {m : Moo} (h : Inv first m) : m.srv.length ≤ 159 := by
  have e := apps_grow h.srv
  have := h.hlB m.hist.length (Nat.le_refl _)
  unfold hl at this
  rw [List.take_length] at this
  omega
theorem inv_textLen {first : List UInt8} {m : Moo} (h : Inv first m) {c : Nat} (hc : c < m.n) : (m.cl c).text.length ≤ 179 := by
  have h1 := (h.cl c hc).textLen
  have h2 := h.hlB _ h1.1
  have h3 := (h.cl c hc).few
  omega

theorem inv_type {first : List UInt8} {m : Moo} (h : Inv first m) {c : Nat} (hc : c < m.n) {o : Op4} {t : List UInt8} (ho : Wf o) (hs : o.s = c) (ht : app (m.cl c).text o = some t) (h20 : (m.cl c).ho.length < 20)
    (h60 : o.k = 1 → (m.cl c).text.length < 60) : Inv first (m.set c (typeC (m.cl c) o t)) := by
  refine ⟨h.n1, h.n4, h.f60, h.srv, h.hw, h.hlB, fun i hi => ?_⟩
  show CliOK first m.srv m.hist i (if i = c then typeC (m.cl c) o t else m.cl i)
  by_cases hic : i = c
  · subst hic
    rw [if_pos rfl]
    exact cli_type (h.cl i hi) h.hlB ho hs ht h20 h60
  · rw [if_neg hic]; exact h.cl i hi

theorem inv_down {first : List UInt8} {m : Moo} (h : Inv first m) {c : Nat} (hc : c < m.n) {μ : Msg} {r : List Msg} (hd : (m.cl c).dn = μ :: r) :
    (m.cl c).hk ≤ μ.came ∧ μ.came - (m.cl c).hk ≤ (m.cl c).ho.length ∧ ∃ t, app (m.cl c).text (dnO (m.cl c) μ) = some t ∧ Inv first (m.set c (takeC (m.cl c) μ r t)) := by
  obtain ⟨h1, h2, t, h3, h4⟩ := cli_down (h.cl c hc) h.srv (fun z hz => (h.hw z hz).1) hd
  refine ⟨h1, h2, t, h3, h.n1, h.n4, h.f60, h.srv, h.hw, h.hlB, fun i hi => ?_⟩
  show CliOK first m.srv m.hist i (if i = c then takeC (m.cl c) μ r t else m.cl i)
  by_cases hic : i = c
  · subst hic
    rw [if_pos rfl]; exact h4
  · rw [if_neg hic]; exact h.cl i hi

theorem inv_up {first : List UInt8} {m : Moo} (h : Inv first m) {c : Nat} (hc : c < m.n) {μ : Msg} {r : List Msg} (hu : (m.cl c).up = μ :: r) :
    (m.cl c).tk ≤ μ.came ∧ μ.came - (m.cl c).tk ≤ (m.cl c).tq.length ∧ Wf (upO (m.cl c) μ) ∧ (upO (m.cl c) μ).s = c ∧ (upO (m.cl c) μ).p ≤ 159 ∧ ∃ t, app m.srv (upO (m.cl c) μ) = some t ∧ Inv first (upM m c μ r t) := by
  have n4 := h.n4
  obtain ⟨h1, h2, h3, h4, t, h5, h6⟩ := cli_own (h.cl c hc) (by omega) (by omega) hu
  have hp : (upO (m.cl c) μ).p ≤ 159 := by
    have a := app_p h3 h5
    have b := inv_srvLen h
    omega
  have hcl : ∀ i : Nat, i < m.n → CliOK first t (m.hist ++ [upO (m.cl c) μ]) i ((upM m c μ r t).cl i) := fun i hi => by
    show CliOK first t (m.hist ++ [upO (m.cl c) μ]) i (if i = c then sendS (takeS (m.cl c) μ r) (noop c) else sendS (m.cl i) (upO (m.cl c) μ))
    by_cases hic : i = c
    · subst hic
      rw [if_pos rfl]; exact h6
    · rw [if_neg hic]
      exact cli_other (h.cl i hi) h3 (by rw [h4]; omega) hp h5
  have hw' : ∀ z ∈ m.hist ++ [upO (m.cl c) μ], Wf z ∧ z.s < m.n ∧ z.p ≤ 159 := fun z hz => by
    rcases List.mem_append.1 hz with hz | hz
    · exact h.hw z hz
    · simp at hz; subst hz; exact ⟨h3, by rw [h4]; omega, hp⟩
  refine ⟨h1, h2, h3, h4, hp, t, h5, h.n1, h.n4, h.f60, ?_, hw', fun q hq => ?_, hcl⟩
  · show apps first (m.hist ++ [upO (m.cl c) μ]) = some t
    rw [apps_append, h.srv]
    show (app m.srv (upO (m.cl c) μ)).bind (fun u => apps u []) = some t
    rw [h5]; rfl
  · show hl first (m.hist ++ [upO (m.cl c) μ]) q ≤ 159
    by_cases hqn : q ≤ m.hist.length
    · rw [hl_append hqn]; exact h.hlB q hqn
    · have hq' : q = (m.hist ++ [upO (m.cl c) μ]).length := by
        have : q ≤ (m.hist ++ [upO (m.cl c) μ]).length := hq
        simp at this ⊢; omega
      rw [hq']
      exact hl_bound h.f60 n4 (fun z hz => ⟨(hw' z hz).1.2.2.1, (hw' z hz).2.1⟩) hcl

/-- Nothing is on its way to or from a client: its text is the server's. -/
theorem inv_calm {first : List UInt8} {m : Moo} (h : Inv first m) {c : Nat} (hc : c < m.n) (hu : (m.cl c).up = []) (hd : (m.cl c).dn = []) : (m.cl c).text = m.srv := by
  have hk := (h.cl c hc).link
  rw [hu, hd] at hk
  exact (link_calm hk).symm
end Go.Proofs.Ytabahmcbhapbiaa
