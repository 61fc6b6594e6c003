import Derived.Test.YtomeaiffpeibhaaTurnBase
namespace Go.Proofs.Ytomeaiffpeibhaa

section
variable (ak ap ab as1 bk bp bb bs : Int)
theorem turn_0x : turn ⟨0, ap, ab, as1⟩ ⟨bk, bp, bb, bs⟩ = (⟨0, ap, ab, as1⟩, ⟨bk, bp, bb, bs⟩) := by simp [turn]
theorem turn_x0 : turn ⟨ak, ap, ab, as1⟩ ⟨0, bp, bb, bs⟩ = (⟨ak, ap, ab, as1⟩, ⟨0, bp, bb, bs⟩) := by simp [turn]
theorem turn_ii_le (h : ap < bp ∨ (ap = bp ∧ as1 ≤ bs)) : turn ⟨1, ap, ab, as1⟩ ⟨1, bp, bb, bs⟩ = (⟨1, ap, ab, as1⟩, ⟨1, bp + 1, bb, bs⟩) := by simp [turn, h]
theorem turn_ii_gt (h : ¬ (ap < bp ∨ (ap = bp ∧ as1 ≤ bs))) : turn ⟨1, ap, ab, as1⟩ ⟨1, bp, bb, bs⟩ = (⟨1, ap + 1, ab, as1⟩, ⟨1, bp, bb, bs⟩) := by simp only [turn]; rw [if_neg (by simp), if_pos (by simp), if_neg h]
theorem turn_id_le (h : ap ≤ bp) : turn ⟨1, ap, ab, as1⟩ ⟨2, bp, bb, bs⟩ = (⟨1, ap, ab, as1⟩, ⟨2, bp + 1, bb, bs⟩) := by simp [turn, h]
theorem turn_id_gt (h : bp < ap) : turn ⟨1, ap, ab, as1⟩ ⟨2, bp, bb, bs⟩ = (⟨1, ap - 1, ab, as1⟩, ⟨2, bp, bb, bs⟩) := by simp only [turn]; rw [if_neg (by simp), if_neg (by simp), if_pos (by simp), if_neg (by omega)]
theorem turn_di_le (h : bp ≤ ap) : turn ⟨2, ap, ab, as1⟩ ⟨1, bp, bb, bs⟩ = (⟨2, ap + 1, ab, as1⟩, ⟨1, bp, bb, bs⟩) := by simp [turn, h]
theorem turn_di_gt (h : ap < bp) : turn ⟨2, ap, ab, as1⟩ ⟨1, bp, bb, bs⟩ = (⟨2, ap, ab, as1⟩, ⟨1, bp - 1, bb, bs⟩) := by simp only [turn]; rw [if_neg (by simp), if_neg (by simp), if_neg (by simp), if_pos (by simp), if_neg (by omega)]
theorem turn_dd_eq : turn ⟨2, bp, ab, as1⟩ ⟨2, bp, bb, bs⟩ = (⟨0, 0, 0, as1⟩, ⟨0, 0, 0, bs⟩) := by simp [turn]
theorem turn_dd_lt (h : ap < bp) : turn ⟨2, ap, ab, as1⟩ ⟨2, bp, bb, bs⟩ = (⟨2, ap, ab, as1⟩, ⟨2, bp - 1, bb, bs⟩) := by
  unfold turn; simp only; rw [if_neg (by omega), if_neg (by omega), if_neg (by omega), if_neg (by omega), if_neg (by omega), if_pos h]
theorem turn_dd_gt (h : bp < ap) : turn ⟨2, ap, ab, as1⟩ ⟨2, bp, bb, bs⟩ = (⟨2, ap - 1, ab, as1⟩, ⟨2, bp, bb, bs⟩) := by
  unfold turn; simp only; rw [if_neg (by omega), if_neg (by omega), if_neg (by omega), if_neg (by omega), if_neg (by omega), if_neg (by omega)]
end
end Go.Proofs.Ytomeaiffpeibhaa

namespace Go.Proofs.Ytomeaiffpeibhaa

/-! ### Texts: a byte put in, a byte taken away -/
def ins (t : List UInt8) (i : Nat) (x : UInt8) : List UInt8 := t.take i ++ x :: t.drop i
def del (t : List UInt8) (i : Nat) : List UInt8 := t.take i ++ t.drop (i + 1)

theorem ins_len (t : List UInt8) (i : Nat) (x : UInt8) (h : i ≤ t.length) : (ins t i x).length = t.length + 1 := by
  simp [ins]; omega
theorem del_len (t : List UInt8) (i : Nat) (h : i < t.length) : (del t i).length = t.length - 1 := by
  simp [del]; omega
theorem ins_get (t : List UInt8) (i : Nat) (x : UInt8) (h : i ≤ t.length) (j : Nat) : (ins t i x)[j]? = if j < i then t[j]? else if j = i then some x else t[j - 1]? := by
  have hl : (t.take i).length = i := by simp; omega
  unfold ins
  by_cases h1 : j < i
  · rw [if_pos h1, List.getElem?_append_left (by omega), List.getElem?_take, if_pos h1]
  · rw [if_neg h1, List.getElem?_append_right (by omega), hl]
    by_cases h2 : j = i
    · subst h2; simp
    · rw [if_neg h2]
      obtain ⟨k, hk⟩ : ∃ k, j - i = k + 1 := ⟨j - i - 1, by omega⟩
      rw [hk, List.getElem?_cons_succ, List.getElem?_drop]
      congr 1; omega
theorem del_get (t : List UInt8) (i : Nat) (h : i < t.length) (j : Nat) : (del t i)[j]? = if j < i then t[j]? else t[j + 1]? := by
  have hl : (t.take i).length = i := by simp; omega
  unfold del
  by_cases h1 : j < i
  · rw [if_pos h1, List.getElem?_append_left (by omega), List.getElem?_take, if_pos h1]
  · rw [if_neg h1, List.getElem?_append_right (by omega), hl, List.getElem?_drop]
    congr 1; omega

/-- Two inserts, the first ahead of the second. -/
theorem ins_ins (t : List UInt8) (i j : Nat) (x y : UInt8) (hij : i ≤ j) (hj : j ≤ t.length) : ins (ins t i x) (j + 1) y = ins (ins t j y) i x := by
  have h1 := ins_len t i x (by omega)
  have h2 := ins_len t j y hj
  apply List.ext_getElem?
  intro k
  rw [ins_get _ _ _ (by omega), ins_get _ _ _ (by omega), ins_get _ _ _ (by omega), ins_get _ _ _ (by omega)]
  repeat' split
  all_goals first | rfl | omega | (congr 1; omega) | (exfalso; omega) | skip
  all_goals first | rfl | (rw [ins_get _ _ _ (by omega)]; repeat' split) | skip
  all_goals first | rfl | omega | (congr 1; omega) | (exfalso; omega)

theorem ins_del_le (t : List UInt8) (i j : Nat) (x : UInt8) (hij : i ≤ j) (hj : j < t.length) : del (ins t i x) (j + 1) = ins (del t j) i x := by
  have h1 := ins_len t i x (by omega)
  have h2 := del_len t j hj
  apply List.ext_getElem?
  intro k
  rw [del_get _ _ (by omega), ins_get _ _ _ (by omega), ins_get _ _ _ (by omega), ins_get _ _ _ (by omega), del_get _ _ hj, del_get _ _ hj]
  repeat' split
  all_goals first | rfl | omega | (congr 1; omega)
theorem ins_del_gt (t : List UInt8) (i j : Nat) (x : UInt8) (hij : j < i) (hi : i ≤ t.length) : del (ins t i x) j = ins (del t j) (i - 1) x := by
  have h1 := ins_len t i x hi
  have h2 := del_len t j (by omega)
  apply List.ext_getElem?
  intro k
  rw [del_get _ _ (by omega), ins_get _ _ _ hi, ins_get _ _ _ hi, ins_get _ _ _ (by omega), del_get _ _ (by omega), del_get _ _ (by omega)]
  repeat' split
  all_goals first | rfl | omega | (congr 1; omega)
theorem del_del (t : List UInt8) (i j : Nat) (hij : i < j) (hj : j < t.length) : del (del t i) (j - 1) = del (del t j) i := by
  have h1 := del_len t i (by omega)
  have h2 := del_len t j hj
  apply List.ext_getElem?
  intro k
  rw [del_get _ _ (by omega), del_get _ _ (by omega), del_get _ _ (by omega), del_get _ _ (by omega), del_get _ _ (by omega), del_get _ _ (by omega)]
  repeat' split
  all_goals first | rfl | omega | (congr 1; omega)

/-! ### Ops on texts -/
/-- What an op makes of a text that it fits. -/
def app (t : List UInt8) (o : Op4) : Option (List UInt8) :=
  if o.k = 1 then if o.p.toNat ≤ t.length then some (ins t o.p.toNat (UInt8.ofNat o.b.toNat)) else none
  else if o.k = 2 then if o.p.toNat < t.length then some (del t o.p.toNat) else none
  else some t
/-- An op as above, whatever its At. -/
def Wf (o : Op4) : Prop := 0 ≤ o.p ∧ ((o.k = 0 ∧ o.p = 0 ∧ o.b = 0) ∨ (o.k = 1 ∧ 0 ≤ o.b ∧ o.b ≤ 255) ∨ (o.k = 2 ∧ o.b = 0)) ∧ 0 ≤ o.s ∧ o.s ≤ 3
theorem Wf.kind {o : Op4} (h : Wf o) : o.k = 0 ∨ o.k = 1 ∨ o.k = 2 := by
  obtain ⟨_, h, _⟩ := h; omega

theorem app_0 {t : List UInt8} {o : Op4} (h : o.k = 0) : app t o = some t := by simp [app, h]
theorem app_1 {t : List UInt8} {o : Op4} (h : o.k = 1) : app t o = if o.p.toNat ≤ t.length then some (ins t o.p.toNat (UInt8.ofNat o.b.toNat)) else none := by simp [app, h]
theorem app_2 {t : List UInt8} {o : Op4} (h : o.k = 2) : app t o = if o.p.toNat < t.length then some (del t o.p.toNat) else none := by simp [app, h]

theorem turn_wf {a b : Op4} (ha : Wf a) (hb : Wf b) : Wf (turn a b).1 ∧ Wf (turn a b).2 := by
  obtain ⟨ak, ap, ab, as1⟩ := a
  obtain ⟨bk, bp, bb, bs⟩ := b
  obtain ⟨ha2, ha1, ha3, ha4⟩ := ha
  obtain ⟨hb2, hb1, hb3, hb4⟩ := hb
  simp only at ha1 ha2 ha3 ha4 hb1 hb2 hb3 hb4
  unfold turn
  simp only
  repeat' split
  all_goals (refine ⟨⟨?_, ?_, ?_, ?_⟩, ⟨?_, ?_, ?_, ?_⟩⟩ <;> simp only <;> first | omega | simp)
theorem turn_site (a b : Op4) : (turn a b).1.s = a.s ∧ (turn a b).2.s = b.s := by
  unfold turn
  repeat' split
  all_goals exact ⟨rfl, rfl⟩

/-- SQUARE: a and then b' makes of a text what b and then a' makes. -/
theorem square {t ta tb : List UInt8} {a b : Op4} (ha : Wf a) (hb : Wf b) (h1 : app t a = some ta) (h2 : app t b = some tb) :
    ∃ u, app ta (turn a b).2 = some u ∧ app tb (turn a b).1 = some u := by
  obtain ⟨ak, ap, ab, as1⟩ := a
  obtain ⟨bk, bp, bb, bs⟩ := b
  have ha1 := ha.kind
  have hb1 := hb.kind
  have ha2 := ha.1
  have hb2 := hb.1
  clear ha hb
  simp only at ha1 ha2 hb1 hb2
  obtain ⟨i, rfl⟩ := Int.eq_ofNat_of_zero_le ha2
  obtain ⟨j, rfl⟩ := Int.eq_ofNat_of_zero_le hb2
  rcases ha1 with rfl | rfl | rfl
  · rw [turn_0x]
    rw [app_0 rfl] at h1
    cases h1
    exact ⟨tb, h2, by rw [app_0 rfl]⟩
  · rcases hb1 with rfl | rfl | rfl
    · rw [turn_x0]
      rw [app_0 rfl] at h2
      cases h2
      exact ⟨ta, by rw [app_0 rfl], h1⟩
    · rw [app_1 rfl] at h1 h2
      simp only [Int.toNat_natCast] at h1 h2
      split at h1
      · split at h2
        · rename_i hi hj
          cases h1; cases h2
          by_cases h : (i : Int) < j ∨ ((i : Int) = j ∧ as1 ≤ bs)
          · rw [turn_ii_le _ _ _ _ _ _ h]
            refine ⟨ins (ins t j (UInt8.ofNat bb.toNat)) i (UInt8.ofNat ab.toNat), ?_, ?_⟩
            · rw [app_1 rfl, if_pos (by rw [ins_len _ _ _ hi]; simp; omega)]
              simp only
              rw [show ((j : Int) + 1).toNat = j + 1 by omega, ins_ins _ _ _ _ _ (by omega) hj]
            · rw [app_1 rfl, if_pos (by rw [ins_len _ _ _ hj]; simp; omega)]
              simp only [Int.toNat_natCast]
          · rw [turn_ii_gt _ _ _ _ _ _ h]
            refine ⟨ins (ins t i (UInt8.ofNat ab.toNat)) j (UInt8.ofNat bb.toNat), ?_, ?_⟩
            · rw [app_1 rfl, if_pos (by rw [ins_len _ _ _ hi]; simp; omega)]
              simp only [Int.toNat_natCast]
            · rw [app_1 rfl, if_pos (by rw [ins_len _ _ _ hj]; simp; omega)]
              simp only
              rw [show ((i : Int) + 1).toNat = i + 1 by omega, ins_ins _ _ _ _ _ (by omega) hi]
        · cases h2
      · cases h1
    · rw [app_1 rfl] at h1
      rw [app_2 rfl] at h2
      simp only [Int.toNat_natCast] at h1 h2
      split at h1
      · split at h2
        · rename_i hi hj
          cases h1; cases h2
          by_cases h : (i : Int) ≤ j
          · rw [turn_id_le _ _ _ _ _ _ h]
            refine ⟨ins (del t j) i (UInt8.ofNat ab.toNat), ?_, ?_⟩
            · rw [app_2 rfl, if_pos (by rw [ins_len _ _ _ hi]; simp; omega)]
              simp only
              rw [show ((j : Int) + 1).toNat = j + 1 by omega, ins_del_le _ _ _ _ (by omega) hj]
            · rw [app_1 rfl, if_pos (by rw [del_len _ _ hj]; simp; omega)]
              simp only [Int.toNat_natCast]
          · rw [turn_id_gt _ _ _ _ _ _ (by omega)]
            refine ⟨ins (del t j) (i - 1) (UInt8.ofNat ab.toNat), ?_, ?_⟩
            · rw [app_2 rfl, if_pos (by rw [ins_len _ _ _ hi]; simp; omega)]
              simp only [Int.toNat_natCast]
              rw [ins_del_gt _ _ _ _ (by omega) hi]
            · rw [app_1 rfl, if_pos (by rw [del_len _ _ hj]; simp; omega)]
              simp only
              rw [show ((i : Int) - 1).toNat = i - 1 by omega]
        · cases h2
      · cases h1
  · rcases hb1 with rfl | rfl | rfl
    · rw [turn_x0]
      rw [app_0 rfl] at h2
      cases h2
      exact ⟨ta, by rw [app_0 rfl], h1⟩
    · rw [app_2 rfl] at h1
      rw [app_1 rfl] at h2
      simp only [Int.toNat_natCast] at h1 h2
      split at h1
      · split at h2
        · rename_i hi hj
          cases h1; cases h2
          by_cases h : (j : Int) ≤ i
          · rw [turn_di_le _ _ _ _ _ _ h]
            refine ⟨ins (del t i) j (UInt8.ofNat bb.toNat), ?_, ?_⟩
            · rw [app_1 rfl, if_pos (by rw [del_len _ _ hi]; simp; omega)]
              simp only [Int.toNat_natCast]
            · rw [app_2 rfl, if_pos (by rw [ins_len _ _ _ hj]; simp; omega)]
              simp only
              rw [show ((i : Int) + 1).toNat = i + 1 by omega, ins_del_le _ _ _ _ (by omega) hi]
          · rw [turn_di_gt _ _ _ _ _ _ (by omega)]
            refine ⟨ins (del t i) (j - 1) (UInt8.ofNat bb.toNat), ?_, ?_⟩
            · rw [app_1 rfl, if_pos (by rw [del_len _ _ hi]; simp; omega)]
              simp only
              rw [show ((j : Int) - 1).toNat = j - 1 by omega]
            · rw [app_2 rfl, if_pos (by rw [ins_len _ _ _ hj]; simp; omega)]
              simp only [Int.toNat_natCast]
              rw [ins_del_gt _ _ _ _ (by omega) hj]
        · cases h2
      · cases h1
    · rw [app_2 rfl] at h1 h2
      simp only [Int.toNat_natCast] at h1 h2
      split at h1
      · split at h2
        · rename_i hi hj
          cases h1; cases h2
          by_cases h : (i : Int) < j
          · rw [turn_dd_lt _ _ _ _ _ _ h]
            refine ⟨del (del t j) i, ?_, ?_⟩
            · rw [app_2 rfl, if_pos (by rw [del_len _ _ hi]; simp; omega)]
              simp only
              rw [show ((j : Int) - 1).toNat = j - 1 by omega, del_del _ _ _ (by omega) hj]
            · rw [app_2 rfl, if_pos (by rw [del_len _ _ hj]; simp; omega)]
              simp only [Int.toNat_natCast]
          by_cases he : (i : Int) = j
          · obtain rfl : i = j := by omega
            rw [turn_dd_eq]
            exact ⟨del t i, app_0 rfl, app_0 rfl⟩
          · rw [turn_dd_gt _ _ _ _ _ _ (by omega)]
            refine ⟨del (del t i) j, ?_, ?_⟩
            · rw [app_2 rfl, if_pos (by rw [del_len _ _ hi]; simp; omega)]
              simp only [Int.toNat_natCast]
            · rw [app_2 rfl, if_pos (by rw [del_len _ _ hj]; simp; omega)]
              simp only
              rw [show ((i : Int) - 1).toNat = i - 1 by omega, del_del _ _ _ (by omega) hi]
        · cases h2
      · cases h1

/-- Asked the other way round: the same, for unlike sites, or where one is nothing. -/
theorem turn_swap {a b : Op4} (ha : Wf a) (hb : Wf b) (h : a.s ≠ b.s ∨ a.k = 0 ∨ b.k = 0) : turn b a = ((turn a b).2, (turn a b).1) := by
  obtain ⟨ak, ap, ab, as1⟩ := a
  obtain ⟨bk, bp, bb, bs⟩ := b
  have ha1 := ha.kind
  have hb1 := hb.kind
  clear ha hb
  simp only at ha1 hb1 h
  unfold turn
  simp only
  rcases ha1 with rfl | rfl | rfl <;> rcases hb1 with rfl | rfl | rfl
  all_goals simp at h ⊢
  all_goals (repeat' split)
  all_goals first | rfl | (exfalso; omega) | omega | (simp; omega)
end Go.Proofs.Ytomeaiffpeibhaa

namespace Go.Proofs.Ytomeaiffpeibhaa

/-! ### An op carried over a list of ops, and they over it -/
def cross (o : Op4) : List Op4 → Op4 × List Op4
  | [] => (o, [])
  | x :: l => ((cross (turn o x).1 l).1, (turn o x).2 :: (cross (turn o x).1 l).2)
def apps (t : List UInt8) : List Op4 → Option (List UInt8)
  | [] => some t
  | o :: l => (app t o).bind fun u => apps u l

theorem cross_nil (o : Op4) : cross o [] = (o, []) := rfl
theorem cross_cons (o x : Op4) (l : List Op4) : cross o (x :: l) = ((cross (turn o x).1 l).1, (turn o x).2 :: (cross (turn o x).1 l).2) := rfl
theorem cross_append : ∀ (o : Op4) (l m : List Op4), cross o (l ++ m) = ((cross (cross o l).1 m).1, (cross o l).2 ++ (cross (cross o l).1 m).2)
  | o, [], m => by simp [cross_nil]
  | o, x :: l, m => by
    rw [List.cons_append, cross_cons, cross_append, cross_cons]
    simp
theorem cross_len : ∀ (o : Op4) (l : List Op4), (cross o l).2.length = l.length
  | _, [] => rfl
  | o, x :: l => by rw [cross_cons]; simp [cross_len]
theorem apps_append : ∀ (t : List UInt8) (l m : List Op4), apps t (l ++ m) = (apps t l).bind fun u => apps u m
  | t, [], m => rfl
  | t, o :: l, m => by
    show (app t o).bind (fun u => apps u (l ++ m)) = ((app t o).bind fun u => apps u l).bind fun u => apps u m
    cases app t o with
    | none => rfl
    | some u => exact apps_append u l m

/-- nothing turns nothing. -/
theorem turn_none (o x : Op4) (h : o.k = 0) : turn o x = (o, x) := by unfold turn; rw [if_pos (Or.inl h)]
theorem turn_none' (o x : Op4) (h : x.k = 0) : turn o x = (o, x) := by unfold turn; rw [if_pos (Or.inr h)]
theorem cross_none : ∀ (o : Op4) (l : List Op4), o.k = 0 → cross o l = (o, l)
  | _, [], _ => rfl
  | o, x :: l, h => by rw [cross_cons, turn_none o x h]; simp only; rw [cross_none o l h]

/-- The classes: ops of the client c itself; ops of the others, and nothings. -/
def Own (own : Bool) (c : Int) (o : Op4) : Prop := Wf o ∧ (if own then o.s = c else (o.s ≠ c ∨ o.k = 0))
theorem own_turn {own : Bool} {c : Int} {a b : Op4} (ha : Own own c a) (hb : Own (!own) c b) : Own own c (turn a b).1 ∧ Own (!own) c (turn a b).2 ∧ turn b a = ((turn a b).2, (turn a b).1) := by
  have hw := turn_wf ha.1 hb.1
  have hs := turn_site a b
  obtain ⟨wa, ca⟩ := ha
  obtain ⟨wb, cb⟩ := hb
  by_cases k0 : a.k = 0
  · rw [turn_none a b k0, turn_none' b a k0]
    exact ⟨⟨wa, ca⟩, ⟨wb, cb⟩, rfl⟩
  by_cases k1 : b.k = 0
  · rw [turn_none' a b k1, turn_none b a k1]
    exact ⟨⟨wa, ca⟩, ⟨wb, cb⟩, rfl⟩
  cases own
  · simp [k0] at ca cb
    exact ⟨⟨hw.1, Or.inl (by rw [hs.1]; exact ca)⟩, ⟨hw.2, by simp [hs.2, cb]⟩, turn_swap wa wb (Or.inl (by rw [cb]; exact ca))⟩
  · simp [k1] at ca cb
    exact ⟨⟨hw.1, by simp [hs.1, ca]⟩, ⟨hw.2, Or.inl (by rw [hs.2]; exact cb)⟩, turn_swap wa wb (Or.inl (by rw [ca]; exact fun h => cb h.symm))⟩
theorem own_cross {own : Bool} {c : Int} : ∀ {o : Op4} {l : List Op4}, Own own c o → (∀ x ∈ l, Own (!own) c x) → Own own c (cross o l).1 ∧ ∀ x ∈ (cross o l).2, Own (!own) c x
  | o, [], ho, _ => ⟨ho, fun x hx => by cases hx⟩
  | o, y :: l, ho, hl => by
    have h1 := own_turn ho (hl y (by simp))
    have h2 := own_cross (l := l) h1.1 (fun x hx => hl x (by simp [hx]))
    rw [cross_cons]
    refine ⟨h2.1, fun x hx => ?_⟩
    rcases List.mem_cons.1 hx with rfl | h
    · exact h1.2.1
    · exact h2.2 x h

/-- The square, along a list. -/
theorem square_path {own : Bool} {c : Int} : ∀ {l : List Op4} {o : Op4} {t tl to : List UInt8}, Own own c o → (∀ x ∈ l, Own (!own) c x) → apps t l = some tl → app t o = some to →
    ∃ u, app tl (cross o l).1 = some u ∧ apps to (cross o l).2 = some u
  | [], o, t, tl, to, _, _, h1, h2 => by
    cases h1
    exact ⟨to, h2, rfl⟩
  | x :: l, o, t, tl, to, ho, hl, h1, h2 => by
    have hx := hl x (by simp)
    simp only [apps] at h1
    obtain ⟨tx, h3, h4⟩ := Option.bind_eq_some_iff.1 h1
    obtain ⟨u, h5, h6⟩ := square ho.1 hx.1 h2 h3
    have h7 := own_turn ho hx
    obtain ⟨v, h8, h9⟩ := square_path (l := l) h7.1 (fun y hy => hl y (by simp [hy])) h4 h6
    refine ⟨v, h8, ?_⟩
    rw [cross_cons]
    simp only [apps]
    rw [h5]
    exact h9

/-! ### Messages on their way -/
/-- Messages (an op, and how many had come), each carried over what is open of the list L (of which the first stands behind number K) becomes the op that the other side has open for it. -/
def Chain : Nat → List Op4 → List (Op4 × Nat) → List Op4 → Prop
  | _, _, [], [] => True
  | K, L, m :: U, v :: V => K ≤ m.2 ∧ m.2 - K ≤ L.length ∧ (cross m.1 (L.drop (m.2 - K))).1 = v ∧ Chain m.2 (cross m.1 (L.drop (m.2 - K))).2 U V
  | _, _, _, _ => False
theorem chain_len : ∀ {K : Nat} {L : List Op4} {U : List (Op4 × Nat)} {V : List Op4}, Chain K L U V → V.length = U.length
  | _, _, [], [], _ => rfl
  | _, _, m :: U, v :: V, h => by simp [chain_len h.2.2.2]
  | _, _, [], _ :: _, h => by cases h
  | _, _, _ :: _, [], h => by cases h
theorem chain_snoc : ∀ {K : Nat} {L : List Op4} {U : List (Op4 × Nat)} {V : List Op4} (o : Op4), Chain K L U V → Chain K L (U ++ [(o, K + L.length)]) (V ++ [o])
  | K, L, [], [], o, _ => by
    refine ⟨by simp, by simp, ?_, ?_⟩
    · simp [cross_nil]
    · simp [Chain]
  | K, L, m :: U, v :: V, o, h => by
    refine ⟨h.1, h.2.1, h.2.2.1, ?_⟩
    have := chain_snoc o h.2.2.2
    rw [cross_len, List.length_drop, show m.2 + (L.length - (m.2 - K)) = K + L.length by have := h.1; have := h.2.1; omega] at this
    exact this
  | _, _, [], _ :: _, _, h => by cases h
  | _, _, _ :: _, [], _, h => by cases h
/-- One op more at the end of what is open: it goes over all that is on its way. -/
theorem chain_other {own : Bool} {c : Int} : ∀ {K : Nat} {L : List Op4} {U : List (Op4 × Nat)} {V : List Op4} {x : Op4}, Own (!own) c x → (∀ y ∈ L, Own (!own) c y) → (∀ m ∈ U, Own own c m.1) →
    Chain K L U V → Chain K (L ++ [x]) U (cross x V).2
  | K, L, [], [], x, _, _, _, _ => by simp [cross_nil, Chain]
  | K, L, m :: U, v :: V, x, hx, hL, hU, h => by
    obtain ⟨h1, h2, h3, h4⟩ := h
    have hm := hU m (by simp)
    have hc := own_cross (l := L.drop (m.2 - K)) hm (fun y hy => hL y (List.mem_of_mem_drop hy))
    rw [h3] at hc
    have ht := own_turn hc.1 hx
    have e : cross m.1 ((L ++ [x]).drop (m.2 - K)) = ((turn v x).1, (cross m.1 (L.drop (m.2 - K))).2 ++ [(turn v x).2]) := by
      rw [List.drop_append_of_le_length h2, cross_append, h3]
      simp [cross_cons, cross_nil]
    rw [cross_cons, ht.2.2]
    refine ⟨h1, by simp; omega, by rw [e], ?_⟩
    rw [e]
    exact chain_other ht.2.1 hc.2 (fun y hy => hU y (by simp [hy])) h4
  | _, _, [], _ :: _, _, _, _, _, h => by cases h
  | _, _, _ :: _, [], _, _, _, _, h => by cases h

/-! ### A client and the server -/
/-- Between two sides: a text S (of the one whose ops are of the class 'not own': the server) and C; what each has open (Os, Oc), of which it is known that Ks, Kc came; how many came (B: to C's side, A: to S's side); what is on its way (U to S's side, D to C's side).
  Both texts come of one text T: by those open ops that have not come to the other side. -/
def Link (own : Bool) (c : Int) (S C : List UInt8) (Ks : Nat) (Os : List Op4) (Kc : Nat) (Oc : List Op4) (B A : Nat) (U D : List (Op4 × Nat)) : Prop :=
  ∃ L1s Vs L1c Vc : List Op4, Os = L1s ++ Vs ∧ Oc = L1c ++ Vc ∧ B = Ks + L1s.length ∧ A = Kc + L1c.length ∧
    (∀ o ∈ Os, Own (!own) c o) ∧ (∀ o ∈ Oc, Own own c o) ∧ (∀ m ∈ U, Own own c m.1) ∧ (∀ m ∈ D, Own (!own) c m.1) ∧
    (∃ T, apps T Vs = some S ∧ apps T Vc = some C) ∧ Chain Ks L1s U Vc ∧ Chain Kc L1c D Vs

theorem link_flip {own : Bool} {c : Int} {S C : List UInt8} {Ks : Nat} {Os : List Op4} {Kc : Nat} {Oc : List Op4} {B A : Nat} {U D : List (Op4 × Nat)}
    (h : Link own c S C Ks Os Kc Oc B A U D) : Link (!own) c C S Kc Oc Ks Os A B D U := by
  obtain ⟨L1s, Vs, L1c, Vc, h1, h2, h3, h4, h5, h6, h7, h8, ⟨T, h9, h10⟩, h11, h12⟩ := h
  refine ⟨L1c, Vc, L1s, Vs, h2, h1, h4, h3, ?_, h5, h8, ?_, ⟨T, h10, h9⟩, h12, h11⟩
  · rw [Bool.not_not]; exact h6
  · rw [Bool.not_not]; exact h7

theorem link_init (own : Bool) (c : Int) (t : List UInt8) : Link own c t t 0 [] 0 [] 0 0 [] [] :=
  ⟨[], [], [], [], rfl, rfl, rfl, rfl, fun o ho => (by cases ho), fun o ho => (by cases ho), fun o ho => (by cases ho), fun o ho => (by cases ho), ⟨t, rfl, rfl⟩, trivial, trivial⟩

/-- The one side does an op of its own, and sends it. -/
theorem link_send {own : Bool} {c : Int} {S C C' : List UInt8} {Ks : Nat} {Os : List Op4} {Kc : Nat} {Oc : List Op4} {B A : Nat} {U D : List (Op4 × Nat)} {o : Op4}
    (h : Link own c S C Ks Os Kc Oc B A U D) (ho : Own own c o) (hC : app C o = some C') : Link own c S C' Ks Os Kc (Oc ++ [o]) B A (U ++ [(o, B)]) D := by
  obtain ⟨L1s, Vs, L1c, Vc, h1, h2, h3, h4, h5, h6, h7, h8, ⟨T, h9, h10⟩, h11, h12⟩ := h
  refine ⟨L1s, Vs, L1c, Vc ++ [o], h1, by rw [h2, List.append_assoc], h3, h4, h5, ?_, ?_, h8, ⟨T, h9, ?_⟩, ?_, h12⟩
  · intro x hx
    rcases List.mem_append.1 hx with h | h
    · exact h6 x h
    · simp at h; subst h; exact ho
  · intro x hx
    rcases List.mem_append.1 hx with h | h
    · exact h7 x h
    · simp at h; subst h; exact ho
  · rw [apps_append, h10]
    show (app C o).bind (fun u => apps u []) = some C'
    rw [hC]; rfl
  · rw [h3]; exact chain_snoc o h11

/-- The first message of U comes to S's side. -/
theorem link_take {own : Bool} {c : Int} {S C : List UInt8} {Ks : Nat} {Os : List Op4} {Kc : Nat} {Oc : List Op4} {B A : Nat} {U D : List (Op4 × Nat)} {m : Op4 × Nat}
    (h : Link own c S C Ks Os Kc Oc B A (m :: U) D) :
    Ks ≤ m.2 ∧ m.2 - Ks ≤ Os.length ∧ Own own c (cross m.1 (Os.drop (m.2 - Ks))).1 ∧ ∃ S', app S (cross m.1 (Os.drop (m.2 - Ks))).1 = some S' ∧
      Link own c S' C m.2 (cross m.1 (Os.drop (m.2 - Ks))).2 Kc Oc B (A + 1) U D := by
  obtain ⟨L1s, Vs, L1c, Vc, h1, h2, h3, h4, h5, h6, h7, h8, ⟨T, h9, h10⟩, h11, h12⟩ := h
  match Vc, h11 with
  | v :: Vc', h11 =>
    obtain ⟨k1, k2, k3, k4⟩ := h11
    have hm := h7 m (by simp)
    have hL : ∀ x ∈ L1s, Own (!own) c x := fun x hx => h5 x (by rw [h1]; simp [hx])
    have hV : ∀ x ∈ Vs, Own (!own) c x := fun x hx => h5 x (by rw [h1]; simp [hx])
    have hv : Own own c v := h6 v (by rw [h2]; simp)
    have hM := own_cross (l := L1s.drop (m.2 - Ks)) hm (fun x hx => hL x (List.mem_of_mem_drop hx))
    have e : cross m.1 (Os.drop (m.2 - Ks)) = ((cross v Vs).1, (cross m.1 (L1s.drop (m.2 - Ks))).2 ++ (cross v Vs).2) := by
      rw [h1, List.drop_append_of_le_length k2, cross_append, k3]
    have hW := own_cross hv hV
    simp only [apps] at h10
    obtain ⟨T', h13, h14⟩ := Option.bind_eq_some_iff.1 h10
    obtain ⟨S', h15, h16⟩ := square_path hv hV h9 h13
    refine ⟨k1, by rw [h1]; simp; omega, by rw [e]; exact hW.1, S', by rw [e]; exact h15, ?_⟩
    rw [e]
    refine ⟨(cross m.1 (L1s.drop (m.2 - Ks))).2, (cross v Vs).2, L1c ++ [v], Vc', rfl, by rw [h2]; simp, ?_, by rw [h4]; simp; omega, ?_, h6, fun x hx => h7 x (by simp [hx]), h8, ⟨T', h16, h14⟩, k4, ?_⟩
    · rw [h3, cross_len, List.length_drop]; omega
    · intro x hx
      rcases List.mem_append.1 hx with h | h
      · exact hM.2 x h
      · exact hW.2 x h
    · have := chain_other (own := !own) (c := c) (x := v) (by rw [Bool.not_not]; exact hv) (fun y hy => by rw [Bool.not_not]; exact h6 y (by rw [h2]; simp [hy])) h8 h12
      exact this
  | [], h11 => cases h11

/-- Nothing is on its way: the texts are the same. -/
theorem link_calm {own : Bool} {c : Int} {S C : List UInt8} {Ks : Nat} {Os : List Op4} {Kc : Nat} {Oc : List Op4} {B A : Nat} (h : Link own c S C Ks Os Kc Oc B A [] []) : S = C := by
  obtain ⟨L1s, Vs, L1c, Vc, _, _, _, _, _, _, _, _, ⟨T, h9, h10⟩, h11, h12⟩ := h
  have e1 : Vc = [] := List.length_eq_zero_iff.1 (chain_len h11)
  have e2 : Vs = [] := List.length_eq_zero_iff.1 (chain_len h12)
  subst e1; subst e2
  cases h9; cases h10
  rfl
end Go.Proofs.Ytomeaiffpeibhaa

namespace Go.Proofs.Ytomeaiffpeibhaa

/-! ### What the server did, and what of it is on its way to a client -/
def noop (c : Int) : Op4 := ⟨0, 0, 0, c⟩
theorem own_noop (c : Int) (h0 : 0 ≤ c) (h1 : c ≤ 3) : Own false c (noop c) := ⟨⟨Int.le_refl 0, Or.inl ⟨rfl, rfl, rfl⟩, h0, h1⟩, Or.inr rfl⟩
/-- How many of a list are c's own. -/
def ownN (c : Int) : List Op4 → Nat
  | [] => 0
  | z :: l => (if z.s = c then 1 else 0) + ownN c l
theorem ownN_append (c : Int) : ∀ l m : List Op4, ownN c (l ++ m) = ownN c l + ownN c m
  | [], m => by simp [ownN]
  | z :: l, m => by simp [ownN, ownN_append c l m]; omega
/-- The messages to c that tell a list: of its own ops nothing; with each how many of its own had come. -/
def dmsgs (c : Int) : Nat → List Op4 → List (Op4 × Nat)
  | _, [] => []
  | K, z :: l => if z.s = c then (noop c, K + 1) :: dmsgs c (K + 1) l else (z, K) :: dmsgs c K l
theorem dmsgs_snoc (c : Int) (z : Op4) : ∀ (K : Nat) (l : List Op4), dmsgs c K (l ++ [z]) = dmsgs c K l ++ [if z.s = c then (noop c, K + ownN c l + 1) else (z, K + ownN c l)]
  | K, [] => by
    simp only [List.nil_append, dmsgs, ownN, Nat.add_zero]
    split <;> rfl
  | K, y :: l => by
    simp only [List.cons_append, dmsgs, ownN]
    split
    · rw [dmsgs_snoc c z (K + 1) l, List.cons_append, show K + 1 + ownN c l = K + (1 + ownN c l) by omega]
    · rw [dmsgs_snoc c z K l, List.cons_append, Nat.zero_add]
theorem dmsgs_len (c : Int) : ∀ (K : Nat) (l : List Op4), (dmsgs c K l).length = l.length
  | _, [] => rfl
  | K, z :: l => by simp only [dmsgs]; split <;> simp [dmsgs_len]

/-- What is open at c when all of a list has come. -/
def runs (c : Int) : List Op4 → List Op4 → List Op4
  | o, [] => o
  | o, z :: l => if z.s = c then runs c o.tail l else runs c (cross z o).2 l
/-- Each own op of the list is just what c has open for it when it comes. -/
def Pend (c : Int) : List Op4 → List Op4 → Prop
  | _, [] => True
  | o, z :: l => if z.s = c then (∃ tl, o = z :: tl) ∧ Pend c o.tail l else Pend c (cross z o).2 l
theorem pend_snoc_other {c : Int} {z : Op4} (hz : z.s ≠ c) : ∀ {l o : List Op4}, Pend c o l → Pend c o (l ++ [z])
  | [], o, _ => by simp [Pend, hz]
  | y :: l, o, h => by
    simp only [List.cons_append, Pend] at h ⊢
    split at h
    · rw [if_pos (by assumption)]; exact ⟨h.1, pend_snoc_other hz h.2⟩
    · rw [if_neg (by assumption)]; exact pend_snoc_other hz h
theorem pend_snoc_own {c : Int} {z : Op4} (hz : z.s = c) : ∀ {l o : List Op4}, Pend c o l → (∃ tl, runs c o l = z :: tl) → Pend c o (l ++ [z])
  | [], o, _, ht => by simp only [List.nil_append, Pend, if_pos hz]; exact ⟨ht, trivial⟩
  | y :: l, o, h, ht => by
    simp only [List.cons_append, Pend, runs] at h ht ⊢
    split at h
    · rw [if_pos (by assumption)] at ht ⊢; exact ⟨h.1, pend_snoc_own hz h.2 ht⟩
    · rw [if_neg (by assumption)] at ht ⊢; exact pend_snoc_own hz h ht
theorem pend_open {c : Int} (x : Op4) : ∀ {l o : List Op4}, Pend c o l → Pend c (o ++ [x]) l
  | [], o, _ => by simp [Pend]
  | y :: l, o, h => by
    simp only [Pend] at h ⊢
    split at h
    · rename_i hy
      rw [if_pos hy]
      obtain ⟨⟨tl, rfl⟩, h2⟩ := h
      exact ⟨⟨tl ++ [x], rfl⟩, pend_open x h2⟩
    · rename_i hy
      rw [if_neg hy, cross_append]
      exact pend_open _ h

/-- The list L, turned by all of Vs in order. -/
def overs : List Op4 → List Op4 → List Op4
  | [], V => V
  | s :: Vs, V => overs Vs (cross s V).2
theorem overs_nil : ∀ Vs : List Op4, overs Vs [] = []
  | [] => rfl
  | s :: Vs => by show overs Vs (cross s []).2 = []; exact overs_nil Vs
/-- Its first: v over all of Vs. -/
theorem overs_cons {c : Int} : ∀ {Vs : List Op4} {v : Op4} {V : List Op4}, Own true c v → (∀ s ∈ Vs, Own false c s) → ∃ tl, overs Vs (v :: V) = (cross v Vs).1 :: tl
  | [], v, V, _, _ => ⟨V, rfl⟩
  | s :: Vs, v, V, hv, hs => by
    have h := own_turn (own := true) hv (hs s (by simp))
    show ∃ tl, overs Vs (cross s (v :: V)).2 = _
    rw [cross_cons, h.2.2]
    simp only
    rw [cross_cons]
    exact overs_cons h.1 (fun y hy => hs y (by simp [hy]))


theorem runs_over {c : Int} : ∀ {l : List Op4} {K : Nat} {L V Vs : List Op4}, L.length = ownN c l → Chain K L (dmsgs c K l) Vs → runs c (L ++ V) l = overs Vs V
  | [], K, L, V, Vs, hl, h => by
    have e : L = [] := List.length_eq_zero_iff.1 hl
    subst e
    have e2 : Vs = [] := List.length_eq_zero_iff.1 (chain_len h)
    subst e2
    rfl
  | z :: l, K, L, V, Vs, hl, h => by
    simp only [dmsgs] at h
    simp only [ownN] at hl
    split at h
    · rename_i hz
      rw [if_pos hz] at hl
      match L, Vs, h with
      | x :: L', s :: Vs', h =>
        obtain ⟨_, _, h3, h4⟩ := h
        simp only [show K + 1 - K = 1 by omega, List.drop_succ_cons, List.drop_zero] at h3 h4
        rw [cross_none _ _ rfl] at h3 h4
        simp only at h3 h4
        have e := runs_over (V := V) (by simp at hl; omega) h4
        simp only [runs, if_pos hz, List.cons_append, List.tail_cons, overs]
        rw [e, ← h3, cross_none _ _ rfl]
      | [], _, h => simp at hl; omega
      | _ :: _, [], h => cases h
    · rename_i hz
      rw [if_neg hz] at hl
      match Vs, h with
      | s :: Vs', h =>
        obtain ⟨_, _, h3, h4⟩ := h
        simp only [Nat.sub_self, List.drop_zero] at h3 h4
        simp only [runs, if_neg hz, overs]
        rw [cross_append, h3]
        exact runs_over (by rw [cross_len]; simpa using hl) h4
      | [], h => cases h

/-- How a client stands to what the server did: B of it have come; what is on its way tells the rest; its text is the server's text of then, and then its open ops. -/
def HistOK (c : Int) (first : List UInt8) (hist : List Op4) (B K : Nat) (ho : List Op4) (A : Nat) (D : List (Op4 × Nat)) (C : List UInt8) : Prop :=
  B ≤ hist.length ∧ D = dmsgs c K (hist.drop B) ∧ A = K + ownN c (hist.drop B) ∧ Pend c ho (hist.drop B) ∧ ∃ hb, apps first (hist.take B) = some hb ∧ apps hb ho = some C

theorem hist_init (c : Int) (t : List UInt8) : HistOK c t [] 0 0 [] 0 [] t := ⟨Nat.le_refl _, rfl, rfl, trivial, t, rfl, rfl⟩

theorem hist_type {c : Int} {first C C' : List UInt8} {hist ho : List Op4} {B K A : Nat} {D : List (Op4 × Nat)} {o : Op4} (h : HistOK c first hist B K ho A D C) (hC : app C o = some C') :
    HistOK c first hist B K (ho ++ [o]) A D C' := by
  obtain ⟨h1, h2, h3, h4, hb, h5, h6⟩ := h
  refine ⟨h1, h2, h3, pend_open o h4, hb, h5, ?_⟩
  rw [apps_append, h6]
  show (app C o).bind (fun u => apps u []) = some C'
  rw [hC]; rfl

/-- The server did another's op. -/
theorem hist_other {c : Int} {first C : List UInt8} {hist ho : List Op4} {B K A : Nat} {D : List (Op4 × Nat)} {z : Op4} (hz : z.s ≠ c) (h : HistOK c first hist B K ho A D C) :
    HistOK c first (hist ++ [z]) B K ho A (D ++ [(z, A)]) C := by
  obtain ⟨h1, h2, h3, h4, hb, h5, h6⟩ := h
  refine ⟨by simp; omega, ?_, ?_, ?_, hb, ?_, h6⟩
  · rw [List.drop_append_of_le_length h1, dmsgs_snoc, if_neg hz, h2, h3]
  · rw [List.drop_append_of_le_length h1, ownN_append]; simp [ownN, hz]; exact h3
  · rw [List.drop_append_of_le_length h1]; exact pend_snoc_other hz h4
  · rw [List.take_append_of_le_length h1]; exact h5

/-- The server did the client's own op, which has become z. -/
theorem hist_own {c : Int} {first C : List UInt8} {hist ho : List Op4} {B K A : Nat} {D : List (Op4 × Nat)} {z : Op4} (hz : z.s = c) (h : HistOK c first hist B K ho A D C) (hr : ∃ tl, runs c ho (hist.drop B) = z :: tl) :
    HistOK c first (hist ++ [z]) B K ho (A + 1) (D ++ [(noop c, A + 1)]) C := by
  obtain ⟨h1, h2, h3, h4, hb, h5, h6⟩ := h
  refine ⟨by simp; omega, ?_, ?_, ?_, hb, ?_, h6⟩
  · rw [List.drop_append_of_le_length h1, dmsgs_snoc, if_pos hz, h2, h3]
  · rw [List.drop_append_of_le_length h1, ownN_append]; simp [ownN, hz]; omega
  · rw [List.drop_append_of_le_length h1]; exact pend_snoc_own hz h4 hr
  · rw [List.take_append_of_le_length h1]; exact h5

theorem apps_prefix {t u : List UInt8} {l m : List Op4} (h : apps t (l ++ m) = some u) : ∃ v, apps t l = some v ∧ apps v m = some u := by
  rw [apps_append] at h
  exact Option.bind_eq_some_iff.1 h

/-- A message comes to the client. -/
theorem hist_down {c : Int} {first S C C' : List UInt8} {hist ho : List Op4} {B K A : Nat} {D : List (Op4 × Nat)} {m : Op4 × Nat} (hS : apps first hist = some S) (hh : ∀ z ∈ hist, Wf z) (ho' : ∀ x ∈ ho, Own true c x)
    (h : HistOK c first hist B K ho A (m :: D) C) (hC : app C (cross m.1 (ho.drop (m.2 - K))).1 = some C') :
    HistOK c first hist (B + 1) m.2 (cross m.1 (ho.drop (m.2 - K))).2 A D C' := by
  obtain ⟨h1, h2, h3, h4, hb, h5, h6⟩ := h
  have hlt : B < hist.length := by
    have := congrArg List.length h2
    rw [dmsgs_len] at this
    simp at this; omega
  obtain ⟨z, hzz⟩ : ∃ z, hist[B]? = some z := ⟨_, List.getElem?_eq_getElem hlt⟩
  have hd : hist.drop B = z :: hist.drop (B + 1) := by
    rw [List.drop_eq_getElem_cons hlt]
    rw [List.getElem?_eq_getElem hlt] at hzz
    cases hzz; rfl
  have ht : hist.take (B + 1) = hist.take B ++ [z] := by rw [List.take_add_one, hzz]; rfl
  have hzm : z ∈ hist := List.mem_of_getElem? hzz
  obtain ⟨hb', h7, h8⟩ : ∃ hb', app hb z = some hb' ∧ apps first (hist.take (B + 1)) = some hb' := by
    have hp : apps first (hist.take (B + 1) ++ hist.drop (B + 1)) = some S := by rw [List.take_append_drop]; exact hS
    obtain ⟨v, hv1, _⟩ := apps_prefix hp
    rw [ht] at hv1
    obtain ⟨w, hw1, hw2⟩ := apps_prefix hv1
    rw [h5] at hw1
    cases hw1
    simp only [apps] at hw2
    obtain ⟨y, hy1, hy2⟩ := Option.bind_eq_some_iff.1 hw2
    cases hy2
    exact ⟨_, hy1, by rw [ht]; exact hv1⟩
  rw [hd] at h2 h3 h4
  simp only [dmsgs, ownN, Pend] at h2 h3 h4
  by_cases hz : z.s = c
  · rw [if_pos hz] at h2 h3 h4
    obtain ⟨rfl, rfl⟩ := List.cons.inj h2
    obtain ⟨⟨tl, rfl⟩, h4⟩ := h4
    simp only [show K + 1 - K = 1 by omega, List.drop_succ_cons, List.drop_zero] at hC ⊢
    rw [cross_none _ _ rfl] at hC ⊢
    simp only at hC ⊢
    rw [app_0 rfl] at hC
    cases hC
    simp only [apps] at h6
    rw [h7] at h6
    exact ⟨hlt, rfl, by omega, h4, hb', h8, h6⟩
  · rw [if_neg hz] at h2 h3 h4
    obtain ⟨rfl, rfl⟩ := List.cons.inj h2
    simp only [Nat.sub_self, List.drop_zero] at hC ⊢
    obtain ⟨u, h9, h10⟩ := square_path (own := false) (c := c) ⟨hh z hzm, Or.inl hz⟩ ho' h6 h7
    rw [hC] at h9
    cases h9
    exact ⟨hlt, rfl, by omega, h4, hb', h8, h10⟩

/-- The server's own op is what the client has open for it. -/
theorem link_runs {c : Int} {first S C : List UInt8} {Ks : Nat} {Os : List Op4} {Kc : Nat} {Oc : List Op4} {B A : Nat} {U D : List (Op4 × Nat)} {m : Op4 × Nat} {hist : List Op4}
    (h : Link true c S C Ks Os Kc Oc B A (m :: U) D) (hh : HistOK c first hist B Kc Oc A D C) : ∃ tl, runs c Oc (hist.drop B) = (cross m.1 (Os.drop (m.2 - Ks))).1 :: tl := by
  obtain ⟨L1s, Vs, L1c, Vc, h1, h2, h3, h4, h5, h6, h7, h8, _, h11, h12⟩ := h
  obtain ⟨g1, g2, g3, g4, _⟩ := hh
  match Vc, h11 with
  | v :: Vc', h11 =>
    obtain ⟨k1, k2, k3, k4⟩ := h11
    have hl : L1c.length = ownN c (hist.drop B) := by omega
    rw [g2] at h12
    have e := runs_over (V := v :: Vc') hl h12
    rw [← h2] at e
    have hv : Own true c v := h6 v (by rw [h2]; simp)
    have hV : ∀ x ∈ Vs, Own false c x := fun x hx => h5 x (by rw [h1]; simp [hx])
    obtain ⟨tl, htl⟩ := overs_cons (V := Vc') hv hV
    refine ⟨tl, ?_⟩
    rw [e, htl, h1, List.drop_append_of_le_length k2, cross_append, k3]
  | [], h11 => cases h11
end Go.Proofs.Ytomeaiffpeibhaa

namespace Go.Proofs.Ytomeaiffpeibhaa

/-! ### The moot, in plain words -/
/-- A message: its op; what SENT and CAME were. -/
structure Msg where
  o : Op4
  sent : Nat
  came : Nat
/-- A client: its text; at the client (h): sent, came, known, open; at the server for it (t): the same; its two queues. -/
structure Cli where
  text : List UInt8
  hs : Nat
  hc : Nat
  hk : Nat
  ho : List Op4
  ts : Nat
  tc : Nat
  tk : Nat
  to : List Op4
  up : List Msg
  dn : List Msg
structure Moo where
  n : Nat
  srv : List UInt8
  cl : Nat → Cli
  hist : List Op4

def newC (t : List UInt8) : Cli := ⟨t, 0, 0, 0, [], 0, 0, 0, [], [], []⟩
def newM (n : Nat) (t : List UInt8) : Moo := ⟨n, t, fun _ => newC t, []⟩
def Moo.set (m : Moo) (c : Nat) (x : Cli) : Moo := { m with cl := fun i => if i = c then x else m.cl i }
/-- A client types. -/
def typeC (x : Cli) (o : Op4) (t : List UInt8) : Cli := { x with text := t, hs := x.hs + 1, ho := x.ho ++ [o], up := x.up ++ [⟨o, x.hs, x.hc⟩] }
/-- The server sends to a client. -/
def sendS (x : Cli) (z : Op4) : Cli := { x with ts := x.ts + 1, to := x.to ++ [z], dn := x.dn ++ [⟨z, x.ts, x.tc⟩] }
/-- A client's message comes to the server: the op as it is now; what is open behind it. -/
def upO (x : Cli) (μ : Msg) : Op4 := (cross μ.o (x.to.drop (μ.came - x.tk))).1
def takeS (x : Cli) (μ : Msg) (r : List Msg) : Cli := { x with up := r, tc := x.tc + 1, tk := μ.came, to := (cross μ.o (x.to.drop (μ.came - x.tk))).2 }
/-- The server's message comes to a client. -/
def dnO (x : Cli) (μ : Msg) : Op4 := (cross μ.o (x.ho.drop (μ.came - x.hk))).1
def takeC (x : Cli) (μ : Msg) (r : List Msg) (t : List UInt8) : Cli := { x with text := t, dn := r, hc := x.hc + 1, hk := μ.came, ho := (cross μ.o (x.ho.drop (μ.came - x.hk))).2 }
def upM (m : Moo) (c : Nat) (μ : Msg) (r : List Msg) (t : List UInt8) : Moo :=
  { m with srv := t, hist := m.hist ++ [upO (m.cl c) μ], cl := fun i => if i = c then sendS (takeS (m.cl c) μ r) (noop c) else sendS (m.cl i) (upO (m.cl c) μ) }

def prs (l : List Msg) : List (Op4 × Nat) := l.map fun μ => (μ.o, μ.came)

/-! ### Lengths -/
/-- By how much ops lengthen a text. -/
def grow : List Op4 → Int
  | [] => 0
  | o :: l => (if o.k = 1 then 1 else if o.k = 2 then -1 else 0) + grow l
theorem grow_append : ∀ l m : List Op4, grow (l ++ m) = grow l + grow m
  | [], m => by simp [grow]
  | o :: l, m => by simp only [List.cons_append, grow, grow_append l m]; omega
theorem app_grow {t u : List UInt8} {o : Op4} (h : app t o = some u) : (u.length : Int) = t.length + grow [o] := by
  unfold app at h
  simp only [grow]
  split at h
  · split at h
    · cases h; rw [ins_len _ _ _ (by assumption)]; omega
    · cases h
  · split at h
    · split at h
      · rename_i h1
        cases h; rw [del_len _ _ h1]; omega
      · cases h
    · cases h; omega
theorem apps_grow : ∀ {l : List Op4} {t u : List UInt8}, apps t l = some u → (u.length : Int) = t.length + grow l
  | [], t, u, h => by cases h; simp [grow]
  | o :: l, t, u, h => by
    simp only [apps] at h
    obtain ⟨v, h1, h2⟩ := Option.bind_eq_some_iff.1 h
    have e1 := app_grow h1
    have e2 := apps_grow h2
    simp only [grow] at e1 ⊢
    omega
theorem grow_le : ∀ l : List Op4, -(l.length : Int) ≤ grow l ∧ grow l ≤ l.length
  | [] => by simp [grow]
  | o :: l => by
    have := grow_le l
    simp only [grow, List.length_cons]
    split <;> (try split) <;> omega
/-- c's inserts in a list. -/
def insN (c : Int) : List Op4 → Nat
  | [] => 0
  | o :: l => (if o.s = c ∧ o.k = 1 then 1 else 0) + insN c l
theorem insN_append (c : Int) : ∀ l m : List Op4, insN c (l ++ m) = insN c l + insN c m
  | [], m => by simp [insN]
  | o :: l, m => by simp only [List.cons_append, insN, insN_append c l m]; omega
theorem insN_le_own (c : Int) : ∀ l : List Op4, insN c l ≤ ownN c l
  | [] => Nat.le_refl _
  | o :: l => by
    have := insN_le_own c l
    simp only [insN, ownN]
    repeat' split
    all_goals omega
theorem insN_le_len (c : Int) : ∀ l : List Op4, insN c l ≤ l.length
  | [] => Nat.le_refl _
  | o :: l => by
    have := insN_le_len c l
    simp only [insN, List.length_cons]
    split <;> omega
theorem ownN_mono (c : Int) (l : List Op4) {i j : Nat} (h : i ≤ j) : ownN c (l.take i) ≤ ownN c (l.take j) := by
  obtain ⟨k, rfl⟩ : ∃ k, j = i + k := ⟨j - i, by omega⟩
  have e : l.take (i + k) = l.take i ++ (l.drop i).take k := List.take_add
  rw [e, ownN_append]; omega

/-- Turning keeps inserts inserts. -/
theorem turn_ins {a b : Op4} (ha : Wf a) (hb : Wf b) : ((turn a b).1.k = 1 ↔ a.k = 1) ∧ ((turn a b).2.k = 1 ↔ b.k = 1) := by
  obtain ⟨ak, ap, ab, as1⟩ := a
  obtain ⟨bk, bp, bb, bs⟩ := b
  have ha1 := ha.kind
  have hb1 := hb.kind
  simp only at ha1 hb1
  unfold turn
  simp only
  repeat' split
  all_goals (refine ⟨?_, ?_⟩ <;> first | exact Iff.rfl | (constructor <;> intro h <;> simp only at h ⊢ <;> omega))
theorem cross_ins {own : Bool} {c : Int} : ∀ {o : Op4} {l : List Op4}, Own own c o → (∀ x ∈ l, Own (!own) c x) → ((cross o l).1.k = 1 ↔ o.k = 1)
  | o, [], _, _ => Iff.rfl
  | o, x :: l, ho, hl => by
    have hx := hl x (by simp)
    have h := own_turn ho hx
    rw [cross_cons]
    exact (cross_ins h.1 (fun y hy => hl y (by simp [hy]))).trans (turn_ins ho.1 hx.1).1
theorem cross_s (o : Op4) : ∀ l : List Op4, (cross o l).1.s = o.s
  | [] => rfl
  | x :: l => by rw [cross_cons]; exact (cross_s (turn o x).1 l).trans (turn_site o x).1
/-- Turning moves an op by one place at the most. -/
theorem turn_p {a b : Op4} (ha : Wf a) (hb : Wf b) : (turn a b).1.p ≤ a.p + 1 ∧ (turn a b).2.p ≤ b.p + 1 := by
  obtain ⟨ak, ap, ab, as1⟩ := a
  obtain ⟨bk, bp, bb, bs⟩ := b
  have ha1 := ha.1
  have hb1 := hb.1
  simp only at ha1 hb1
  unfold turn
  simp only
  repeat' split
  all_goals (refine ⟨?_, ?_⟩ <;> simp only <;> omega)
theorem cross_p {own : Bool} {c : Int} : ∀ {o : Op4} {l : List Op4}, Own own c o → (∀ x ∈ l, Own (!own) c x) → ∀ (i : Nat) (z : Op4), (cross o l).2[i]? = some z → ∃ y, l[i]? = some y ∧ z.p ≤ y.p + 1
  | o, [], _, _, i, z, h => by simp [cross_nil] at h
  | o, x :: l, ho, hl, 0, z, h => by
    rw [cross_cons] at h
    simp at h
    subst h
    exact ⟨x, rfl, (turn_p ho.1 (hl x (by simp)).1).2⟩
  | o, x :: l, ho, hl, i + 1, z, h => by
    rw [cross_cons] at h
    simp only [List.getElem?_cons_succ] at h ⊢
    exact cross_p (own_turn ho (hl x (by simp))).1 (fun y hy => hl y (by simp [hy])) i z h
end Go.Proofs.Ytomeaiffpeibhaa
