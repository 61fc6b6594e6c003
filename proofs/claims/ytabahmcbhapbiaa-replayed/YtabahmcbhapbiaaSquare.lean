import Derived.Test.YtabahmcbhapbiaaTurnMath
namespace Go.Proofs.Ytabahmcbhapbiaa

/-! ### Texts: a byte put in, a byte taken away -/
def ins (t : List UInt8) (i : Nat) (x : UInt8) : List UInt8 := t.take i ++ x :: t.drop i
def del (t : List UInt8) (i : Nat) : List UInt8 := t.take i ++ t.drop (i + 1)

theorem ins_len (t : List UInt8) (i : Nat) (x : UInt8) (h : i ≤ t.length) : (ins t i x).length = t.length + 1 := by
  simp [ins]; omega
theorem del_len (t : List UInt8) (i : Nat) (h : i < t.length) : (del t i).length = t.length - 1 := by
  simp [del]; omega
theorem ins_get (t : List UInt8) (i : Nat) (x : UInt8) (h : i ≤ t.length) (j : Nat) : (ins t i x)[j]? = if j < i then t[j]? else if j = i then some x else t[j - 1]? := by
  have hl : (t.take i).length = i := by simp; omega
  unfold ins
  by_cases h1 : j < i
  · rw [if_pos h1, List.getElem?_append_left (by omega), List.getElem?_take, if_pos h1]
  · rw [if_neg h1, List.getElem?_append_right (by omega), hl]
    by_cases h2 : j = i
    · subst h2; simp
    · rw [if_neg h2]
      obtain ⟨k, hk⟩ : ∃ k, j - i = k + 1 := ⟨j - i - 1, by omega⟩
      rw [hk, List.getElem?_cons_succ, List.getElem?_drop]
      congr 1; omega
theorem del_get (t : List UInt8) (i : Nat) (h : i < t.length) (j : Nat) : (del t i)[j]? = if j < i then t[j]? else t[j + 1]? := by
  have hl : (t.take i).length = i := by simp; omega
  unfold del
  by_cases h1 : j < i
  · rw [if_pos h1, List.getElem?_append_left (by omega), List.getElem?_take, if_pos h1]
  · rw [if_neg h1, List.getElem?_append_right (by omega), hl, List.getElem?_drop]
    congr 1; omega

/-- Two inserts, the first ahead of the second. -/
theorem ins_ins (t : List UInt8) (i j : Nat) (x y : UInt8) (hij : i ≤ j) (hj : j ≤ t.length) : ins (ins t i x) (j + 1) y = ins (ins t j y) i x := by
  have h1 := ins_len t i x (by omega)
  have h2 := ins_len t j y hj
  apply List.ext_getElem?
  intro k
  rw [ins_get _ _ _ (by omega), ins_get _ _ _ (by omega), ins_get _ _ _ (by omega), ins_get _ _ _ (by omega)]
  repeat' split
  all_goals first | rfl | omega | (congr 1; omega) | (exfalso; omega) | skip
  all_goals first | rfl | (rw [ins_get _ _ _ (by omega)]; repeat' split) | skip
  all_goals first | rfl | omega | (congr 1; omega) | (exfalso; omega)

theorem ins_del_le (t : List UInt8) (i j : Nat) (x : UInt8) (hij : i ≤ j) (hj : j < t.length) : del (ins t i x) (j + 1) = ins (del t j) i x := by
  have h1 := ins_len t i x (by omega)
  have h2 := del_len t j hj
  apply List.ext_getElem?
  intro k
  rw [del_get _ _ (by omega), ins_get _ _ _ (by omega), ins_get _ _ _ (by omega), ins_get _ _ _ (by omega), del_get _ _ hj, del_get _ _ hj]
  repeat' split
  all_goals first | rfl | omega | (congr 1; omega)
theorem ins_del_gt (t : List UInt8) (i j : Nat) (x : UInt8) (hij : j < i) (hi : i ≤ t.length) : del (ins t i x) j = ins (del t j) (i - 1) x := by
  have h1 := ins_len t i x hi
  have h2 := del_len t j (by omega)
  apply List.ext_getElem?
  intro k
  rw [del_get _ _ (by omega), ins_get _ _ _ hi, ins_get _ _ _ hi, ins_get _ _ _ (by omega), del_get _ _ (by omega), del_get _ _ (by omega)]
  repeat' split
  all_goals first | rfl | omega | (congr 1; omega)
theorem del_del (t : List UInt8) (i j : Nat) (hij : i < j) (hj : j < t.length) : del (del t i) (j - 1) = del (del t j) i := by
  have h1 := del_len t i (by omega)
  have h2 := del_len t j hj
  apply List.ext_getElem?
  intro k
  rw [del_get _ _ (by omega), del_get _ _ (by omega), del_get _ _ (by omega), del_get _ _ (by omega), del_get _ _ (by omega), del_get _ _ (by omega)]
  repeat' split
  all_goals first | rfl | omega | (congr 1; omega)

/-! ### Ops on texts -/
/-- What an op makes of a text that it fits. -/
def app (t : List UInt8) (o : Op4) : Option (List UInt8) :=
  if o.k = 1 then if o.p.toNat ≤ t.length then some (ins t o.p.toNat (UInt8.ofNat o.b.toNat)) else none
  else if o.k = 2 then if o.p.toNat < t.length then some (del t o.p.toNat) else none
  else some t
/-- An op as above, whatever its At. -/
def Wf (o : Op4) : Prop := 0 ≤ o.p ∧ ((o.k = 0 ∧ o.p = 0 ∧ o.b = 0) ∨ (o.k = 1 ∧ 0 ≤ o.b ∧ o.b ≤ 255) ∨ (o.k = 2 ∧ o.b = 0)) ∧ 0 ≤ o.s ∧ o.s ≤ 3
theorem Wf.kind {o : Op4} (h : Wf o) : o.k = 0 ∨ o.k = 1 ∨ o.k = 2 := by
  obtain ⟨_, h, _⟩ := h; omega

theorem app_0 {t : List UInt8} {o : Op4} (h : o.k = 0) : app t o = some t := by simp [app, h]
theorem app_1 {t : List UInt8} {o : Op4} (h : o.k = 1) : app t o = if o.p.toNat ≤ t.length then some (ins t o.p.toNat (UInt8.ofNat o.b.toNat)) else none := by simp [app, h]
theorem app_2 {t : List UInt8} {o : Op4} (h : o.k = 2) : app t o = if o.p.toNat < t.length then some (del t o.p.toNat) else none := by simp [app, h]

theorem turn_wf {a b : Op4} (ha : Wf a) (hb : Wf b) : Wf (turn a b).1 ∧ Wf (turn a b).2 := by
  obtain ⟨ak, ap, ab, as1⟩ := a
  obtain ⟨bk, bp, bb, bs⟩ := b
  obtain ⟨ha2, ha1, ha3, ha4⟩ := ha
  obtain ⟨hb2, hb1, hb3, hb4⟩ := hb
  simp only at ha1 ha2 ha3 ha4 hb1 hb2 hb3 hb4
  unfold turn
  simp only
  repeat' split
  all_goals (refine ⟨⟨?_, ?_, ?_, ?_⟩, ⟨?_, ?_, ?_, ?_⟩⟩ <;> simp only <;> first | omega | simp)
theorem turn_site (a b : Op4) : (turn a b).1.s = a.s ∧ (turn a b).2.s = b.s := by
  unfold turn
  repeat' split
  all_goals exact ⟨rfl, rfl⟩

/-- SQUARE: a and then b' makes of a text what b and then a' makes. -/
theorem square {t ta tb : List UInt8} {a b : Op4} (ha : Wf a) (hb : Wf b) (h1 : app t a = some ta) (h2 : app t b = some tb) :
    ∃ u, app ta (turn a b).2 = some u ∧ app tb (turn a b).1 = some u := by
  obtain ⟨ak, ap, ab, as1⟩ := a
  obtain ⟨bk, bp, bb, bs⟩ := b
  have ha1 := ha.kind
  have hb1 := hb.kind
  have ha2 := ha.1
  have hb2 := hb.1
  clear ha hb
  simp only at ha1 ha2 hb1 hb2
  obtain ⟨i, rfl⟩ := Int.eq_ofNat_of_zero_le ha2
  obtain ⟨j, rfl⟩ := Int.eq_ofNat_of_zero_le hb2
  rcases ha1 with rfl | rfl | rfl
  · rw [turn_0x]
    rw [app_0 rfl] at h1
    cases h1
    exact ⟨tb, h2, by rw [app_0 rfl]⟩
  · rcases hb1 with rfl | rfl | rfl
    · rw [turn_x0]
      rw [app_0 rfl] at h2
      cases h2
      exact ⟨ta, by rw [app_0 rfl], h1⟩
    · rw [app_1 rfl] at h1 h2
      simp only [Int.toNat_natCast] at h1 h2
      split at h1
      · split at h2
        · rename_i hi hj
          cases h1; cases h2
          by_cases h : (i : Int) < j ∨ ((i : Int) = j ∧ as1 ≤ bs)
          · rw [turn_ii_le _ _ _ _ _ _ h]
            refine ⟨ins (ins t j (UInt8.ofNat bb.toNat)) i (UInt8.ofNat ab.toNat), ?_, ?_⟩
            · rw [app_1 rfl, if_pos (by rw [ins_len _ _ _ hi]; simp; omega)]
              simp only
              rw [show ((j : Int) + 1).toNat = j + 1 by omega, ins_ins _ _ _ _ _ (by omega) hj]
            · rw [app_1 rfl, if_pos (by rw [ins_len _ _ _ hj]; simp; omega)]
              simp only [Int.toNat_natCast]
          · rw [turn_ii_gt _ _ _ _ _ _ h]
            refine ⟨ins (ins t i (UInt8.ofNat ab.toNat)) j (UInt8.ofNat bb.toNat), ?_, ?_⟩
            · rw [app_1 rfl, if_pos (by rw [ins_len _ _ _ hi]; simp; omega)]
              simp only [Int.toNat_natCast]
            · rw [app_1 rfl, if_pos (by rw [ins_len _ _ _ hj]; simp; omega)]
              simp only
              rw [show ((i : Int) + 1).toNat = i + 1 by omega, ins_ins _ _ _ _ _ (by omega) hi]
        · cases h2
      · cases h1
    · rw [app_1 rfl] at h1
      rw [app_2 rfl] at h2
      simp only [Int.toNat_natCast] at h1 h2
      split at h1
      · split at h2
        · rename_i hi hj
          cases h1; cases h2
          by_cases h : (i : Int) ≤ j
          · rw [turn_id_le _ _ _ _ _ _ h]
            refine ⟨ins (del t j) i (UInt8.ofNat ab.toNat), ?_, ?_⟩
            · rw [app_2 rfl, if_pos (by rw [ins_len _ _ _ hi]; simp; omega)]
              simp only
              rw [show ((j : Int) + 1).toNat = j + 1 by omega, ins_del_le _ _ _ _ (by omega) hj]
            · rw [app_1 rfl, if_pos (by rw [del_len _ _ hj]; simp; omega)]
              simp only [Int.toNat_natCast]
          · rw [turn_id_gt _ _ _ _ _ _ (by omega)]
            refine ⟨ins (del t j) (i - 1) (UInt8.ofNat ab.toNat), ?_, ?_⟩
            · rw [app_2 rfl, if_pos (by rw [ins_len _ _ _ hi]; simp; omega)]
              simp only [Int.toNat_natCast]
              rw [ins_del_gt _ _ _ _ (by omega) hi]
            · rw [app_1 rfl, if_pos (by rw [del_len _ _ hj]; simp; omega)]
              simp only
              rw [show ((i : Int) - 1).toNat = i - 1 by omega]
        · cases h2
      · cases h1
  · rcases hb1 with rfl | rfl | rfl
    · rw [turn_x0]
      rw [app_0 rfl] at h2
      cases h2
      exact ⟨ta, by rw [app_0 rfl], h1⟩
    · rw [app_2 rfl] at h1
      rw [app_1 rfl] at h2
      simp only [Int.toNat_natCast] at h1 h2
      split at h1
      · split at h2
        · rename_i hi hj
          cases h1; cases h2
          by_cases h : (j : Int) ≤ i
          · rw [turn_di_le _ _ _ _ _ _ h]
            refine ⟨ins (del t i) j (UInt8.ofNat bb.toNat), ?_, ?_⟩
            · rw [app_1 rfl, if_pos (by rw [del_len _ _ hi]; simp; omega)]
              simp only [Int.toNat_natCast]
            · rw [app_2 rfl, if_pos (by rw [ins_len _ _ _ hj]; simp; omega)]
              simp only
              rw [show ((i : Int) + 1).toNat = i + 1 by omega, ins_del_le _ _ _ _ (by omega) hi]
          · rw [turn_di_gt _ _ _ _ _ _ (by omega)]
            refine ⟨ins (del t i) (j - 1) (UInt8.ofNat bb.toNat), ?_, ?_⟩
            · rw [app_1 rfl, if_pos (by rw [del_len _ _ hi]; simp; omega)]
              simp only
              rw [show ((j : Int) - 1).toNat = j - 1 by omega]
            · rw [app_2 rfl, if_pos (by rw [ins_len _ _ _ hj]; simp; omega)]
              simp only [Int.toNat_natCast]
              rw [ins_del_gt _ _ _ _ (by omega) hj]
        · cases h2
      · cases h1
    · rw [app_2 rfl] at h1 h2
      simp only [Int.toNat_natCast] at h1 h2
      split at h1
      · split at h2
        · rename_i hi hj
          cases h1; cases h2
          by_cases h : (i : Int) < j
          · rw [turn_dd_lt _ _ _ _ _ _ h]
            refine ⟨del (del t j) i, ?_, ?_⟩
            · rw [app_2 rfl, if_pos (by rw [del_len _ _ hi]; simp; omega)]
              simp only
              rw [show ((j : Int) - 1).toNat = j - 1 by omega, del_del _ _ _ (by omega) hj]
            · rw [app_2 rfl, if_pos (by rw [del_len _ _ hj]; simp; omega)]
              simp only [Int.toNat_natCast]
          by_cases he : (i : Int) = j
          · obtain rfl : i = j := by omega
            rw [turn_dd_eq]
            exact ⟨del t i, app_0 rfl, app_0 rfl⟩
          · rw [turn_dd_gt _ _ _ _ _ _ (by omega)]
            refine ⟨del (del t i) j, ?_, ?_⟩
            · rw [app_2 rfl, if_pos (by rw [del_len _ _ hi]; simp; omega)]
              simp only [Int.toNat_natCast]
            · rw [app_2 rfl, if_pos (by rw [del_len _ _ hj]; simp; omega)]
              simp only
              rw [show ((i : Int) - 1).toNat = i - 1 by omega, del_del _ _ _ (by omega) hi]
        · cases h2
      · cases h1

/-- Asked the other way round: the same, for unlike sites, or where one is nothing. -/
theorem turn_swap {a b : Op4} (ha : Wf a) (hb : Wf b) (h : a.s ≠ b.s ∨ a.k = 0 ∨ b.k = 0) : turn b a = ((turn a b).2, (turn a b).1) := by
  obtain ⟨ak, ap, ab, as1⟩ := a
  obtain ⟨bk, bp, bb, bs⟩ := b
  have ha1 := ha.kind
  have hb1 := hb.kind
  clear ha hb
  simp only at ha1 hb1 h
  unfold turn
  simp only
  rcases ha1 with rfl | rfl | rfl <;> rcases hb1 with rfl | rfl | rfl
  all_goals simp at h ⊢
  all_goals (repeat' split)
  all_goals first | rfl | (exfalso; omega) | omega | (simp; omega)
end Go.Proofs.Ytabahmcbhapbiaa
