import Derived.Test.YtabahmcbhapbiaaLink
namespace Go.Proofs.Ytabahmcbhapbiaa

/-! ### What the server did, and what of it is on its way to a client -/
def noop (c : Int) : Op4 := ⟨0, 0, 0, c⟩
theorem own_noop (c : Int) (h0 : 0 ≤ c) (h1 : c ≤ 3) : Own false c (noop c) := ⟨⟨Int.le_refl 0, Or.inl ⟨rfl, rfl, rfl⟩, h0, h1⟩, Or.inr rfl⟩
/-- How many of a list are c's own. -/
def ownN (c : Int) : List Op4 → Nat
  | [] => 0
  | z :: l => (if z.s = c then 1 else 0) + ownN c l
theorem ownN_append (c : Int) : ∀ l m : List Op4, ownN c (l ++ m) = ownN c l + ownN c m
  | [], m => by simp [ownN]
  | z :: l, m => by simp [ownN, ownN_append c l m]; omega
/-- The messages to c that tell a list: of its own ops nothing; with each how many of its own had come. -/
def dmsgs (c : Int) : Nat → List Op4 → List (Op4 × Nat)
  | _, [] => []
  | K, z :: l => if z.s = c then (noop c, K + 1) :: dmsgs c (K + 1) l else (z, K) :: dmsgs c K l
theorem dmsgs_snoc (c : Int) (z : Op4) : ∀ (K : Nat) (l : List Op4), dmsgs c K (l ++ [z]) = dmsgs c K l ++ [if z.s = c then (noop c, K + ownN c l + 1) else (z, K + ownN c l)]
  | K, [] => by
    simp only [List.nil_append, dmsgs, ownN, Nat.add_zero]
    split <;> rfl
  | K, y :: l => by
    simp only [List.cons_append, dmsgs, ownN]
    split
    · rw [dmsgs_snoc c z (K + 1) l, List.cons_append, show K + 1 + ownN c l = K + (1 + ownN c l) by omega]
    · rw [dmsgs_snoc c z K l, List.cons_append, Nat.zero_add]
theorem dmsgs_len (c : Int) : ∀ (K : Nat) (l : List Op4), (dmsgs c K l).length = l.length
  | _, [] => rfl
  | K, z :: l => by simp only [dmsgs]; split <;> simp [dmsgs_len]

/-- What is open at c when all of a list has come. -/
def runs (c : Int) : List Op4 → List Op4 → List Op4
  | o, [] => o
  | o, z :: l => if z.s = c then runs c o.tail l else runs c (cross z o).2 l
/-- Each own op of the list is just what c has open for it when it comes. -/
def Pend (c : Int) : List Op4 → List Op4 → Prop
  | _, [] => True
  | o, z :: l => if z.s = c then (∃ tl, o = z :: tl) ∧ Pend c o.tail l else Pend c (cross z o).2 l
theorem pend_snoc_other {c : Int} {z : Op4} (hz : z.s ≠ c) : ∀ {l o : List Op4}, Pend c o l → Pend c o (l ++ [z])
  | [], o, _ => by simp [Pend, hz]
  | y :: l, o, h => by
    simp only [List.cons_append, Pend] at h ⊢
    split at h
    · rw [if_pos (by assumption)]; exact ⟨h.1, pend_snoc_other hz h.2⟩
    · rw [if_neg (by assumption)]; exact pend_snoc_other hz h
theorem pend_snoc_own {c : Int} {z : Op4} (hz : z.s = c) : ∀ {l o : List Op4}, Pend c o l → (∃ tl, runs c o l = z :: tl) → Pend c o (l ++ [z])
  | [], o, _, ht => by simp only [List.nil_append, Pend, if_pos hz]; exact ⟨ht, trivial⟩
  | y :: l, o, h, ht => by
    simp only [List.cons_append, Pend, runs] at h ht ⊢
    split at h
    · rw [if_pos (by assumption)] at ht ⊢; exact ⟨h.1, pend_snoc_own hz h.2 ht⟩
    · rw [if_neg (by assumption)] at ht ⊢; exact pend_snoc_own hz h ht
theorem pend_open {c : Int} (x : Op4) : ∀ {l o : List Op4}, Pend c o l → Pend c (o ++ [x]) l
  | [], o, _ => by simp [Pend]
  | y :: l, o, h => by
    simp only [Pend] at h ⊢
    split at h
    · rename_i hy
      rw [if_pos hy]
      obtain ⟨⟨tl, rfl⟩, h2⟩ := h
      exact ⟨⟨tl ++ [x], rfl⟩, pend_open x h2⟩
    · rename_i hy
      rw [if_neg hy, cross_append]
      exact pend_open _ h

/-- The list L, turned by all of Vs in order. -/
def overs : List Op4 → List Op4 → List Op4
  | [], V => V
  | s :: Vs, V => overs Vs (cross s V).2
theorem overs_nil : ∀ Vs : List Op4, overs Vs [] = []
  | [] => rfl
  | s :: Vs => by show overs Vs (cross s []).2 = []; exact overs_nil Vs
/-- Its first: v over all of Vs. -/
theorem overs_cons {c : Int} : ∀ {Vs : List Op4} {v : Op4} {V : List Op4}, Own true c v → (∀ s ∈ Vs, Own false c s) → ∃ tl, overs Vs (v :: V) = (cross v Vs).1 :: tl
  | [], v, V, _, _ => ⟨V, rfl⟩
  | s :: Vs, v, V, hv, hs => by
    have h := own_turn (own := true) hv (hs s (by simp))
    show ∃ tl, overs Vs (cross s (v :: V)).2 = _
    rw [cross_cons, h.2.2]
    simp only
    rw [cross_cons]
    exact overs_cons h.1 (fun y hy => hs y (by simp [hy]))


theorem runs_over {c : Int} : ∀ {l : List Op4} {K : Nat} {L V Vs : List Op4}, L.length = ownN c l → Chain K L (dmsgs c K l) Vs → runs c (L ++ V) l = overs Vs V
  | [], K, L, V, Vs, hl, h => by
    have e : L = [] := List.length_eq_zero_iff.1 hl
    subst e
    have e2 : Vs = [] := List.length_eq_zero_iff.1 (chain_len h)
    subst e2
    rfl
  | z :: l, K, L, V, Vs, hl, h => by
    simp only [dmsgs] at h
    simp only [ownN] at hl
    split at h
    · rename_i hz
      rw [if_pos hz] at hl
      match L, Vs, h with
      | x :: L', s :: Vs', h =>
        obtain ⟨_, _, h3, h4⟩ := h
        simp only [show K + 1 - K = 1 by omega, List.drop_succ_cons, List.drop_zero] at h3 h4
        rw [cross_none _ _ rfl] at h3 h4
        simp only at h3 h4
        have e := runs_over (V := V) (by simp at hl; omega) h4
        simp only [runs, if_pos hz, List.cons_append, List.tail_cons, overs]
        rw [e, ← h3, cross_none _ _ rfl]
      | [], _, h => simp at hl; omega
      | _ :: _, [], h => cases h
    · rename_i hz
      rw [if_neg hz] at hl
      match Vs, h with
      | s :: Vs', h =>
        obtain ⟨_, _, h3, h4⟩ := h
        simp only [Nat.sub_self, List.drop_zero] at h3 h4
        simp only [runs, if_neg hz, overs]
        rw [cross_append, h3]
        exact runs_over (by rw [cross_len]; simpa using hl) h4
      | [], h => cases h

/-- How a client stands to what the server did: B of it have come; what is on its way tells the rest; its text is the server's text of then, and then its open ops. -/
def HistOK (c : Int) (first : List UInt8) (hist : List Op4) (B K : Nat) (ho : List Op4) (A : Nat) (D : List (Op4 × Nat)) (C : List UInt8) : Prop :=
  B ≤ hist.length ∧ D = dmsgs c K (hist.drop B) ∧ A = K + ownN c (hist.drop B) ∧ Pend c ho (hist.drop B) ∧ ∃ hb, apps first (hist.take B) = some hb ∧ apps hb ho = some C

theorem hist_init (c : Int) (t : List UInt8) : HistOK c t [] 0 0 [] 0 [] t := ⟨Nat.le_refl _, rfl, rfl, trivial, t, rfl, rfl⟩

theorem hist_type {c : Int} {first C C' : List UInt8} {hist ho : List Op4} {B K A : Nat} {D : List (Op4 × Nat)} {o : Op4} (h : HistOK c first hist B K ho A D C) (hC : app C o = some C') :
    HistOK c first hist B K (ho ++ [o]) A D C' := by
  obtain ⟨h1, h2, h3, h4, hb, h5, h6⟩ := h
  refine ⟨h1, h2, h3, pend_open o h4, hb, h5, ?_⟩
  rw [apps_append, h6]
  show (app C o).bind (fun u => apps u []) = some C'
  rw [hC]; rfl

/-- The server did another's op. -/
theorem hist_other {c : Int} {first C : List UInt8} {hist ho : List Op4} {B K A : Nat} {D : List (Op4 × Nat)} {z : Op4} (hz : z.s ≠ c) (h : HistOK c first hist B K ho A D C) :
    HistOK c first (hist ++ [z]) B K ho A (D ++ [(z, A)]) C := by
  obtain ⟨h1, h2, h3, h4, hb, h5, h6⟩ := h
  refine ⟨by simp; omega, ?_, ?_, ?_, hb, ?_, h6⟩
  · rw [List.drop_append_of_le_length h1, dmsgs_snoc, if_neg hz, h2, h3]
  · rw [List.drop_append_of_le_length h1, ownN_append]; simp [ownN, hz]; exact h3
  · rw [List.drop_append_of_le_length h1]; exact pend_snoc_other hz h4
  · rw [List.take_append_of_le_length h1]; exact h5

/-- The server did the client's own op, which has become z. -/
theorem hist_own {c : Int} {first C : List UInt8} {hist ho : List Op4} {B K A : Nat} {D : List (Op4 × Nat)} {z : Op4} (hz : z.s = c) (h : HistOK c first hist B K ho A D C) (hr : ∃ tl, runs c ho (hist.drop B) = z :: tl) :
    HistOK c first (hist ++ [z]) B K ho (A + 1) (D ++ [(noop c, A + 1)]) C := by
  obtain ⟨h1, h2, h3, h4, hb, h5, h6⟩ := h
  refine ⟨by simp; omega, ?_, ?_, ?_, hb, ?_, h6⟩
  · rw [List.drop_append_of_le_length h1, dmsgs_snoc, if_pos hz, h2, h3]
  · rw [List.drop_append_of_le_length h1, ownN_append]; simp [ownN, hz]; omega
  · rw [List.drop_append_of_le_length h1]; exact pend_snoc_own hz h4 hr
  · rw [List.take_append_of_le_length h1]; exact h5

theorem apps_prefix {t u : List UInt8} {l m : List Op4} (h : apps t (l ++ m) = some u) : ∃ v, apps t l = some v ∧ apps v m = some u := by
  rw [apps_append] at h
  exact Option.bind_eq_some_iff.1 h

/-- A message comes to the client. -/
theorem hist_down {c : Int} {first S C C' : List UInt8} {hist ho : List Op4} {B K A : Nat} {D : List (Op4 × Nat)} {m : Op4 × Nat} (hS : apps first hist = some S) (hh : ∀ z ∈ hist, Wf z) (ho' : ∀ x ∈ ho, Own true c x)
    (h : HistOK c first hist B K ho A (m :: D) C) (hC : app C (cross m.1 (ho.drop (m.2 - K))).1 = some C') :
    HistOK c first hist (B + 1) m.2 (cross m.1 (ho.drop (m.2 - K))).2 A D C' := by
  obtain ⟨h1, h2, h3, h4, hb, h5, h6⟩ := h
  have hlt : B < hist.length := by
    have := congrArg List.length h2
    rw [dmsgs_len] at this
    simp at this; omega
  obtain ⟨z, hzz⟩ : ∃ z, hist[B]? = some z := ⟨_, List.getElem?_eq_getElem hlt⟩
  have hd : hist.drop B = z :: hist.drop (B + 1) := by
    rw [List.drop_eq_getElem_cons hlt]
    rw [List.getElem?_eq_getElem hlt] at hzz
    cases hzz; rfl
  have ht : hist.take (B + 1) = hist.take B ++ [z] := by rw [List.take_add_one, hzz]; rfl
  have hzm : z ∈ hist := List.mem_of_getElem? hzz
  obtain ⟨hb', h7, h8⟩ : ∃ hb', app hb z = some hb' ∧ apps first (hist.take (B + 1)) = some hb' := by
    have hp : apps first (hist.take (B + 1) ++ hist.drop (B + 1)) = some S := by rw [List.take_append_drop]; exact hS
    obtain ⟨v, hv1, _⟩ := apps_prefix hp
    rw [ht] at hv1
    obtain ⟨w, hw1, hw2⟩ := apps_prefix hv1
    rw [h5] at hw1
    cases hw1
    simp only [apps] at hw2
    obtain ⟨y, hy1, hy2⟩ := Option.bind_eq_some_iff.1 hw2
    cases hy2
    exact ⟨_, hy1, by rw [ht]; exact hv1⟩
  rw [hd] at h2 h3 h4
  simp only [dmsgs, ownN, Pend] at h2 h3 h4
  by_cases hz : z.s = c
  · rw [if_pos hz] at h2 h3 h4
    obtain ⟨rfl, rfl⟩ := List.cons.inj h2
    obtain ⟨⟨tl, rfl⟩, h4⟩ := h4
    simp only [show K + 1 - K = 1 by omega, List.drop_succ_cons, List.drop_zero] at hC ⊢
    rw [cross_none _ _ rfl] at hC ⊢
    simp only at hC ⊢
    rw [app_0 rfl] at hC
    cases hC
    simp only [apps] at h6
    rw [h7] at h6
    exact ⟨hlt, rfl, by omega, h4, hb', h8, h6⟩
  · rw [if_neg hz] at h2 h3 h4
    obtain ⟨rfl, rfl⟩ := List.cons.inj h2
    simp only [Nat.sub_self, List.drop_zero] at hC ⊢
    obtain ⟨u, h9, h10⟩ := square_path (own := false) (c := c) ⟨hh z hzm, Or.inl hz⟩ ho' h6 h7
    rw [hC] at h9
    cases h9
    exact ⟨hlt, rfl, by omega, h4, hb', h8, h10⟩

/-- The server's own op is what the client has open for it. -/
theorem link_runs {c : Int} {first S C : List UInt8} {Ks : Nat} {Os : List Op4} {Kc : Nat} {Oc : List Op4} {B A : Nat} {U D : List (Op4 × Nat)} {m : Op4 × Nat} {hist : List Op4}
    (h : Link true c S C Ks Os Kc Oc B A (m :: U) D) (hh : HistOK c first hist B Kc Oc A D C) : ∃ tl, runs c Oc (hist.drop B) = (cross m.1 (Os.drop (m.2 - Ks))).1 :: tl := by
  obtain ⟨L1s, Vs, L1c, Vc, h1, h2, h3, h4, h5, h6, h7, h8, _, h11, h12⟩ := h
  obtain ⟨g1, g2, g3, g4, _⟩ := hh
  match Vc, h11 with
  | v :: Vc', h11 =>
    obtain ⟨k1, k2, k3, k4⟩ := h11
    have hl : L1c.length = ownN c (hist.drop B) := by omega
    rw [g2] at h12
    have e := runs_over (V := v :: Vc') hl h12
    rw [← h2] at e
    have hv : Own true c v := h6 v (by rw [h2]; simp)
    have hV : ∀ x ∈ Vs, Own false c x := fun x hx => h5 x (by rw [h1]; simp [hx])
    obtain ⟨tl, htl⟩ := overs_cons (V := Vc') hv hV
    refine ⟨tl, ?_⟩
    rw [e, htl, h1, List.drop_append_of_le_length k2, cross_append, k3]
  | [], h11 => cases h11
end Go.Proofs.Ytabahmcbhapbiaa
