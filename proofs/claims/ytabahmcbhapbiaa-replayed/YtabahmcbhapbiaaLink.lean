import Derived.Test.YtabahmcbhapbiaaSquare
namespace Go.Proofs.Ytabahmcbhapbiaa

/-! ### An op carried over a list of ops, and they over it -/
def cross (o : Op4) : List Op4 → Op4 × List Op4
  | [] => (o, [])
  | x :: l => ((cross (turn o x).1 l).1, (turn o x).2 :: (cross (turn o x).1 l).2)
def apps (t : List UInt8) : List Op4 → Option (List UInt8)
  | [] => some t
  | o :: l => (app t o).bind fun u => apps u l

theorem cross_nil (o : Op4) : cross o [] = (o, []) := rfl
theorem cross_cons (o x : Op4) (l : List Op4) : cross o (x :: l) = ((cross (turn o x).1 l).1, (turn o x).2 :: (cross (turn o x).1 l).2) := rfl
theorem cross_append : ∀ (o : Op4) (l m : List Op4), cross o (l ++ m) = ((cross (cross o l).1 m).1, (cross o l).2 ++ (cross (cross o l).1 m).2)
  | o, [], m => by simp [cross_nil]
  | o, x :: l, m => by
    rw [List.cons_append, cross_cons, cross_append, cross_cons]
    simp
theorem cross_len : ∀ (o : Op4) (l : List Op4), (cross o l).2.length = l.length
  | _, [] => rfl
  | o, x :: l => by rw [cross_cons]; simp [cross_len]
theorem apps_append : ∀ (t : List UInt8) (l m : List Op4), apps t (l ++ m) = (apps t l).bind fun u => apps u m
  | t, [], m => rfl
  | t, o :: l, m => by
    show (app t o).bind (fun u => apps u (l ++ m)) = ((app t o).bind fun u => apps u l).bind fun u => apps u m
    cases app t o with
    | none => rfl
    | some u => exact apps_append u l m

/-- nothing turns nothing. -/
theorem turn_none (o x : Op4) (h : o.k = 0) : turn o x = (o, x) := by unfold turn; rw [if_pos (Or.inl h)]
theorem turn_none' (o x : Op4) (h : x.k = 0) : turn o x = (o, x) := by unfold turn; rw [if_pos (Or.inr h)]
theorem cross_none : ∀ (o : Op4) (l : List Op4), o.k = 0 → cross o l = (o, l)
  | _, [], _ => rfl
  | o, x :: l, h => by rw [cross_cons, turn_none o x h]; simp only; rw [cross_none o l h]

/-- The classes: ops of the client c itself; ops of the others, and nothings. -/
def Own (own : Bool) (c : Int) (o : Op4) : Prop := Wf o ∧ (if own then o.s = c else (o.s ≠ c ∨ o.k = 0))
theorem own_turn {own : Bool} {c : Int} {a b : Op4} (ha : Own own c a) (hb : Own (!own) c b) : Own own c (turn a b).1 ∧ Own (!own) c (turn a b).2 ∧ turn b a = ((turn a b).2, (turn a b).1) := by
  have hw := turn_wf ha.1 hb.1
  have hs := turn_site a b
  obtain ⟨wa, ca⟩ := ha
  obtain ⟨wb, cb⟩ := hb
  by_cases k0 : a.k = 0
  · rw [turn_none a b k0, turn_none' b a k0]
    exact ⟨⟨wa, ca⟩, ⟨wb, cb⟩, rfl⟩
  by_cases k1 : b.k = 0
  · rw [turn_none' a b k1, turn_none b a k1]
    exact ⟨⟨wa, ca⟩, ⟨wb, cb⟩, rfl⟩
  cases own
  · simp [k0] at ca cb
    exact ⟨⟨hw.1, Or.inl (by rw [hs.1]; exact ca)⟩, ⟨hw.2, by simp [hs.2, cb]⟩, turn_swap wa wb (Or.inl (by rw [cb]; exact ca))⟩
  · simp [k1] at ca cb
    exact ⟨⟨hw.1, by simp [hs.1, ca]⟩, ⟨hw.2, Or.inl (by rw [hs.2]; exact cb)⟩, turn_swap wa wb (Or.inl (by rw [ca]; exact fun h => cb h.symm))⟩
theorem own_cross {own : Bool} {c : Int} : ∀ {o : Op4} {l : List Op4}, Own own c o → (∀ x ∈ l, Own (!own) c x) → Own own c (cross o l).1 ∧ ∀ x ∈ (cross o l).2, Own (!own) c x
  | o, [], ho, _ => ⟨ho, fun x hx => by cases hx⟩
  | o, y :: l, ho, hl => by
    have h1 := own_turn ho (hl y (by simp))
    have h2 := own_cross (l := l) h1.1 (fun x hx => hl x (by simp [hx]))
    rw [cross_cons]
    refine ⟨h2.1, fun x hx => ?_⟩
    rcases List.mem_cons.1 hx with rfl | h
    · exact h1.2.1
    · exact h2.2 x h

/-- The square, along a list. -/
theorem square_path {own : Bool} {c : Int} : ∀ {l : List Op4} {o : Op4} {t tl to : List UInt8}, Own own c o → (∀ x ∈ l, Own (!own) c x) → apps t l = some tl → app t o = some to →
    ∃ u, app tl (cross o l).1 = some u ∧ apps to (cross o l).2 = some u
  | [], o, t, tl, to, _, _, h1, h2 => by
    cases h1
    exact ⟨to, h2, rfl⟩
  | x :: l, o, t, tl, to, ho, hl, h1, h2 => by
    have hx := hl x (by simp)
    simp only [apps] at h1
    obtain ⟨tx, h3, h4⟩ := Option.bind_eq_some_iff.1 h1
    obtain ⟨u, h5, h6⟩ := square ho.1 hx.1 h2 h3
    have h7 := own_turn ho hx
    obtain ⟨v, h8, h9⟩ := square_path (l := l) h7.1 (fun y hy => hl y (by simp [hy])) h4 h6
    refine ⟨v, h8, ?_⟩
    rw [cross_cons]
    simp only [apps]
    rw [h5]
    exact h9

/-! ### Messages on their way -/
/-- Messages (an op, and how many had come), each carried over what is open of the list L (of which the first stands behind number K) becomes the op that the other side has open for it. -/
def Chain : Nat → List Op4 → List (Op4 × Nat) → List Op4 → Prop
  | _, _, [], [] => True
  | K, L, m :: U, v :: V => K ≤ m.2 ∧ m.2 - K ≤ L.length ∧ (cross m.1 (L.drop (m.2 - K))).1 = v ∧ Chain m.2 (cross m.1 (L.drop (m.2 - K))).2 U V
  | _, _, _, _ => False
theorem chain_len : ∀ {K : Nat} {L : List Op4} {U : List (Op4 × Nat)} {V : List Op4}, Chain K L U V → V.length = U.length
  | _, _, [], [], _ => rfl
  | _, _, m :: U, v :: V, h => by simp [chain_len h.2.2.2]
  | _, _, [], _ :: _, h => by cases h
  | _, _, _ :: _, [], h => by cases h
theorem chain_snoc : ∀ {K : Nat} {L : List Op4} {U : List (Op4 × Nat)} {V : List Op4} (o : Op4), Chain K L U V → Chain K L (U ++ [(o, K + L.length)]) (V ++ [o])
  | K, L, [], [], o, _ => by
    refine ⟨by simp, by simp, ?_, ?_⟩
    · simp [cross_nil]
    · simp [Chain]
  | K, L, m :: U, v :: V, o, h => by
    refine ⟨h.1, h.2.1, h.2.2.1, ?_⟩
    have := chain_snoc o h.2.2.2
    rw [cross_len, List.length_drop, show m.2 + (L.length - (m.2 - K)) = K + L.length by have := h.1; have := h.2.1; omega] at this
    exact this
  | _, _, [], _ :: _, _, h => by cases h
  | _, _, _ :: _, [], _, h => by cases h
/-- One op more at the end of what is open: it goes over all that is on its way. -/
theorem chain_other {own : Bool} {c : Int} : ∀ {K : Nat} {L : List Op4} {U : List (Op4 × Nat)} {V : List Op4} {x : Op4}, Own (!own) c x → (∀ y ∈ L, Own (!own) c y) → (∀ m ∈ U, Own own c m.1) →
    Chain K L U V → Chain K (L ++ [x]) U (cross x V).2
  | K, L, [], [], x, _, _, _, _ => by simp [cross_nil, Chain]
  | K, L, m :: U, v :: V, x, hx, hL, hU, h => by
    obtain ⟨h1, h2, h3, h4⟩ := h
    have hm := hU m (by simp)
    have hc := own_cross (l := L.drop (m.2 - K)) hm (fun y hy => hL y (List.mem_of_mem_drop hy))
    rw [h3] at hc
    have ht := own_turn hc.1 hx
    have e : cross m.1 ((L ++ [x]).drop (m.2 - K)) = ((turn v x).1, (cross m.1 (L.drop (m.2 - K))).2 ++ [(turn v x).2]) := by
      rw [List.drop_append_of_le_length h2, cross_append, h3]
      simp [cross_cons, cross_nil]
    rw [cross_cons, ht.2.2]
    refine ⟨h1, by simp; omega, by rw [e], ?_⟩
    rw [e]
    exact chain_other ht.2.1 hc.2 (fun y hy => hU y (by simp [hy])) h4
  | _, _, [], _ :: _, _, _, _, _, h => by cases h
  | _, _, _ :: _, [], _, _, _, _, h => by cases h

/-! ### A client and the server -/
/-- Between two sides: a text S (of the one whose ops are of the class 'not own': the server) and C; what each has open (Os, Oc), of which it is known that Ks, Kc came; how many came (B: to C's side, A: to S's side); what is on its way (U to S's side, D to C's side).
  Both texts come of one text T: by those open ops that have not come to the other side. -/
def Link (own : Bool) (c : Int) (S C : List UInt8) (Ks : Nat) (Os : List Op4) (Kc : Nat) (Oc : List Op4) (B A : Nat) (U D : List (Op4 × Nat)) : Prop :=
  ∃ L1s Vs L1c Vc : List Op4, Os = L1s ++ Vs ∧ Oc = L1c ++ Vc ∧ B = Ks + L1s.length ∧ A = Kc + L1c.length ∧
    (∀ o ∈ Os, Own (!own) c o) ∧ (∀ o ∈ Oc, Own own c o) ∧ (∀ m ∈ U, Own own c m.1) ∧ (∀ m ∈ D, Own (!own) c m.1) ∧
    (∃ T, apps T Vs = some S ∧ apps T Vc = some C) ∧ Chain Ks L1s U Vc ∧ Chain Kc L1c D Vs

theorem link_flip {own : Bool} {c : Int} {S C : List UInt8} {Ks : Nat} {Os : List Op4} {Kc : Nat} {Oc : List Op4} {B A : Nat} {U D : List (Op4 × Nat)}
    (h : Link own c S C Ks Os Kc Oc B A U D) : Link (!own) c C S Kc Oc Ks Os A B D U := by
  obtain ⟨L1s, Vs, L1c, Vc, h1, h2, h3, h4, h5, h6, h7, h8, ⟨T, h9, h10⟩, h11, h12⟩ := h
  refine ⟨L1c, Vc, L1s, Vs, h2, h1, h4, h3, ?_, h5, h8, ?_, ⟨T, h10, h9⟩, h12, h11⟩
  · rw [Bool.not_not]; exact h6
  · rw [Bool.not_not]; exact h7

theorem link_init (own : Bool) (c : Int) (t : List UInt8) : Link own c t t 0 [] 0 [] 0 0 [] [] :=
  ⟨[], [], [], [], rfl, rfl, rfl, rfl, fun o ho => (by cases ho), fun o ho => (by cases ho), fun o ho => (by cases ho), fun o ho => (by cases ho), ⟨t, rfl, rfl⟩, trivial, trivial⟩

/-- The one side does an op of its own, and sends it. -/
theorem link_send {own : Bool} {c : Int} {S C C' : List UInt8} {Ks : Nat} {Os : List Op4} {Kc : Nat} {Oc : List Op4} {B A : Nat} {U D : List (Op4 × Nat)} {o : Op4}
    (h : Link own c S C Ks Os Kc Oc B A U D) (ho : Own own c o) (hC : app C o = some C') : Link own c S C' Ks Os Kc (Oc ++ [o]) B A (U ++ [(o, B)]) D := by
  obtain ⟨L1s, Vs, L1c, Vc, h1, h2, h3, h4, h5, h6, h7, h8, ⟨T, h9, h10⟩, h11, h12⟩ := h
  refine ⟨L1s, Vs, L1c, Vc ++ [o], h1, by rw [h2, List.append_assoc], h3, h4, h5, ?_, ?_, h8, ⟨T, h9, ?_⟩, ?_, h12⟩
  · intro x hx
    rcases List.mem_append.1 hx with h | h
    · exact h6 x h
    · simp at h; subst h; exact ho
  · intro x hx
    rcases List.mem_append.1 hx with h | h
    · exact h7 x h
    · simp at h; subst h; exact ho
  · rw [apps_append, h10]
    show (app C o).bind (fun u => apps u []) = some C'
    rw [hC]; rfl
  · rw [h3]; exact chain_snoc o h11

/-- The first message of U comes to S's side. -/
theorem link_take {own : Bool} {c : Int} {S C : List UInt8} {Ks : Nat} {Os : List Op4} {Kc : Nat} {Oc : List Op4} {B A : Nat} {U D : List (Op4 × Nat)} {m : Op4 × Nat}
    (h : Link own c S C Ks Os Kc Oc B A (m :: U) D) :
    Ks ≤ m.2 ∧ m.2 - Ks ≤ Os.length ∧ Own own c (cross m.1 (Os.drop (m.2 - Ks))).1 ∧ ∃ S', app S (cross m.1 (Os.drop (m.2 - Ks))).1 = some S' ∧
      Link own c S' C m.2 (cross m.1 (Os.drop (m.2 - Ks))).2 Kc Oc B (A + 1) U D := by
  obtain ⟨L1s, Vs, L1c, Vc, h1, h2, h3, h4, h5, h6, h7, h8, ⟨T, h9, h10⟩, h11, h12⟩ := h
  match Vc, h11 with
  | v :: Vc', h11 =>
    obtain ⟨k1, k2, k3, k4⟩ := h11
    have hm := h7 m (by simp)
    have hL : ∀ x ∈ L1s, Own (!own) c x := fun x hx => h5 x (by rw [h1]; simp [hx])
    have hV : ∀ x ∈ Vs, Own (!own) c x := fun x hx => h5 x (by rw [h1]; simp [hx])
    have hv : Own own c v := h6 v (by rw [h2]; simp)
    have hM := own_cross (l := L1s.drop (m.2 - Ks)) hm (fun x hx => hL x (List.mem_of_mem_drop hx))
    have e : cross m.1 (Os.drop (m.2 - Ks)) = ((cross v Vs).1, (cross m.1 (L1s.drop (m.2 - Ks))).2 ++ (cross v Vs).2) := by
      rw [h1, List.drop_append_of_le_length k2, cross_append, k3]
    have hW := own_cross hv hV
    simp only [apps] at h10
    obtain ⟨T', h13, h14⟩ := Option.bind_eq_some_iff.1 h10
    obtain ⟨S', h15, h16⟩ := square_path hv hV h9 h13
    refine ⟨k1, by rw [h1]; simp; omega, by rw [e]; exact hW.1, S', by rw [e]; exact h15, ?_⟩
    rw [e]
    refine ⟨(cross m.1 (L1s.drop (m.2 - Ks))).2, (cross v Vs).2, L1c ++ [v], Vc', rfl, by rw [h2]; simp, ?_, by rw [h4]; simp; omega, ?_, h6, fun x hx => h7 x (by simp [hx]), h8, ⟨T', h16, h14⟩, k4, ?_⟩
    · rw [h3, cross_len, List.length_drop]; omega
    · intro x hx
      rcases List.mem_append.1 hx with h | h
      · exact hM.2 x h
      · exact hW.2 x h
    · have := chain_other (own := !own) (c := c) (x := v) (by rw [Bool.not_not]; exact hv) (fun y hy => by rw [Bool.not_not]; exact h6 y (by rw [h2]; simp [hy])) h8 h12
      exact this
  | [], h11 => cases h11

/-- Nothing is on its way: the texts are the same. -/
theorem link_calm {own : Bool} {c : Int} {S C : List UInt8} {Ks : Nat} {Os : List Op4} {Kc : Nat} {Oc : List Op4} {B A : Nat} (h : Link own c S C Ks Os Kc Oc B A [] []) : S = C := by
  obtain ⟨L1s, Vs, L1c, Vc, _, _, _, _, _, _, _, _, ⟨T, h9, h10⟩, h11, h12⟩ := h
  have e1 : Vc = [] := List.length_eq_zero_iff.1 (chain_len h11)
  have e2 : Vs = [] := List.length_eq_zero_iff.1 (chain_len h12)
  subst e1; subst e2
  cases h9; cases h10
  rfl
end Go.Proofs.Ytabahmcbhapbiaa
