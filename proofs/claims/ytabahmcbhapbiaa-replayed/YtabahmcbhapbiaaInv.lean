import Derived.Test.YtabahmcbhapbiaaMachine
namespace Go.Proofs.Ytabahmcbhapbiaa

/-- The server's length when it had done q ops. -/
def hl (first : List UInt8) (hist : List Op4) (q : Nat) : Int := first.length + grow (hist.take q)
theorem hl_append {first : List UInt8} {hist m : List Op4} {q : Nat} (h : q ≤ hist.length) : hl first (hist ++ m) q = hl first hist q := by
  unfold hl; rw [List.take_append_of_le_length h]

/-- How a client stands. -/
structure CliOK (first : List UInt8) (srv : List UInt8) (hist : List Op4) (c : Int) (x : Cli) : Prop where
  link : Link true c srv x.text x.tk x.tq x.hk x.ho x.hc x.tc (prs x.up) (prs x.dn)
  hok : HistOK c first hist x.hc x.hk x.ho x.tc (prs x.dn) x.text
  tsN : x.ts = hist.length
  tkto : x.tk + x.tq.length = hist.length
  hsN : x.hs = x.tc + x.up.length
  tcN : x.tc = ownN c hist
  few : x.ho.length ≤ 20
  budget : ∀ q, q ≤ hist.length → (∀ q', q < q' → q' ≤ hist.length → 79 < hl first hist q') → insN c (hist.drop q) + insN c (x.up.map Msg.o) ≤ 20
  toP : ∀ i z, x.tq[i]? = some z → z.p + (ownN c (hist.take (x.tk + i + 1)) : Int) ≤ 159 + (x.tc : Int)
  upB : ∀ i μ, x.up[i]? = some μ → x.tc + i + 1 ≤ ownN c (hist.take μ.came) + 20 ∧ μ.o.p ≤ 179 ∧ μ.came ≤ hist.length
  tkB : x.tc ≤ ownN c (hist.take x.tk) + 20

structure Inv (first : List UInt8) (m : Moo) : Prop where
  n1 : 1 ≤ m.n
  n4 : m.n ≤ 4
  f60 : first.length ≤ 60
  srv : apps first m.hist = some m.srv
  hw : ∀ z ∈ m.hist, Wf z ∧ z.s < m.n ∧ z.p ≤ 159
  hlB : ∀ q, q ≤ m.hist.length → hl first m.hist q ≤ 159
  cl : ∀ c : Nat, c < m.n → CliOK first m.srv m.hist c (m.cl c)

theorem link_len {own : Bool} {c : Int} {S C : List UInt8} {Ks : Nat} {Os : List Op4} {Kc : Nat} {Oc : List Op4} {B A : Nat} {U D : List (Op4 × Nat)}
    (h : Link own c S C Ks Os Kc Oc B A U D) : Kc ≤ A ∧ Oc.length = (A - Kc) + U.length ∧ Ks ≤ B ∧ Os.length = (B - Ks) + D.length ∧ (∀ o ∈ Os, Own (!own) c o) ∧ (∀ o ∈ Oc, Own own c o) ∧ (∀ m ∈ U, Own own c m.1) ∧ (∀ m ∈ D, Own (!own) c m.1) := by
  obtain ⟨L1s, Vs, L1c, Vc, h1, h2, h3, h4, h5, h6, h7, h8, _, h11, h12⟩ := h
  have e1 := chain_len h11
  have e2 := chain_len h12
  refine ⟨by omega, by rw [h2, List.length_append]; omega, by omega, by rw [h1, List.length_append]; omega, h5, h6, h7, h8⟩

theorem CliOK.textLen {first srv : List UInt8} {hist : List Op4} {c : Int} {x : Cli} (h : CliOK first srv hist c x) :
    x.hc ≤ hist.length ∧ (x.text.length : Int) ≤ hl first hist x.hc + x.ho.length ∧ hl first hist x.hc - x.ho.length ≤ x.text.length := by
  obtain ⟨h1, _, _, _, hb, h5, h6⟩ := h.hok
  have e1 := apps_grow h5
  have e2 := apps_grow h6
  have e3 := grow_le x.ho
  unfold hl
  refine ⟨h1, ?_, ?_⟩ <;> omega
theorem CliOK.hkN {first srv : List UInt8} {hist : List Op4} {c : Int} {x : Cli} (h : CliOK first srv hist c x) : x.hk = ownN c (hist.take x.hc) := by
  have h3 := h.hok.2.2.1
  have e := h.tcN
  have e2 : ownN c hist = ownN c (hist.take x.hc) + ownN c (hist.drop x.hc) := by rw [← ownN_append, List.take_append_drop]
  omega

theorem prs_snoc (l : List Msg) (μ : Msg) : prs (l ++ [μ]) = prs l ++ [(μ.o, μ.came)] := by simp [prs]
theorem prs_len (l : List Msg) : (prs l).length = l.length := by simp [prs]

theorem drop_own_le (c : Int) (l : List Op4) {i j : Nat} (h : i ≤ j) : ownN c (l.drop j) ≤ ownN c (l.drop i) := by
  obtain ⟨k, rfl⟩ : ∃ k, j = i + k := ⟨j - i, by omega⟩
  have e : l.drop i = (l.drop i).take k ++ l.drop (i + k) := by rw [← List.drop_drop, List.take_append_drop]
  rw [e, ownN_append]; omega

theorem app_p {t u : List UInt8} {o : Op4} (ho : Wf o) (h : app t o = some u) : o.p ≤ t.length := by
  obtain ⟨h0, hk, _⟩ := ho
  rcases hk with ⟨_, hp, _⟩ | ⟨hk, _⟩ | ⟨hk, _⟩
  · omega
  · rw [app_1 hk] at h
    split at h
    · omega
    · cases h
  · rw [app_2 hk] at h
    split at h
    · omega
    · cases h

/-- A client types. -/
theorem cli_type {first srv : List UInt8} {hist : List Op4} {c : Int} {x : Cli} {o : Op4} {t : List UInt8} (h : CliOK first srv hist c x) (hlB : ∀ q, q ≤ hist.length → hl first hist q ≤ 159)
    (ho : Wf o) (hs : o.s = c) (ht : app x.text o = some t) (h20 : x.ho.length < 20) (h60 : o.k = 1 → x.text.length < 60) : CliOK first srv hist c (typeC x o t) := by
  have hl := link_len h.link
  have htl := h.textLen
  have hkN := h.hkN
  have h3 := h.hok.2.2.1
  rw [prs_len] at hl
  refine ⟨?_, hist_type h.hok ht, h.tsN, h.tkto, ?_, h.tcN, ?_, ?_, h.toP, ?_, h.tkB⟩
  · have := link_send h.link ⟨ho, by simpa using hs⟩ ht
    simp only [typeC]
    rw [prs_snoc]
    exact this
  · simp only [typeC, List.length_append, List.length_singleton]
    have := h.hsN
    omega
  · simp only [typeC, List.length_append, List.length_singleton]
    omega
  · intro q hq hcond
    simp only [typeC, List.map_append, List.map_cons, List.map_nil]
    rw [insN_append]
    have hb := h.budget q hq hcond
    by_cases hk : o.k = 1
    · have h60' := h60 hk
      have hle : x.hc ≤ q := by
        rcases Nat.lt_or_ge q x.hc with h' | h'
        · have := hcond x.hc h' htl.1
          omega
        · exact h'
      have a1 := insN_le_own c (hist.drop q)
      have a2 := drop_own_le c hist hle
      have a3 := insN_le_len c (x.up.map Msg.o)
      rw [List.length_map] at a3
      simp only [insN]
      split <;> omega
    · have e : insN c [o] = 0 := by simp [insN, hk]
      omega
  · intro i μ hμ
    simp only [typeC] at hμ ⊢
    by_cases hi : i < x.up.length
    · rw [List.getElem?_append_left hi] at hμ
      exact h.upB i μ hμ
    · rw [List.getElem?_append_right (by omega)] at hμ
      have hi0 : i - x.up.length = 0 := by
        rcases Nat.eq_zero_or_pos (i - x.up.length) with h' | h'
        · exact h'
        · rw [List.getElem?_eq_none (by simp; omega)] at hμ; cases hμ
      rw [hi0] at hμ
      simp at hμ
      subst hμ
      have hp := app_p ho ht
      have hh := hlB x.hc htl.1
      refine ⟨?_, by simp only; omega, htl.1⟩
      simp only
      omega

/-- A message comes to a client. -/
theorem cli_down {first srv : List UInt8} {hist : List Op4} {c : Int} {x : Cli} {μ : Msg} {r : List Msg} (h : CliOK first srv hist c x) (hS : apps first hist = some srv) (hw : ∀ z ∈ hist, Wf z) (hd : x.dn = μ :: r) :
    x.hk ≤ μ.came ∧ μ.came - x.hk ≤ x.ho.length ∧ ∃ t, app x.text (dnO x μ) = some t ∧ CliOK first srv hist c (takeC x μ r t) := by
  have hl := link_len h.link
  have hf := link_flip h.link
  rw [hd] at hf
  obtain ⟨k1, k2, k3, t, k4, k5⟩ := link_take hf
  have hk := h.hok
  rw [hd] at hk
  refine ⟨k1, k2, t, k4, ?_, ?_, h.tsN, h.tkto, h.hsN, h.tcN, ?_, h.budget, h.toP, h.upB, h.tkB⟩
  · have := link_flip k5
    exact this
  · exact hist_down hS hw hl.2.2.2.2.2.1 hk k4
  · simp only [takeC]
    rw [cross_len, List.length_drop]
    have := h.few
    omega

/-- The server did another's op, and told it. -/
theorem cli_other {first srv srv' : List UInt8} {hist : List Op4} {c : Int} {x : Cli} {z : Op4} (h : CliOK first srv hist c x) (hz : Wf z) (hs : z.s ≠ c) (hp : z.p ≤ 159) (ha : app srv z = some srv') :
    CliOK first srv' (hist ++ [z]) c (sendS x z) := by
  have e0 : ownN c (hist ++ [z]) = ownN c hist := by rw [ownN_append]; simp [ownN, hs]
  have hkto := h.tkto
  refine ⟨?_, ?_, ?_, ?_, h.hsN, ?_, h.few, ?_, ?_, ?_, ?_⟩
  · have := link_flip (link_send (link_flip h.link) (o := z) ⟨hz, Or.inl hs⟩ ha)
    simp only [sendS]
    rw [prs_snoc]
    exact this
  · have := hist_other hs h.hok
    simp only [sendS]
    rw [prs_snoc]
    exact this
  · simp [sendS, h.tsN]
  · simp only [sendS, List.length_append, List.length_singleton]; omega
  · rw [e0]; exact h.tcN
  · intro q hq hcond
    by_cases hqn : q ≤ hist.length
    · rw [List.drop_append_of_le_length hqn, insN_append]
      have e : insN c [z] = 0 := by simp [insN, hs]
      have := h.budget q hqn (fun q' h1 h2 => by
        have := hcond q' h1 (by simp; omega)
        rwa [hl_append h2] at this)
      simp only [sendS]
      omega
    · have hq' : (hist ++ [z]).drop q = [] := List.drop_eq_nil_of_le (by simp; omega)
      rw [hq']
      have := h.budget hist.length (Nat.le_refl _) (fun q' h1 h2 => by omega)
      rw [List.drop_length] at this
      exact this
  · intro i y hy
    simp only [sendS] at hy ⊢
    by_cases hi : i < x.tq.length
    · rw [List.getElem?_append_left hi] at hy
      rw [List.take_append_of_le_length (by omega)]
      exact h.toP i y hy
    · rw [List.getElem?_append_right (by omega)] at hy
      have hi0 : i - x.tq.length = 0 := by
        rcases Nat.eq_zero_or_pos (i - x.tq.length) with h' | h'
        · exact h'
        · rw [List.getElem?_eq_none (by simp; omega)] at hy; cases hy
      rw [hi0] at hy
      simp at hy
      subst hy
      rw [List.take_of_length_le (by simp; omega), e0, ← h.tcN]
      omega
  · intro i μ hμ
    obtain ⟨b1, b2, b3⟩ := h.upB i μ hμ
    refine ⟨?_, b2, by simp; omega⟩
    rw [List.take_append_of_le_length b3]; exact b1
  · simp only [sendS]
    rw [List.take_append_of_le_length (by omega)]; exact h.tkB

/-- The server did the client's own op, and told it that it came. -/
theorem cli_own {first srv : List UInt8} {hist : List Op4} {c : Int} {x : Cli} {μ : Msg} {r : List Msg} (h : CliOK first srv hist c x) (hc0 : 0 ≤ c) (hc3 : c ≤ 3) (hu : x.up = μ :: r) :
    x.tk ≤ μ.came ∧ μ.came - x.tk ≤ x.tq.length ∧ Wf (upO x μ) ∧ (upO x μ).s = c ∧ ∃ srv', app srv (upO x μ) = some srv' ∧ CliOK first srv' (hist ++ [upO x μ]) c (sendS (takeS x μ r) (noop c)) := by
  have hl := link_len h.link
  have hk := h.link
  rw [hu] at hk
  have hkk : Link true c srv x.text x.tk x.tq x.hk x.ho x.hc x.tc ((μ.o, μ.came) :: prs r) (prs x.dn) := hk
  obtain ⟨k1, k2, k3, S', k4, k5⟩ := link_take hkk
  have hrun := link_runs hkk h.hok
  have hos : (upO x μ).s = c := k3.2
  have hμ : Own true c μ.o := hl.2.2.2.2.2.2.1 (μ.o, μ.came) (by rw [hu]; simp [prs])
  have hμs : μ.o.s = c := hμ.2
  have e0 : ownN c (hist ++ [upO x μ]) = ownN c hist + 1 := by rw [ownN_append]; simp [ownN, hos]
  have hkto := h.tkto
  have hins : (upO x μ).k = 1 ↔ μ.o.k = 1 := cross_ins hμ (fun y hy => hl.2.2.2.2.1 y (List.mem_of_mem_drop hy))
  have hub0 := h.upB 0 μ (by rw [hu]; rfl)
  refine ⟨k1, k2, k3.1, hos, S', k4, ?_, ?_, ?_, ?_, ?_, ?_, h.few, ?_, ?_, ?_, ?_⟩
  · have := link_flip (link_send (link_flip k5) (o := noop c) (own_noop c hc0 hc3) (app_0 rfl))
    simp only [sendS, takeS]
    rw [prs_snoc]
    exact this
  · have := hist_own hos h.hok hrun
    simp only [sendS, takeS]
    rw [prs_snoc]
    exact this
  · simp [sendS, takeS, h.tsN]
  · simp only [sendS, takeS, List.length_append, List.length_singleton, cross_len, List.length_drop]
    simp only at k1 k2
    omega
  · simp only [sendS, takeS]
    have := h.hsN
    rw [hu] at this
    simp at this
    omega
  · simp only [sendS, takeS]; rw [e0, h.tcN]
  · intro q hq hcond
    simp only [sendS, takeS]
    have hmap : insN c (x.up.map Msg.o) = (if μ.o.k = 1 then 1 else 0) + insN c (r.map Msg.o) := by
      rw [hu]; simp [insN, hμs]
    by_cases hqn : q ≤ hist.length
    · rw [List.drop_append_of_le_length hqn, insN_append]
      have e : insN c [upO x μ] = if μ.o.k = 1 then 1 else 0 := by
        by_cases hk1 : μ.o.k = 1
        · simp [insN, hos, hins.2 hk1, hk1]
        · have : ¬ (upO x μ).k = 1 := fun h' => hk1 (hins.1 h')
          simp [insN, this, hk1]
      have := h.budget q hqn (fun q' h1 h2 => by
        have := hcond q' h1 (by simp; omega)
        rwa [hl_append h2] at this)
      omega
    · have hq' : (hist ++ [upO x μ]).drop q = [] := List.drop_eq_nil_of_le (by simp; omega)
      rw [hq']
      have := h.budget hist.length (Nat.le_refl _) (fun q' h1 h2 => by omega)
      rw [List.drop_length] at this
      simp only [insN] at this ⊢
      omega
  · intro i y hy
    simp only [sendS, takeS] at hy ⊢
    simp only at k1 k2
    by_cases hi : i < (cross μ.o (x.tq.drop (μ.came - x.tk))).2.length
    · rw [List.getElem?_append_left hi] at hy
      rw [cross_len, List.length_drop] at hi
      obtain ⟨y', hy1, hy2⟩ := cross_p hμ (fun y hy => hl.2.2.2.2.1 y (List.mem_of_mem_drop hy)) i y hy
      rw [List.getElem?_drop] at hy1
      have := h.toP _ y' hy1
      rw [List.take_append_of_le_length (by omega), show μ.came + i + 1 = x.tk + (μ.came - x.tk + i) + 1 by omega]
      omega
    · rw [List.getElem?_append_right (by omega)] at hy
      have hi0 : i - (cross μ.o (x.tq.drop (μ.came - x.tk))).2.length = 0 := by
        rcases Nat.eq_zero_or_pos (i - (cross μ.o (x.tq.drop (μ.came - x.tk))).2.length) with h' | h'
        · exact h'
        · rw [List.getElem?_eq_none (by simp only [List.length_singleton]; omega)] at hy; cases hy
      rw [hi0] at hy
      simp at hy
      subst hy
      rw [cross_len, List.length_drop] at hi
      rw [List.take_of_length_le (by simp; omega), e0, h.tcN]
      show (0 : Int) + _ ≤ _
      omega
  · intro i ν hν
    simp only [sendS, takeS] at hν ⊢
    obtain ⟨b1, b2, b3⟩ := h.upB (i + 1) ν (by rw [hu]; exact hν)
    refine ⟨?_, b2, by simp; omega⟩
    rw [List.take_append_of_le_length b3]; omega
  · simp only [sendS, takeS]
    rw [List.take_append_of_le_length hub0.2.2]; omega
end Go.Proofs.Ytabahmcbhapbiaa
namespace Go.Proofs.Ytabahmcbhapbiaa

/-! ### The bound on the server's text -/
def insAll : List Op4 → Nat
  | [] => 0
  | o :: l => (if o.k = 1 then 1 else 0) + insAll l
theorem grow_ins : ∀ l : List Op4, grow l ≤ insAll l
  | [] => by simp [grow, insAll]
  | o :: l => by
    have := grow_ins l
    simp only [grow, insAll]
    split
    · omega
    · split <;> omega
/-- All inserts, client by client. -/
def insSum : Nat → List Op4 → Nat
  | 0, _ => 0
  | n + 1, l => insSum n l + insN n l
theorem insSum_nil : ∀ n : Nat, insSum n [] = 0
  | 0 => rfl
  | n + 1 => by simp [insSum, insSum_nil n, insN]
theorem insSum_cons (o : Op4) (l : List Op4) : ∀ n : Nat, insSum n (o :: l) = (if 0 ≤ o.s ∧ o.s < n ∧ o.k = 1 then 1 else 0) + insSum n l
  | 0 => by
    simp only [insSum]
    rw [if_neg (by omega)]
  | n + 1 => by
    simp only [insSum, insSum_cons o l n, insN]
    repeat' split
    all_goals omega
theorem insAll_sum {n : Nat} : ∀ {l : List Op4}, (∀ z ∈ l, 0 ≤ z.s ∧ z.s < n) → insAll l = insSum n l
  | [], _ => (insSum_nil n).symm
  | o :: l, h => by
    have ho := h o (by simp)
    have ih := insAll_sum (l := l) (fun z hz => h z (by simp [hz]))
    rw [insSum_cons, ← ih]
    simp only [insAll]
    repeat' split
    all_goals omega
theorem insSum_le {l : List Op4} : ∀ {n : Nat}, (∀ c, c < n → insN (c : Nat) l ≤ 20) → insSum n l ≤ 20 * n
  | 0, _ => Nat.le_refl _
  | n + 1, h => by
    have h1 := insSum_le (n := n) (fun c hc => h c (by omega))
    have h2 := h n (by omega)
    simp only [insSum]
    omega

/-- The last time that a number was small. -/
theorem last_small (f : Nat → Int) : ∀ N : Nat, f 0 ≤ 79 → ∃ q, q ≤ N ∧ f q ≤ 79 ∧ ∀ q', q < q' → q' ≤ N → 79 < f q'
  | 0, h => ⟨0, Nat.le_refl _, h, fun q' h1 h2 => by omega⟩
  | N + 1, h => by
    by_cases hN : f (N + 1) ≤ 79
    · exact ⟨N + 1, Nat.le_refl _, hN, fun q' h1 h2 => by omega⟩
    · obtain ⟨q, h1, h2, h3⟩ := last_small f N h
      refine ⟨q, by omega, h2, fun q' h4 h5 => ?_⟩
      rcases Nat.lt_or_ge q' (N + 1) with h6 | h6
      · exact h3 q' h4 (by omega)
      · obtain rfl : q' = N + 1 := by omega
        omega

theorem hl_bound {first srv : List UInt8} {hist : List Op4} {n : Nat} {cl : Nat → Cli} (h60 : first.length ≤ 60) (n4 : n ≤ 4) (hw : ∀ z ∈ hist, 0 ≤ z.s ∧ z.s < n) (hc : ∀ c : Nat, c < n → CliOK first srv hist c (cl c)) :
    hl first hist hist.length ≤ 159 := by
  obtain ⟨q, h1, h2, h3⟩ := last_small (hl first hist) hist.length (by simp [hl, grow]; omega)
  have hs := insSum_le (l := hist.drop q) (n := n) (fun c hcn => by
    have := (hc c hcn).budget q h1 h3
    omega)
  rw [← insAll_sum (fun z hz => hw z (List.mem_of_mem_drop hz))] at hs
  have hg := grow_ins (hist.drop q)
  have e : grow hist = grow (hist.take q) + grow (hist.drop q) := by rw [← grow_append, List.take_append_drop]
  unfold hl at h2 ⊢
  rw [List.take_length, e]
  omega

/-! ### The steps -/
theorem inv_new {n : Nat} {t : List UInt8} (n1 : 1 ≤ n) (n4 : n ≤ 4) (h60 : t.length ≤ 60) : Inv t (newM n t) := by
  refine ⟨n1, n4, h60, rfl, fun z hz => (by cases hz), fun q hq => (by simp [hl, newM, grow]; omega), fun c hc => ?_⟩
  refine ⟨link_init true c t, hist_init c t, rfl, rfl, rfl, rfl, Nat.zero_le _, fun q hq _ => (by simp [newM, newC, insN]), fun i z hz => (by simp [newM, newC] at hz), fun i μ hμ => (by simp [newM, newC] at hμ), Nat.zero_le _⟩

theorem inv_srvLen {first : List UInt8} {m : Moo} (h : Inv first m) : m.srv.length ≤ 159 := by
  have e := apps_grow h.srv
  have := h.hlB m.hist.length (Nat.le_refl _)
  unfold hl at this
  rw [List.take_length] at this
  omega
theorem inv_textLen {first : List UInt8} {m : Moo} (h : Inv first m) {c : Nat} (hc : c < m.n) : (m.cl c).text.length ≤ 179 := by
  have h1 := (h.cl c hc).textLen
  have h2 := h.hlB _ h1.1
  have h3 := (h.cl c hc).few
  omega

theorem inv_type {first : List UInt8} {m : Moo} (h : Inv first m) {c : Nat} (hc : c < m.n) {o : Op4} {t : List UInt8} (ho : Wf o) (hs : o.s = c) (ht : app (m.cl c).text o = some t) (h20 : (m.cl c).ho.length < 20)
    (h60 : o.k = 1 → (m.cl c).text.length < 60) : Inv first (m.set c (typeC (m.cl c) o t)) := by
  refine ⟨h.n1, h.n4, h.f60, h.srv, h.hw, h.hlB, fun i hi => ?_⟩
  show CliOK first m.srv m.hist i (if i = c then typeC (m.cl c) o t else m.cl i)
  by_cases hic : i = c
  · subst hic
    rw [if_pos rfl]
    exact cli_type (h.cl i hi) h.hlB ho hs ht h20 h60
  · rw [if_neg hic]; exact h.cl i hi

theorem inv_down {first : List UInt8} {m : Moo} (h : Inv first m) {c : Nat} (hc : c < m.n) {μ : Msg} {r : List Msg} (hd : (m.cl c).dn = μ :: r) :
    (m.cl c).hk ≤ μ.came ∧ μ.came - (m.cl c).hk ≤ (m.cl c).ho.length ∧ ∃ t, app (m.cl c).text (dnO (m.cl c) μ) = some t ∧ Inv first (m.set c (takeC (m.cl c) μ r t)) := by
  obtain ⟨h1, h2, t, h3, h4⟩ := cli_down (h.cl c hc) h.srv (fun z hz => (h.hw z hz).1) hd
  refine ⟨h1, h2, t, h3, h.n1, h.n4, h.f60, h.srv, h.hw, h.hlB, fun i hi => ?_⟩
  show CliOK first m.srv m.hist i (if i = c then takeC (m.cl c) μ r t else m.cl i)
  by_cases hic : i = c
  · subst hic
    rw [if_pos rfl]; exact h4
  · rw [if_neg hic]; exact h.cl i hi

theorem inv_up {first : List UInt8} {m : Moo} (h : Inv first m) {c : Nat} (hc : c < m.n) {μ : Msg} {r : List Msg} (hu : (m.cl c).up = μ :: r) :
    (m.cl c).tk ≤ μ.came ∧ μ.came - (m.cl c).tk ≤ (m.cl c).tq.length ∧ Wf (upO (m.cl c) μ) ∧ (upO (m.cl c) μ).s = c ∧ (upO (m.cl c) μ).p ≤ 159 ∧ ∃ t, app m.srv (upO (m.cl c) μ) = some t ∧ Inv first (upM m c μ r t) := by
  have n4 := h.n4
  obtain ⟨h1, h2, h3, h4, t, h5, h6⟩ := cli_own (h.cl c hc) (by omega) (by omega) hu
  have hp : (upO (m.cl c) μ).p ≤ 159 := by
    have a := app_p h3 h5
    have b := inv_srvLen h
    omega
  have hcl : ∀ i : Nat, i < m.n → CliOK first t (m.hist ++ [upO (m.cl c) μ]) i ((upM m c μ r t).cl i) := fun i hi => by
    show CliOK first t (m.hist ++ [upO (m.cl c) μ]) i (if i = c then sendS (takeS (m.cl c) μ r) (noop c) else sendS (m.cl i) (upO (m.cl c) μ))
    by_cases hic : i = c
    · subst hic
      rw [if_pos rfl]; exact h6
    · rw [if_neg hic]
      exact cli_other (h.cl i hi) h3 (by rw [h4]; omega) hp h5
  have hw' : ∀ z ∈ m.hist ++ [upO (m.cl c) μ], Wf z ∧ z.s < m.n ∧ z.p ≤ 159 := fun z hz => by
    rcases List.mem_append.1 hz with hz | hz
    · exact h.hw z hz
    · simp at hz; subst hz; exact ⟨h3, by rw [h4]; omega, hp⟩
  refine ⟨h1, h2, h3, h4, hp, t, h5, h.n1, h.n4, h.f60, ?_, hw', fun q hq => ?_, hcl⟩
  · show apps first (m.hist ++ [upO (m.cl c) μ]) = some t
    rw [apps_append, h.srv]
    show (app m.srv (upO (m.cl c) μ)).bind (fun u => apps u []) = some t
    rw [h5]; rfl
  · show hl first (m.hist ++ [upO (m.cl c) μ]) q ≤ 159
    by_cases hqn : q ≤ m.hist.length
    · rw [hl_append hqn]; exact h.hlB q hqn
    · have hq' : q = (m.hist ++ [upO (m.cl c) μ]).length := by
        have : q ≤ (m.hist ++ [upO (m.cl c) μ]).length := hq
        simp at this ⊢; omega
      rw [hq']
      exact hl_bound h.f60 n4 (fun z hz => ⟨(hw' z hz).1.2.2.1, (hw' z hz).2.1⟩) hcl

/-- Nothing is on its way to or from a client: its text is the server's. -/
theorem inv_calm {first : List UInt8} {m : Moo} (h : Inv first m) {c : Nat} (hc : c < m.n) (hu : (m.cl c).up = []) (hd : (m.cl c).dn = []) : (m.cl c).text = m.srv := by
  have hk := (h.cl c hc).link
  rw [hu, hd] at hk
  exact (link_calm hk).symm
end Go.Proofs.Ytabahmcbhapbiaa
