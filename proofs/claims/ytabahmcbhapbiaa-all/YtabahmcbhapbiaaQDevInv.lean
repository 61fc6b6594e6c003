import Derived.Test.YtabahmcbhapbiaaQDevUp
import Derived.Test.YtabahmcbhapbiaaQMath
namespace Go.Proofs.Ytabahmcbhapbiaa
open Go.RowKit Go.Lib
set_option linter.unusedVariables false

theorem apps_p : ∀ {l : List Op4} {t u : List UInt8}, apps t l = some u → (∀ z ∈ l, Wf z) → ∀ z ∈ l, z.p ≤ (t.length : Int) + l.length
  | [], t, u, _, _, z, hz => by cases hz
  | o :: l, t, u, h, hw, z, hz => by
    simp only [apps] at h
    obtain ⟨v, h1, h2⟩ := Option.bind_eq_some_iff.1 h
    have e1 := app_grow h1
    have e2 := grow_le [o]
    rcases List.mem_cons.1 hz with rfl | hz
    · have := app_p (hw z (by simp)) h1
      simp only [List.length_cons]
      omega
    · have := apps_p h2 (fun y hy => hw y (by simp [hy])) z hz
      simp only [List.length_cons, List.length_nil] at e2 ⊢
      omega
theorem dmsgs_mem (c : Int) : ∀ (K : Nat) (l : List Op4) (x : Op4 × Nat), x ∈ dmsgs c K l → x.1 = noop c ∨ x.1 ∈ l
  | _, [], x, h => by cases h
  | K, z :: l, x, h => by
    simp only [dmsgs] at h
    split at h
    · rcases List.mem_cons.1 h with rfl | h
      · exact Or.inl rfl
      · exact (dmsgs_mem c _ l x h).imp id (fun y => by simp [y])
    · rcases List.mem_cons.1 h with rfl | h
      · exact Or.inr (by simp)
      · exact (dmsgs_mem c _ l x h).imp id (fun y => by simp [y])
theorem bd_of {M : Int} {o : Op4} (h : Wf o) (hp : o.p ≤ M) : Bd M o := ⟨h.kind, h.1, hp⟩
/-- The server's history is short enough to be kept. -/
def Few (m : Moo) : Prop := (m.hist.length + 1) * 48 ≤ 140737488355328
section
variable {first : List UInt8} {m : Moo}
theorem few_len (hF : Few m) : m.hist.length ≤ 2932031007401 := by
  have h : (m.hist.length + 1) * 48 ≤ 140737488355328 := hF
  omega
theorem CliOK.facts {srv : List UInt8} {hist : List Op4} {c : Int} {x : Cli} (h : CliOK first srv hist c x) : x.tc ≤ hist.length ∧ x.hs ≤ hist.length + 20 ∧ x.hc ≤ hist.length ∧ x.ho.length ≤ 20 ∧ x.up.length ≤ 20 ∧ x.tq.length ≤ hist.length ∧ x.ts = hist.length ∧ x.dn.length ≤ hist.length := by
  have h1 := h.tcN
  have h2 : ownN c hist ≤ hist.length := by
    have : ∀ l : List Op4, ownN c l ≤ l.length := fun l => by
      induction l with
      | nil => simp [ownN]
      | cons o l ih => simp only [ownN, List.length_cons]; split <;> omega
    exact this hist
  have h3 := link_len h.link
  rw [prs_len, prs_len] at h3
  have h4 := h.few
  have h5 := h.hok
  have h6 : x.dn.length ≤ hist.length := by
    have := congrArg List.length h5.2.1
    rw [prs_len, dmsgs_len, List.length_drop] at this
    omega
  have h7 := h.tkto
  have h8 := h.hsN
  have h9 := h5.1
  have h10 := h.tsN
  refine ⟨by omega, by omega, h9, h4, by omega, by omega, h10, h6⟩
/-- .. or each queue is. -/
def Few2 (m : Moo) : Prop := m.hist.length ≤ 4398046511000 ∧ ∀ i, i < m.n → ((m.cl i).dn.length + 1) * 48 ≤ 140737488355328
theorem few2 (hI : Inv first m) (hF : Few m) : Few2 m := by
  have hl := few_len hF
  refine ⟨by omega, fun i hi => ?_⟩
  have := (hI.cl i hi).facts
  omega
/-- The op of the next message up may be turned. -/
theorem inv_upBd (hI : Inv first m) (hF : Few2 m) {c : Nat} (hc : c < m.n) {μ : Msg} {r : List Msg} (hu : (m.cl c).up = μ :: r) : Bd 100000000000000 μ.o ∧ ∀ y ∈ (m.cl c).tq, Bd 100000000000000 y := by
  have h := hI.cl c hc
  have hl := link_len h.link
  have hfl := hF.1
  have hf := h.facts
  refine ⟨bd_of (hl.2.2.2.2.2.2.1 (μ.o, μ.came) (by rw [hu]; simp [prs])).1 ?_, fun y hy => bd_of (hl.2.2.2.2.1 y hy).1 ?_⟩
  · have := (h.upB 0 μ (by rw [hu]; rfl)).2.1
    omega
  · obtain ⟨i, hi, rfl⟩ := List.getElem_of_mem hy
    have := h.toP i _ (List.getElem?_eq_getElem hi)
    omega
theorem inv_dnBd (hI : Inv first m) {c : Nat} (hc : c < m.n) {μ : Msg} {r : List Msg} (hd : (m.cl c).dn = μ :: r) : Bd 100000000000000 μ.o ∧ (∀ y ∈ (m.cl c).ho, Bd 100000000000000 y) ∧ Wf (dnO (m.cl c) μ) := by
  have h := hI.cl c hc
  have hlk := link_len h.link
  have ho : Own (!true) (c : Int) μ.o := hlk.2.2.2.2.2.2.2 (μ.o, μ.came) (by rw [hd]; simp [prs])
  refine ⟨bd_of ho.1 ?_, fun y hy => bd_of (hlk.2.2.2.2.2.1 y hy).1 ?_, ?_⟩
  · have hm : (μ.o, μ.came) ∈ dmsgs (c : Int) (m.cl c).hk (m.hist.drop (m.cl c).hc) := by
      rw [← h.hok.2.1, hd]; simp [prs]
    rcases dmsgs_mem _ _ _ _ hm with e | e
    · have : μ.o = noop c := e
      rw [this]
      show (0 : Int) ≤ _
      omega
    · have h9 : μ.o.p ≤ 159 := (hI.hw _ (List.mem_of_mem_drop e)).2.2
      omega
  · obtain ⟨_, _, _, _, b, h5, h6⟩ := h.hok
    have hp := apps_p h6 (fun z hz => (hlk.2.2.2.2.2.1 z hz).1) y hy
    have hg := apps_grow h5
    have hB := hI.hlB _ h.hok.1
    unfold hl at hB
    have := h.few
    omega
  · exact (own_cross (own := false) ho (fun x hx => hlk.2.2.2.2.2.1 x (List.mem_of_mem_drop hx))).1.1
end
section
variable {w w' : World} {mb : Nat} {m : Moo} {L : DLay} {own : Nat → Option Nat} {first : List UInt8}
/-- The op as it is typed by a client. -/
abbrev asOf (o : Op4) (c : Nat) : Op4 := ⟨o.k, o.p, o.b, c⟩
theorem mayT_zero {n len : Nat} {o : Op4} (h : mayT n len o = 0) : rightB o.k o.p o.b o.s = true ∧ o.k ≠ 0 ∧ fitsB n o.k o.p = true ∧ (o.k = 1 → n < 60) ∧ len < 20 := by
  unfold mayT at h
  split at h
  · cases h
  · rename_i h1
    split at h
    · cases h
    · rename_i h2
      split at h
      · cases h
      · rename_i h3
        refine ⟨?_, fun e => h1 (Or.inr (Or.inl e)), ?_, fun e => ?_, by omega⟩
        · cases e : rightB o.k o.p o.b o.s
          · exact absurd (Or.inl e) h1
          · rfl
        · cases e : fitsB n o.k o.p
          · exact absurd (Or.inr (Or.inr e)) h1
          · rfl
        · omega
theorem wf_asOf {o : Op4} (h : rightB o.k o.p o.b o.s = true) {c : Nat} (hc : c < 4) : Wf (asOf o c) := by
  rw [rightB_iff] at h
  refine ⟨?_, ?_, ?_, ?_⟩ <;> simp only <;> omega
theorem app_asOf {t : List UInt8} {o : Op4} (h : rightB o.k o.p o.b o.s = true) (hf : fitsB t.length o.k o.p = true) (c : Nat) : ∃ u, app t (asOf o c) = some u := by
  rw [rightB_iff] at h
  rw [fitsB_iff] at hf
  unfold app
  by_cases e1 : o.k = 1
  · rw [if_pos e1, if_pos (by have := hf.1 e1; show o.p.toNat ≤ _; omega)]; exact ⟨_, rfl⟩
  · rw [if_neg e1]
    by_cases e2 : o.k = 2
    · rw [if_pos e2, if_pos (by have := hf.2 e2; show o.p.toNat < _; omega)]; exact ⟨_, rfl⟩
    · rw [if_neg e2]; exact ⟨_, rfl⟩
theorem devType_inv2 (h : DevM w mb m L own) (hI : Inv first m) (hF : Few2 m) (c : Nat) (hc : c < m.n) (o : Op4) (hm : mayT (m.cl c).text.length (m.cl c).ho.length o = 0) :
    ∃ t, app (m.cl c).text (asOf o c) = some t ∧ Inv first (m.set c (typeC (m.cl c) (asOf o c) t)) ∧
      Calls Try.prog 26 #[.pointer (some ⟨mb, 0, none⟩), .int .i64 (c : Int), .agg #[.int .i64 o.k, .int .i64 o.p, .int .i64 o.b, .int .i64 o.s]] w fun e w' => e = .returned (.int .i64 0) ∧ ∃ own', DevM w' mb (m.set c (typeC (m.cl c) (asOf o c) t)) L own' ∧ DFrm w own w' own' := by
  obtain ⟨h1, h2, h3, h4, h5⟩ := mayT_zero hm
  obtain ⟨t, ht⟩ := app_asOf h1 h3 c
  have hw := wf_asOf h1 (Nat.lt_of_lt_of_le hc hI.n4)
  have hf := (hI.cl c hc).facts
  have hl := hF.1
  exact ⟨t, ht, inv_type hI hc hw rfl ht h5 h4, devType_ok h c o t hc hm ht hw (by have := inv_textLen hI hc; omega) (by omega) (by omega) (by omega)⟩
theorem devDown_inv2 (h : DevM w mb m L own) (hI : Inv first m) (hF : Few2 m) (c : Nat) (hc : c < m.n) (μ : Msg) (r : List Msg) (hd : (m.cl c).dn = μ :: r) :
    ∃ t, app (m.cl c).text (dnO (m.cl c) μ) = some t ∧ Inv first (m.set c (takeC (m.cl c) μ r t)) ∧
      Calls Try.prog 27 #[.pointer (some ⟨mb, 0, none⟩), .int .i64 (c : Int)] w fun e w' => e = .returned (.int .i64 0) ∧ Hid (∃ own', DevM w' mb (m.set c (takeC (m.cl c) μ r t)) L own' ∧ DFrm w own w' own') := by
  obtain ⟨h1, h2, t, h3, h4⟩ := inv_down hI hc hd
  obtain ⟨b1, b2, b3⟩ := inv_dnBd hI hc hd
  have hf := (hI.cl c hc).facts
  have hl := hF.1
  exact ⟨t, h3, h4, devDown_ok h c hc μ r hd h1 h2 (by omega) (by omega) (by omega) b1 b2 t h3 b3 (by have := inv_textLen hI hc; omega)⟩
theorem devUp_inv2 (h : DevM w mb m L own) (hI : Inv first m) (hF : Few2 m) (c : Nat) (hc : c < m.n) (μ : Msg) (r : List Msg) (hu : (m.cl c).up = μ :: r) :
    ∃ t, app m.srv (upO (m.cl c) μ) = some t ∧ Inv first (upM m c μ r t) ∧
      Calls Try.prog 25 #[.pointer (some ⟨mb, 0, none⟩), .int .i64 (c : Int)] w fun e w' => e = .returned (.int .i64 0) ∧ Hid (∃ own', DevM w' mb (upM m c μ r t) L own' ∧ DFrm w own w' own') := by
  obtain ⟨h1, h2, h3, _, _, t, h5, h6⟩ := inv_up hI hc hu
  obtain ⟨b1, b2⟩ := inv_upBd hI hF hc hu
  have hf := (hI.cl c hc).facts
  have hl := hF.1
  refine ⟨t, h5, h6, devUp_ok h c hc μ r hu h1 h2 (by omega) (by omega) b1 b2 (fun i hi => ?_) t h5 h3 (by have := inv_srvLen hI; omega) (by omega)⟩
  have hi2 := (hI.cl i hi).facts
  exact ⟨by omega, by omega, hF.2 i hi⟩
theorem devType_inv (h : DevM w mb m L own) (hI : Inv first m) (hF : Few m) (c : Nat) (hc : c < m.n) (o : Op4) (hm : mayT (m.cl c).text.length (m.cl c).ho.length o = 0) :
    ∃ t, app (m.cl c).text (asOf o c) = some t ∧ Inv first (m.set c (typeC (m.cl c) (asOf o c) t)) ∧
      Calls Try.prog 26 #[.pointer (some ⟨mb, 0, none⟩), .int .i64 (c : Int), .agg #[.int .i64 o.k, .int .i64 o.p, .int .i64 o.b, .int .i64 o.s]] w fun e w' => e = .returned (.int .i64 0) ∧ ∃ own', DevM w' mb (m.set c (typeC (m.cl c) (asOf o c) t)) L own' ∧ DFrm w own w' own' := devType_inv2 h hI (few2 hI hF) c hc o hm
theorem devDown_inv (h : DevM w mb m L own) (hI : Inv first m) (hF : Few m) (c : Nat) (hc : c < m.n) (μ : Msg) (r : List Msg) (hd : (m.cl c).dn = μ :: r) :
    ∃ t, app (m.cl c).text (dnO (m.cl c) μ) = some t ∧ Inv first (m.set c (takeC (m.cl c) μ r t)) ∧
      Calls Try.prog 27 #[.pointer (some ⟨mb, 0, none⟩), .int .i64 (c : Int)] w fun e w' => e = .returned (.int .i64 0) ∧ Hid (∃ own', DevM w' mb (m.set c (takeC (m.cl c) μ r t)) L own' ∧ DFrm w own w' own') := devDown_inv2 h hI (few2 hI hF) c hc μ r hd
theorem devUp_inv (h : DevM w mb m L own) (hI : Inv first m) (hF : Few m) (c : Nat) (hc : c < m.n) (μ : Msg) (r : List Msg) (hu : (m.cl c).up = μ :: r) :
    ∃ t, app m.srv (upO (m.cl c) μ) = some t ∧ Inv first (upM m c μ r t) ∧
      Calls Try.prog 25 #[.pointer (some ⟨mb, 0, none⟩), .int .i64 (c : Int)] w fun e w' => e = .returned (.int .i64 0) ∧ Hid (∃ own', DevM w' mb (upM m c μ r t) L own' ∧ DFrm w own w' own') := devUp_inv2 h hI (few2 hI hF) c hc μ r hu
end
end Go.Proofs.Ytabahmcbhapbiaa
