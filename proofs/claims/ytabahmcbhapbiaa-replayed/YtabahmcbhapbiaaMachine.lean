import Derived.Test.YtabahmcbhapbiaaHist
namespace Go.Proofs.Ytabahmcbhapbiaa

/-! ### The moot, in plain words -/
/-- A message: its op; what SENT and CAME were. -/
structure Msg where
  o : Op4
  sent : Nat
  came : Nat
/-- A client: its text; at the client (h): sent, came, known, open; at the server for it (t): the same; its two queues. -/
structure Cli where
  text : List UInt8
  hs : Nat
  hc : Nat
  hk : Nat
  ho : List Op4
  ts : Nat
  tc : Nat
  tk : Nat
  tq : List Op4
  up : List Msg
  dn : List Msg
structure Moo where
  n : Nat
  srv : List UInt8
  cl : Nat → Cli
  hist : List Op4

def newC (t : List UInt8) : Cli := ⟨t, 0, 0, 0, [], 0, 0, 0, [], [], []⟩
def newM (n : Nat) (t : List UInt8) : Moo := ⟨n, t, fun _ => newC t, []⟩
def Moo.set (m : Moo) (c : Nat) (x : Cli) : Moo := { m with cl := fun i => if i = c then x else m.cl i }
/-- A client types. -/
def typeC (x : Cli) (o : Op4) (t : List UInt8) : Cli := { x with text := t, hs := x.hs + 1, ho := x.ho ++ [o], up := x.up ++ [⟨o, x.hs, x.hc⟩] }
/-- The server sends to a client. -/
def sendS (x : Cli) (z : Op4) : Cli := { x with ts := x.ts + 1, tq := x.tq ++ [z], dn := x.dn ++ [⟨z, x.ts, x.tc⟩] }
/-- A client's message comes to the server: the op as it is now; what is open behind it. -/
def upO (x : Cli) (μ : Msg) : Op4 := (cross μ.o (x.tq.drop (μ.came - x.tk))).1
def takeS (x : Cli) (μ : Msg) (r : List Msg) : Cli := { x with up := r, tc := x.tc + 1, tk := μ.came, tq := (cross μ.o (x.tq.drop (μ.came - x.tk))).2 }
/-- The server's message comes to a client. -/
def dnO (x : Cli) (μ : Msg) : Op4 := (cross μ.o (x.ho.drop (μ.came - x.hk))).1
def takeC (x : Cli) (μ : Msg) (r : List Msg) (t : List UInt8) : Cli := { x with text := t, dn := r, hc := x.hc + 1, hk := μ.came, ho := (cross μ.o (x.ho.drop (μ.came - x.hk))).2 }
def upM (m : Moo) (c : Nat) (μ : Msg) (r : List Msg) (t : List UInt8) : Moo :=
  { m with srv := t, hist := m.hist ++ [upO (m.cl c) μ], cl := fun i => if i = c then sendS (takeS (m.cl c) μ r) (noop c) else sendS (m.cl i) (upO (m.cl c) μ) }

def prs (l : List Msg) : List (Op4 × Nat) := l.map fun μ => (μ.o, μ.came)

/-! ### Lengths -/
/-- By how much ops lengthen a text. -/
def grow : List Op4 → Int
  | [] => 0
  | o :: l => (if o.k = 1 then 1 else if o.k = 2 then -1 else 0) + grow l
theorem grow_append : ∀ l m : List Op4, grow (l ++ m) = grow l + grow m
  | [], m => by simp [grow]
  | o :: l, m => by simp only [List.cons_append, grow, grow_append l m]; omega
theorem app_grow {t u : List UInt8} {o : Op4} (h : app t o = some u) : (u.length : Int) = t.length + grow [o] := by
  unfold app at h
  simp only [grow]
  split at h
  · split at h
    · cases h; rw [ins_len _ _ _ (by assumption)]; omega
    · cases h
  · split at h
    · split at h
      · rename_i h1
        cases h; rw [del_len _ _ h1]; omega
      · cases h
    · cases h; omega
theorem apps_grow : ∀ {l : List Op4} {t u : List UInt8}, apps t l = some u → (u.length : Int) = t.length + grow l
  | [], t, u, h => by cases h; simp [grow]
  | o :: l, t, u, h => by
    simp only [apps] at h
    obtain ⟨v, h1, h2⟩ := Option.bind_eq_some_iff.1 h
    have e1 := app_grow h1
    have e2 := apps_grow h2
    simp only [grow] at e1 ⊢
    omega
theorem grow_le : ∀ l : List Op4, -(l.length : Int) ≤ grow l ∧ grow l ≤ l.length
  | [] => by simp [grow]
  | o :: l => by
    have := grow_le l
    simp only [grow, List.length_cons]
    split <;> (try split) <;> omega
/-- c's inserts in a list. -/
def insN (c : Int) : List Op4 → Nat
  | [] => 0
  | o :: l => (if o.s = c ∧ o.k = 1 then 1 else 0) + insN c l
theorem insN_append (c : Int) : ∀ l m : List Op4, insN c (l ++ m) = insN c l + insN c m
  | [], m => by simp [insN]
  | o :: l, m => by simp only [List.cons_append, insN, insN_append c l m]; omega
theorem insN_le_own (c : Int) : ∀ l : List Op4, insN c l ≤ ownN c l
  | [] => Nat.le_refl _
  | o :: l => by
    have := insN_le_own c l
    simp only [insN, ownN]
    repeat' split
    all_goals omega
theorem insN_le_len (c : Int) : ∀ l : List Op4, insN c l ≤ l.length
  | [] => Nat.le_refl _
  | o :: l => by
    have := insN_le_len c l
    simp only [insN, List.length_cons]
    split <;> omega
theorem ownN_mono (c : Int) (l : List Op4) {i j : Nat} (h : i ≤ j) : ownN c (l.take i) ≤ ownN c (l.take j) := by
  obtain ⟨k, rfl⟩ : ∃ k, j = i + k := ⟨j - i, by omega⟩
  have e : l.take (i + k) = l.take i ++ (l.drop i).take k := List.take_add
  rw [e, ownN_append]; omega

/-- Turning keeps inserts inserts. -/
theorem turn_ins {a b : Op4} (ha : Wf a) (hb : Wf b) : ((turn a b).1.k = 1 ↔ a.k = 1) ∧ ((turn a b).2.k = 1 ↔ b.k = 1) := by
  obtain ⟨ak, ap, ab, as1⟩ := a
  obtain ⟨bk, bp, bb, bs⟩ := b
  have ha1 := ha.kind
  have hb1 := hb.kind
  simp only at ha1 hb1
  unfold turn
  simp only
  repeat' split
  all_goals (refine ⟨?_, ?_⟩ <;> first | exact Iff.rfl | (constructor <;> intro h <;> simp only at h ⊢ <;> omega))
theorem cross_ins {own : Bool} {c : Int} : ∀ {o : Op4} {l : List Op4}, Own own c o → (∀ x ∈ l, Own (!own) c x) → ((cross o l).1.k = 1 ↔ o.k = 1)
  | o, [], _, _ => Iff.rfl
  | o, x :: l, ho, hl => by
    have hx := hl x (by simp)
    have h := own_turn ho hx
    rw [cross_cons]
    exact (cross_ins h.1 (fun y hy => hl y (by simp [hy]))).trans (turn_ins ho.1 hx.1).1
theorem cross_s (o : Op4) : ∀ l : List Op4, (cross o l).1.s = o.s
  | [] => rfl
  | x :: l => by rw [cross_cons]; exact (cross_s (turn o x).1 l).trans (turn_site o x).1
/-- Turning moves an op by one place at the most. -/
theorem turn_p {a b : Op4} (ha : Wf a) (hb : Wf b) : (turn a b).1.p ≤ a.p + 1 ∧ (turn a b).2.p ≤ b.p + 1 := by
  obtain ⟨ak, ap, ab, as1⟩ := a
  obtain ⟨bk, bp, bb, bs⟩ := b
  have ha1 := ha.1
  have hb1 := hb.1
  simp only at ha1 hb1
  unfold turn
  simp only
  repeat' split
  all_goals (refine ⟨?_, ?_⟩ <;> simp only <;> omega)
theorem cross_p {own : Bool} {c : Int} : ∀ {o : Op4} {l : List Op4}, Own own c o → (∀ x ∈ l, Own (!own) c x) → ∀ (i : Nat) (z : Op4), (cross o l).2[i]? = some z → ∃ y, l[i]? = some y ∧ z.p ≤ y.p + 1
  | o, [], _, _, i, z, h => by simp [cross_nil] at h
  | o, x :: l, ho, hl, 0, z, h => by
    rw [cross_cons] at h
    simp at h
    subst h
    exact ⟨x, rfl, (turn_p ho.1 (hl x (by simp)).1).2⟩
  | o, x :: l, ho, hl, i + 1, z, h => by
    rw [cross_cons] at h
    simp only [List.getElem?_cons_succ] at h ⊢
    exact cross_p (own_turn ho (hl x (by simp))).1 (fun y hy => hl y (by simp [hy])) i z h
end Go.Proofs.Ytabahmcbhapbiaa
