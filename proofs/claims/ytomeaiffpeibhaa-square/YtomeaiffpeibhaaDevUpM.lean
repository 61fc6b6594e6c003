import Derived.Test.YtomeaiffpeibhaaDevTell
import Derived.Deep.LoopGhost
namespace Go.Proofs.Ytomeaiffpeibhaa
open Go.RowKit Go.Lib
set_option linter.unusedVariables false
section
variable {w w' : World} {mb : Nat} {m : Moo} {L : DLay} {own : Nat → Option Nat}
/-- A seat takes a message in. -/
theorem dmeet (h : DevM w mb m L own) (c : Nat) (hc : c < m.n) (μ : Msg) (hk1 : (m.cl c).tk ≤ μ.came) (hk2 : μ.came - (m.cl c).tk ≤ (m.cl c).«to».length) (hs : (m.cl c).ts ≤ 1000000000000000000) (hcc : (m.cl c).tc ≤ 1000000000000000000) (hlen : (m.cl c).«to».length ≤ 10000000000000) (ho : Bd 100000000000000 μ.o) (hl : ∀ y ∈ (m.cl c).«to», Bd 100000000000000 y) :
    Calls Try.prog 77 #[.pointer (some ⟨L.eb, c * 5, none⟩), .agg #[.int .i64 μ.o.k, .int .i64 μ.o.p, .int .i64 μ.o.b, .int .i64 μ.o.s, .int .i64 (μ.sent : Int), .int .i64 (μ.came : Int)]] w fun e w' =>
      e = .returned (.agg #[.int .i64 (upO (m.cl c) μ).k, .int .i64 (upO (m.cl c) μ).p, .int .i64 (upO (m.cl c) μ).b, .int .i64 (upO (m.cl c) μ).s]) ∧ Hid (∃ own', DevM w' mb (m.set c (takeS (m.cl c) μ (m.cl c).up)) L own' ∧ DFrm w own w' own') := by
  obtain ⟨go, gq, ⟨⟨vo, vq, he⟩, _⟩, h3, h4⟩ := h.se c hc
  have hko := (h.ko c hc).2
  have hcame : μ.came = (m.cl c).ts - (m.cl c).«to».length + (μ.came - (m.cl c).tk) := by omega
  have hm := emeet_any L.eb (c * 5) (m.cl c).ts (m.cl c).tc vo vq (m.cl c).«to» (m.cl c).dn go gq μ.o μ.sent (μ.came - (m.cl c).tk) w he (by omega) hs hk2 hcc hlen ho hl
  rw [← hcame] at hm
  refine hm.mono ?_
  rintro e w' ⟨rfl, vo', he', hk'⟩
  obtain ⟨hd2, hf2⟩ := h.seatSet hc (x' := takeS (m.cl c) μ (m.cl c).up) h3 h4 hk' ⟨vo', vq, he'⟩ (by
    show μ.came + (cross μ.o ((m.cl c).«to».drop (μ.came - (m.cl c).tk))).2.length = (m.cl c).ts
    rw [cross_len, List.length_drop]
    omega) rfl rfl rfl rfl rfl rfl
  exact ⟨rfl, _, hd2, hf2⟩
theorem DevM.hist (h : DevM w mb m L own) (l : List Op4) : DevM w mb { m with hist := l } L own :=
  ⟨h.n1, h.n4, h.m0, h.m1, h.v0, h.v1, h.vf, h.kp, h.cl, h.se, h.ko, h.o0, h.o1, h.o2, h.o3, h.lt⟩
/-- What the first j clients were told. -/
def toldM (m : Moo) (c : Nat) (o : Op4) (j : Nat) : Moo := { m with cl := fun i => if i < j then sendS (m.cl i) (if i = c then noop c else o) else m.cl i }
theorem told_zero (m : Moo) (c : Nat) (o : Op4) : toldM m c o 0 = m := by
  unfold toldM
  simp
theorem told_succ (m : Moo) (c : Nat) (o : Op4) (j : Nat) : (toldM m c o j).set j (sendS ((toldM m c o j).cl j) (if j = c then noop c else o)) = toldM m c o (j + 1) := by
  unfold toldM Moo.set
  congr 1
  funext i
  simp only
  by_cases e : i = j
  · subst e
    rw [if_pos rfl, if_neg (Nat.lt_irrefl _), if_pos (Nat.lt_succ_self _)]
  · rw [if_neg e]
    by_cases h : i < j
    · simp [h, show i < j + 1 by omega]
    · simp [h, show ¬ i < j + 1 by omega]
theorem told_all (m : Moo) (c : Nat) (μ : Msg) (r : List Msg) (t : List UInt8) : ∀ i, i < m.n → (toldM { m.set c (takeS (m.cl c) μ r) with srv := t } c (upO (m.cl c) μ) m.n).cl i = (upM m c μ r t).cl i := by
  intro i hi
  unfold toldM upM Moo.set
  simp only
  rw [if_pos hi]
  by_cases e : i = c
  · subst e; simp
  · simp [e]
/-- The moot is told by its clients up to n. -/
theorem DevM.congr (h : DevM w mb m L own) {m' : Moo} (hn : m'.n = m.n) (hs : m'.srv = m.srv) (hc : ∀ i, i < m.n → m'.cl i = m.cl i) : DevM w mb m' L own := by
  refine ⟨by rw [hn]; exact h.n1, by rw [hn]; exact h.n4, h.m0, by rw [hn]; exact h.m1, by rw [hs]; exact h.v0, by rw [hn]; exact h.v1, h.vf, fun i hi => h.kp i (by rw [← hn]; exact hi), fun i hi => ?_, fun i hi => ?_, fun i hi => ?_, h.o0, h.o1, h.o2, h.o3, h.lt⟩
  · rw [hn] at hi; rw [hc i hi]; exact h.cl i hi
  · rw [hn] at hi; rw [hc i hi]; exact h.se i hi
  · rw [hn] at hi; rw [hc i hi]; exact h.ko i hi
/-- A call on the moot, from W to w1, where W is wc and new blocks. -/
def DMet (wc W : World) (own : Nat → Option Nat) (mb : Nat) (L : DLay) (m2 : Moo) (w1 : World) : Prop := Below wc.heap.size wc W ∧ ∃ own2, DevM w1 mb m2 L own2 ∧ DFrm W own w1 own2
/-- The op that the call gave lies at a block of its own. -/
structure DOp (wc : World) (own : Nat → Option Nat) (mb : Nat) (L : DLay) (m2 : Moo) (ob : Nat) (u : Op4) (W : World) : Prop where
  dm : ∃ own2, DevM W mb m2 L own2 ∧ DFrm wc own W own2 ∧ own2 ob = none
  op : Op4At W ob 0 u
  ge : wc.heap.size ≤ ob
  lt : ob < W.heap.size
theorem dmet_cell {wc W w1 : World} {m1 m2 : Moo} (h : DMet wc W own mb L m2 w1) (hm : DevM wc mb m1 L own) {k : Nat} (hk : own k = none) : (∀ o, k < W.heap.size → w1.cell? ⟨k, o, none⟩ = W.cell? ⟨k, o, none⟩) ∧ (∀ o, k < W.heap.size → w1.frozen? ⟨k, o, none⟩ = W.frozen? ⟨k, o, none⟩) ∧ (k < W.heap.size → k < w1.heap.size) := by
  obtain ⟨hb, own2, hr, hf⟩ := h
  exact ⟨fun o hl => hf.kx.cell (p := ⟨k, o, none⟩) hl (fun e => e hk), fun o hl => hf.kx.frozen (p := ⟨k, o, none⟩) hl (fun e => e hk), fun hl => Nat.lt_of_lt_of_le hl hf.kx.size⟩
theorem dop_new {wc W w1 : World} {m2 : Moo} (h : DMet wc W own mb L m2 w1) (u : Op4) (t : TypeId) : DOp wc own mb L m2 w1.heap.size u (w1.alloc (.cells #[.int .i64 u.k, .int .i64 u.p, .int .i64 u.b, .int .i64 u.s] t)) := by
  obtain ⟨hb, own2, hr, hf⟩ := h
  exact ⟨⟨own2, hr.below (bel_alloc (Below.refl _ _) _), ((DFrm.of_below hb).trans hf).trans (DFrm.of_below (bel_alloc (Below.refl _ _) _)), hr.fresh (Nat.le_refl _)⟩, op4at_new w1 u t, Nat.le_trans hb.size hf.kx.size, by simp⟩
theorem dop_set {wc W w1 : World} {m1 m2 : Moo} (h : DMet wc W own mb L m2 w1) (hm : DevM wc mb m1 L own) (hl : wc.heap.size < w1.heap.size) (hlW : wc.heap.size < W.heap.size) (hz : Zero4 w1 wc.heap.size) (u : Op4) :
    DOp wc own mb L m2 wc.heap.size u ((((w1.setCell ⟨wc.heap.size, 0, none⟩ (.int .i64 u.k)).setCell ⟨wc.heap.size, 1, none⟩ (.int .i64 u.p)).setCell ⟨wc.heap.size, 2, none⟩ (.int .i64 u.b)).setCell ⟨wc.heap.size, 3, none⟩ (.int .i64 u.s)) := by
  show DOp wc own mb L m2 wc.heap.size u (put4 w1 wc.heap.size u)
  obtain ⟨hb, own2, hr, hf⟩ := h
  have hn : own wc.heap.size = none := hm.fresh (Nat.le_refl _)
  have hn2 : own2 wc.heap.size = none := by
    by_cases e : own2 wc.heap.size = none
    · exact e
    · rcases hf.nw _ e with x | x
      · exact absurd hn x
      · omega
  have hkp : KeptX (fun k => k = wc.heap.size) w1 (put4 w1 wc.heap.size u) := put4_keptX (KeptX.refl (fun k => k = wc.heap.size) w1) (fun _ => rfl) u
  refine ⟨⟨own2, hr.keep hkp (fun k e e2 => e (by rw [e2]; exact hn2)), ⟨?_, ((DFrm.of_below hb).trans hf).nw⟩, hn2⟩, hz.put, Nat.le_refl _, by rw [put4_size]; exact hl⟩
  exact ((DFrm.of_below hb).trans hf).kx.trans hkp (fun i hi e => by omega)
/-- The next call on the moot. -/
theorem DOp.next {wc W0 : World} {m2 : Moo} {ob : Nat} {u : Op4} (h : DOp wc own mb L m2 ob u W0) : ∃ own2, DevM W0 mb m2 L own2 ∧ (∀ W, Below W0.heap.size W0 W → ∀ w' own' m', DevM w' mb m' L own' → DFrm W own2 w' own' → DOp wc own mb L m' ob u w') := by
  obtain ⟨⟨own2, h1, h2, h3⟩, op, ge, lt⟩ := h
  refine ⟨own2, h1, fun W hW w' own' m' hd hf => ?_⟩
  have hlt : ob < W.heap.size := Nat.lt_of_lt_of_le lt hW.size
  refine ⟨⟨own', hd, (h2.trans (DFrm.of_below hW)).trans hf, ?_⟩, ?_, ge, Nat.lt_of_lt_of_le hlt hf.kx.size⟩
  · by_cases e : own' ob = none
    · exact e
    · rcases hf.nw _ e with x | x
      · exact absurd h3 x
      · omega
  · exact op4at_keep (op4at_keep op (KeptX.of_below (F := fun _ => False) hW) lt (fun e => e)) hf.kx hlt (fun e => e h3)
theorem told_n (m : Moo) (c : Nat) (o : Op4) (j : Nat) : (toldM m c o j).n = m.n := rfl
theorem told_self (m : Moo) (c : Nat) (o : Op4) (j : Nat) : (toldM m c o j).cl j = m.cl j := by unfold toldM; simp
/-- A seat is told of an op. -/
theorem tell_any (h : DevM w mb m L own) (i : Nat) (hi : i < m.n) (c : Nat) (z : Op4) (hs : (m.cl i).ts ≤ 1000000000000000000) (hl : ((m.cl i).«to».length + 1) * 32 ≤ 140737488355328) (hq : ((m.cl i).dn.length + 1) * 48 ≤ 140737488355328) :
    Calls Try.prog 78 #[.pointer (some ⟨L.eb, i * 5, none⟩), .int .i64 (c : Int), .agg #[.int .i64 z.k, .int .i64 z.p, .int .i64 z.b, .int .i64 z.s]] w fun e w' => e = .returned (.tuple #[]) ∧ Hid (∃ own', DevM w' mb (m.set i (sendS (m.cl i) (if i = c then noop c else z))) L own' ∧ DFrm w own w' own') := by
  by_cases e : i = c
  · subst e
    rw [if_pos rfl]
    exact tell_own h i hi z hs hl hq
  · rw [if_neg e]
    exact tell_other h i hi c (fun x => e x.symm) z hs hl hq
end
end Go.Proofs.Ytomeaiffpeibhaa
