import Derived.Test.YtabahmcbhapbiaaQDevDown
import Derived.Deep.LoopGhost
import Derived.Deep.RegionHeld3
import Derived.Deep.DeepCutAuto
namespace Go.Proofs.Ytabahmcbhapbiaa
open Go.RowKit Go.Lib
set_option linter.unusedVariables false
section
variable {w w' : World} {mb : Nat} {m : Moo} {L : DLay} {own : Nat → Option Nat}
theorem opNothing_any (s : Int) (w : World) : Calls Try.prog 94 #[.int .i64 s] w fun e w' => e = .returned (.agg #[.int .i64 0, .int .i64 0, .int .i64 0, .int .i64 s]) ∧ Below w.heap.size w w' := by
  go_enter Try.func94, Try.ntmps94
  go_wp2
  simp [bodyPost, results, Try.results94, go_sem]
  repeat (first | exact Below.refl _ _ | apply Below.drew | refine bel_set ?_ (Nat.le_refl _) _ | refine bel_alloc ?_ _)
/-- A seat sends an op. -/
theorem dsend (h : DevM w mb m L own) (i : Nat) (hi : i < m.n) (z : Op4) (hs : (m.cl i).ts ≤ 1000000000000000000) (hl : ((m.cl i).tq.length + 1) * 32 ≤ 140737488355328) (hq : ((m.cl i).dn.length + 1) * 48 ≤ 140737488355328) :
    Calls Try.prog 72 #[.pointer (some ⟨L.eb, i * 5, none⟩), .agg #[.int .i64 z.k, .int .i64 z.p, .int .i64 z.b, .int .i64 z.s]] w fun e w' => e = .returned (.tuple #[]) ∧ Hid (∃ own', DevM w' mb (m.set i (sendS (m.cl i) z)) L own' ∧ DFrm w own w' own') := by
  obtain ⟨go, gq, ⟨⟨vo, vq, he⟩, _⟩, h3, h4⟩ := h.se i hi
  refine (esend_any L.eb (i * 5) (m.cl i).ts (m.cl i).tc vo vq (m.cl i).tq (m.cl i).dn go gq z w he hs hl hq).mono ?_
  rintro e w' ⟨rfl, vo', vq', go', gq', he', hk'⟩
  have hko := (h.ko i hi).2
  obtain ⟨hd2, hf2⟩ := h.seatSet hi (x' := sendS (m.cl i) z) h3 h4 hk' ⟨vo', vq', he'⟩ (by simp only [sendS, List.length_append, List.length_singleton]; omega) rfl rfl rfl rfl rfl rfl
  exact ⟨rfl, _, hd2, hf2⟩
set_option maxHeartbeats 1000000 in
theorem tell_other (h : DevM w mb m L own) (i : Nat) (hi : i < m.n) (c : Nat) (hci : c ≠ i) (z : Op4) (hs : (m.cl i).ts ≤ 1000000000000000000) (hl : ((m.cl i).tq.length + 1) * 32 ≤ 140737488355328) (hq : ((m.cl i).dn.length + 1) * 48 ≤ 140737488355328) :
    Calls Try.prog 70 #[.pointer (some ⟨L.eb, i * 5, none⟩), .int .i64 (c : Int), .agg #[.int .i64 z.k, .int .i64 z.p, .int .i64 z.b, .int .i64 z.s]] w fun e w' => e = .returned (.tuple #[]) ∧ Hid (∃ own', DevM w' mb (m.set i (sendS (m.cl i) z)) L own' ∧ DFrm w own w' own') := by
  have HS : Hid (∀ W, Below w.heap.size w W → Calls Try.prog 72 #[.pointer (some ⟨L.eb, i * 5, none⟩), .agg #[.int .i64 z.k, .int .i64 z.p, .int .i64 z.b, .int .i64 z.s]] W fun e w' => e = .returned (.tuple #[]) ∧ Hid (∃ own', DevM w' mb (m.set i (sendS (m.cl i) z)) L own' ∧ DFrm w own w' own')) := fun W hW => by
    refine (dsend (h.below hW) i hi z hs hl hq).mono ?_
    rintro e w' ⟨rfl, own', h1, h2⟩
    exact ⟨rfl, own', h1, (DFrm.of_below hW).trans h2⟩
  obtain ⟨go, gq, ⟨⟨vo, vq, he⟩, c4⟩, h3, h4⟩ := h.se i hi
  have le := he.lt
  have hne : ((c : Int) == (i : Int)) = false := by simp; omega
  clear h he hs hl hq
  go_enter Try.func70, Try.ntmps70
  go_wp2_with fail
  go_region_with ((go_at_call 72; refine (HS.out _ (by repeat (first | exact Below.refl _ _ | apply Below.drew | refine bel_alloc ?_ _))).mono ?_; rintro e w3 ⟨rfl, hr3⟩; have HR3 : Hid (∃ own', DevM w3 mb (m.set i (sendS (m.cl i) z)) L own' ∧ DFrm w own w3 own') := hr3; clear hr3))
  all_goals go_wp2
  all_goals simp [bodyPost, results, Try.results70, go_sem]
  all_goals exact HR3.out
set_option maxHeartbeats 1000000 in
theorem tell_own (h : DevM w mb m L own) (i : Nat) (hi : i < m.n) (z : Op4) (hs : (m.cl i).ts ≤ 1000000000000000000) (hl : ((m.cl i).tq.length + 1) * 32 ≤ 140737488355328) (hq : ((m.cl i).dn.length + 1) * 48 ≤ 140737488355328) :
    Calls Try.prog 70 #[.pointer (some ⟨L.eb, i * 5, none⟩), .int .i64 (i : Int), .agg #[.int .i64 z.k, .int .i64 z.p, .int .i64 z.b, .int .i64 z.s]] w fun e w' => e = .returned (.tuple #[]) ∧ Hid (∃ own', DevM w' mb (m.set i (sendS (m.cl i) (noop i))) L own' ∧ DFrm w own w' own') := by
  have HS : Hid (∀ W, Below w.heap.size w W → Calls Try.prog 72 #[.pointer (some ⟨L.eb, i * 5, none⟩), .agg #[.int .i64 0, .int .i64 0, .int .i64 0, .int .i64 (i : Int)]] W fun e w' => e = .returned (.tuple #[]) ∧ Hid (∃ own', DevM w' mb (m.set i (sendS (m.cl i) (noop i))) L own' ∧ DFrm w own w' own')) := fun W hW => by
    refine (dsend (h.below hW) i hi (noop i) hs hl hq).mono ?_
    rintro e w' ⟨rfl, own', h1, h2⟩
    exact ⟨rfl, own', h1, (DFrm.of_below hW).trans h2⟩
  obtain ⟨go, gq, ⟨⟨vo, vq, he⟩, c4⟩, h3, h4⟩ := h.se i hi
  have le := he.lt
  have HN : Hid (∀ W, Calls Try.prog 94 #[.int .i64 (i : Int)] W fun e w' => e = .returned (.agg #[.int .i64 0, .int .i64 0, .int .i64 0, .int .i64 (i : Int)]) ∧ Below W.heap.size W w') := fun W => opNothing_any i W
  clear h he hs hl hq
  go_enter Try.func70, Try.ntmps70
  go_wp2_with fail
  refine (HN.out _).mono ?_
  rintro e w1 ⟨rfl, hb1⟩
  have HB : Hid (Below w.heap.size w w1) := bel_trans (bel_alloc (Below.refl _ _) _) hb1
  obtain ⟨hc1, hf1⟩ := bcell hb1
  have k0 := hc1 w.heap.size 0 (by simp)
  have k1 := hc1 w.heap.size 1 (by simp)
  have k2 := hc1 w.heap.size 2 (by simp)
  have k3 := hc1 w.heap.size 3 (by simp)
  have kf := fun j => hf1 w.heap.size j (by simp)
  simp [go_sem] at k0 k1 k2 k3 kf
  clear hc1 hf1 hb1
  go_wp2_with fail
  go_region_with ((go_at_call 72; refine (HS.out _ (by apply Below.drew; exact bel_set (bel_set (bel_set (bel_set HB.out (p := ⟨w.heap.size, 0, none⟩) (Nat.le_refl _) _) (p := ⟨w.heap.size, 1, none⟩) (Nat.le_refl _) _) (p := ⟨w.heap.size, 2, none⟩) (Nat.le_refl _) _) (p := ⟨w.heap.size, 3, none⟩) (Nat.le_refl _) _)).mono ?_; rintro e w3 ⟨rfl, hr3⟩; have HR3 : Hid (∃ own', DevM w3 mb (m.set i (sendS (m.cl i) (noop i))) L own' ∧ DFrm w own w3 own') := hr3; clear hr3))
  all_goals go_wp2
  all_goals simp [bodyPost, results, Try.results70, go_sem]
  all_goals exact HR3.out
end
end Go.Proofs.Ytabahmcbhapbiaa
namespace Go.Proofs.Ytabahmcbhapbiaa
open Go.RowKit Go.Lib
set_option linter.unusedVariables false
section
variable {w w' : World} {mb : Nat} {m : Moo} {L : DLay} {own : Nat → Option Nat}
/-- A seat takes a message in. -/
theorem dmeet (h : DevM w mb m L own) (c : Nat) (hc : c < m.n) (μ : Msg) (hk1 : (m.cl c).tk ≤ μ.came) (hk2 : μ.came - (m.cl c).tk ≤ (Cli.tq (m.cl c)).length) (hs : (m.cl c).ts ≤ 1000000000000000000) (hcc : (m.cl c).tc ≤ 1000000000000000000) (hlen : (Cli.tq (m.cl c)).length ≤ 10000000000000) (ho : Bd 100000000000000 μ.o) (hl : ∀ y ∈ (Cli.tq (m.cl c)), Bd 100000000000000 y) :
    Calls Try.prog 69 #[.pointer (some ⟨L.eb, c * 5, none⟩), .agg #[.int .i64 μ.o.k, .int .i64 μ.o.p, .int .i64 μ.o.b, .int .i64 μ.o.s, .int .i64 (μ.sent : Int), .int .i64 (μ.came : Int)]] w fun e w' =>
      e = .returned (.agg #[.int .i64 (upO (m.cl c) μ).k, .int .i64 (upO (m.cl c) μ).p, .int .i64 (upO (m.cl c) μ).b, .int .i64 (upO (m.cl c) μ).s]) ∧ Hid (∃ own', DevM w' mb (m.set c (takeS (m.cl c) μ (m.cl c).up)) L own' ∧ DFrm w own w' own') := by
  obtain ⟨go, gq, ⟨⟨vo, vq, he⟩, _⟩, h3, h4⟩ := h.se c hc
  have hko := (h.ko c hc).2
  have hcame : μ.came = (m.cl c).ts - (Cli.tq (m.cl c)).length + (μ.came - (m.cl c).tk) := by omega
  have hm := emeet_any L.eb (c * 5) (m.cl c).ts (m.cl c).tc vo vq (Cli.tq (m.cl c)) (m.cl c).dn go gq μ.o μ.sent (μ.came - (m.cl c).tk) w he (by omega) hs hk2 hcc hlen ho hl
  rw [← hcame] at hm
  refine hm.mono ?_
  rintro e w' ⟨rfl, vo', he', hk'⟩
  obtain ⟨hd2, hf2⟩ := h.seatSet hc (x' := takeS (m.cl c) μ (m.cl c).up) h3 h4 hk' ⟨vo', vq, he'⟩ (by
    show μ.came + (cross μ.o ((Cli.tq (m.cl c)).drop (μ.came - (m.cl c).tk))).2.length = (m.cl c).ts
    rw [cross_len, List.length_drop]
    omega) rfl rfl rfl rfl rfl rfl
  exact ⟨rfl, _, hd2, hf2⟩
/-- What the first j clients were told. -/
def toldM (m : Moo) (c : Nat) (o : Op4) (j : Nat) : Moo := { m with cl := fun i => if i < j then sendS (m.cl i) (if i = c then noop c else o) else m.cl i }
theorem told_zero (m : Moo) (c : Nat) (o : Op4) : toldM m c o 0 = m := by
  unfold toldM
  simp
theorem told_succ (m : Moo) (c : Nat) (o : Op4) (j : Nat) : (toldM m c o j).set j (sendS ((toldM m c o j).cl j) (if j = c then noop c else o)) = toldM m c o (j + 1) := by
  unfold toldM Moo.set
  congr 1
  funext i
  simp only
  by_cases e : i = j
  · subst e
    rw [if_pos rfl, if_neg (Nat.lt_irrefl _), if_pos (Nat.lt_succ_self _)]
  · rw [if_neg e]
    by_cases h : i < j
    · simp [h, show i < j + 1 by omega]
    · simp [h, show ¬ i < j + 1 by omega]
theorem told_all (m : Moo) (c : Nat) (μ : Msg) (r : List Msg) (t : List UInt8) (l : List Op4) : ∀ i, i < m.n → (toldM { m.set c (takeS (m.cl c) μ r) with srv := t, hist := l } c (upO (m.cl c) μ) m.n).cl i = (upM m c μ r t).cl i := by
  intro i hi
  unfold toldM upM Moo.set
  simp only
  rw [if_pos hi]
  by_cases e : i = c
  · subst e; simp
  · simp [e]
/-- The moot is told by its clients up to n. -/
theorem DevM.congr (h : DevM w mb m L own) {m' : Moo} (hn : m'.n = m.n) (hs : m'.srv = m.srv) (hh : m'.hist = m.hist) (hc : ∀ i, i < m.n → m'.cl i = m.cl i) : DevM w mb m' L own := by
  refine ⟨by rw [hn]; exact h.n1, by rw [hn]; exact h.n4, h.m0, by rw [hn]; exact h.m1, by rw [hs]; exact h.v0, by rw [hn]; exact h.v1, h.vf, fun i hi => h.kp i (by rw [← hn]; exact hi), fun i hi => ?_, fun i hi => ?_, fun i hi => ?_, h.o0, h.o1, h.o2, h.o3, h.lt, by rw [hh]; exact h.hs⟩
  · rw [hn] at hi; rw [hc i hi]; exact h.cl i hi
  · rw [hn] at hi; rw [hc i hi]; exact h.se i hi
  · rw [hn] at hi; rw [hc i hi]; exact h.ko i hi
/-- A call on the moot, from W to w1, where W is wc and new blocks. -/
def DMet (wc W : World) (own : Nat → Option Nat) (mb : Nat) (L : DLay) (m2 : Moo) (w1 : World) : Prop := Below wc.heap.size wc W ∧ ∃ own2, DevM w1 mb m2 L own2 ∧ DFrm W own w1 own2
/-- The op that the call gave lies at a block of its own. -/
structure DOp (wc : World) (own : Nat → Option Nat) (mb : Nat) (L : DLay) (m2 : Moo) (ob : Nat) (u : Op4) (W : World) : Prop where
  dm : ∃ own2, DevM W mb m2 L own2 ∧ DFrm wc own W own2 ∧ own2 ob = none
  op : Op4At W ob 0 u
  ge : wc.heap.size ≤ ob
  lt : ob < W.heap.size
theorem dmet_cell {wc W w1 : World} {m1 m2 : Moo} (h : DMet wc W own mb L m2 w1) (hm : DevM wc mb m1 L own) {k : Nat} (hk : own k = none) : (∀ o, k < W.heap.size → w1.cell? ⟨k, o, none⟩ = W.cell? ⟨k, o, none⟩) ∧ (∀ o, k < W.heap.size → w1.frozen? ⟨k, o, none⟩ = W.frozen? ⟨k, o, none⟩) ∧ (k < W.heap.size → k < w1.heap.size) := by
  obtain ⟨hb, own2, hr, hf⟩ := h
  exact ⟨fun o hl => hf.kx.cell (p := ⟨k, o, none⟩) hl (fun e => e hk), fun o hl => hf.kx.frozen (p := ⟨k, o, none⟩) hl (fun e => e hk), fun hl => Nat.lt_of_lt_of_le hl hf.kx.size⟩
theorem dop_new {wc W w1 : World} {m2 : Moo} (h : DMet wc W own mb L m2 w1) (u : Op4) (t : TypeId) : DOp wc own mb L m2 w1.heap.size u (w1.alloc (.cells #[.int .i64 u.k, .int .i64 u.p, .int .i64 u.b, .int .i64 u.s] t)) := by
  obtain ⟨hb, own2, hr, hf⟩ := h
  exact ⟨⟨own2, hr.below (bel_alloc (Below.refl _ _) _), ((DFrm.of_below hb).trans hf).trans (DFrm.of_below (bel_alloc (Below.refl _ _) _)), hr.fresh (Nat.le_refl _)⟩, op4at_new w1 u t, Nat.le_trans hb.size hf.kx.size, by simp⟩
theorem dop_set {wc W w1 : World} {m1 m2 : Moo} (h : DMet wc W own mb L m2 w1) (hm : DevM wc mb m1 L own) (hl : wc.heap.size < w1.heap.size) (hlW : wc.heap.size < W.heap.size) (hz : Zero4 w1 wc.heap.size) (u : Op4) :
    DOp wc own mb L m2 wc.heap.size u ((((w1.setCell ⟨wc.heap.size, 0, none⟩ (.int .i64 u.k)).setCell ⟨wc.heap.size, 1, none⟩ (.int .i64 u.p)).setCell ⟨wc.heap.size, 2, none⟩ (.int .i64 u.b)).setCell ⟨wc.heap.size, 3, none⟩ (.int .i64 u.s)) := by
  show DOp wc own mb L m2 wc.heap.size u (put4 w1 wc.heap.size u)
  obtain ⟨hb, own2, hr, hf⟩ := h
  have hn : own wc.heap.size = none := hm.fresh (Nat.le_refl _)
  have hn2 : own2 wc.heap.size = none := by
    by_cases e : own2 wc.heap.size = none
    · exact e
    · rcases hf.nw _ e with x | x
      · exact absurd hn x
      · omega
  have hkp : KeptX (fun k => k = wc.heap.size) w1 (put4 w1 wc.heap.size u) := put4_keptX (KeptX.refl (fun k => k = wc.heap.size) w1) (fun _ => rfl) u
  refine ⟨⟨own2, hr.keep hkp (fun k e e2 => e (by rw [e2]; exact hn2)), ((DFrm.of_below hb).trans hf).after hkp (fun i hi e => by omega), hn2⟩, hz.put, Nat.le_refl _, by rw [put4_size]; exact hl⟩
/-- The next call on the moot. -/
theorem DOp.next {wc W0 : World} {m2 : Moo} {ob : Nat} {u : Op4} (h : DOp wc own mb L m2 ob u W0) : ∃ own2, DevM W0 mb m2 L own2 ∧ (∀ W, Below W0.heap.size W0 W → ∀ w' own' m', DevM w' mb m' L own' → DFrm W own2 w' own' → DOp wc own mb L m' ob u w') := by
  obtain ⟨⟨own2, h1, h2, h3⟩, op, ge, lt⟩ := h
  refine ⟨own2, h1, fun W hW w' own' m' hd hf => ?_⟩
  have hlt : ob < W.heap.size := Nat.lt_of_lt_of_le lt hW.size
  refine ⟨⟨own', hd, (h2.trans (DFrm.of_below hW)).trans hf, ?_⟩, ?_, ge, Nat.lt_of_lt_of_le hlt hf.kx.size⟩
  · by_cases e : own' ob = none
    · exact e
    · rcases hf.nw _ e with x | x
      · exact absurd h3 x
      · omega
  · exact op4at_keep (op4at_keep op (KeptX.of_below (F := fun _ => False) hW) lt (fun e => e)) hf.kx hlt (fun e => e h3)
theorem told_n (m : Moo) (c : Nat) (o : Op4) (j : Nat) : (toldM m c o j).n = m.n := rfl
theorem told_self (m : Moo) (c : Nat) (o : Op4) (j : Nat) : (toldM m c o j).cl j = m.cl j := by unfold toldM; simp
/-- A seat is told of an op. -/
theorem tell_any (h : DevM w mb m L own) (i : Nat) (hi : i < m.n) (c : Nat) (z : Op4) (hs : (m.cl i).ts ≤ 1000000000000000000) (hl : ((Cli.tq (m.cl i)).length + 1) * 32 ≤ 140737488355328) (hq : ((m.cl i).dn.length + 1) * 48 ≤ 140737488355328) :
    Calls Try.prog 70 #[.pointer (some ⟨L.eb, i * 5, none⟩), .int .i64 (c : Int), .agg #[.int .i64 z.k, .int .i64 z.p, .int .i64 z.b, .int .i64 z.s]] w fun e w' => e = .returned (.tuple #[]) ∧ Hid (∃ own', DevM w' mb (m.set i (sendS (m.cl i) (if i = c then noop c else z))) L own' ∧ DFrm w own w' own') := by
  by_cases e : i = c
  · subst e
    rw [if_pos rfl]
    exact tell_own h i hi z hs hl hq
  · rw [if_neg e]
    exact tell_other h i hi c (fun x => e x.symm) z hs hl hq
end
end Go.Proofs.Ytabahmcbhapbiaa
namespace Go.Proofs.Ytabahmcbhapbiaa
open Go.RowKit Go.Lib
set_option linter.unusedVariables false
set_option linter.unusedSimpArgs false
theorem lt_alloc' (w : World) (o : Obj) : w.heap.size < (w.alloc o).heap.size := by simp
section
variable {w w' : World} {mb : Nat} {m : Moo} {L : DLay} {own : Nat → Option Nat}
set_option maxHeartbeats 2000000 in
theorem scome_any (h : DevM w mb m L own) (c : Nat) (hc : c < m.n) (μ : Msg) (hk1 : (m.cl c).tk ≤ μ.came) (hk2 : μ.came - (m.cl c).tk ≤ (Cli.tq (m.cl c)).length) (hcc : (m.cl c).tc ≤ 1000000000000000000) (hlen : (Cli.tq (m.cl c)).length ≤ 10000000000000) (ho : Bd 100000000000000 μ.o) (hl : ∀ y ∈ (Cli.tq (m.cl c)), Bd 100000000000000 y)
    (hB : ∀ i, i < m.n → (m.cl i).ts ≤ 4398046511000 ∧ (Cli.tq (m.cl i)).length ≤ 4398046511000 ∧ ((m.cl i).dn.length + 1) * 48 ≤ 140737488355328) (t : List UInt8) (ha : app m.srv (upO (m.cl c) μ) = some t) (hw : Wf (upO (m.cl c) μ)) (ht : m.srv.length ≤ 1000) (hh : (m.hist.length + 1) * 32 ≤ 140737488355328) :
    Calls Try.prog 44 #[.pointer (some ⟨L.vb, 0, none⟩), .int .i64 (c : Int), .agg #[.int .i64 μ.o.k, .int .i64 μ.o.p, .int .i64 μ.o.b, .int .i64 μ.o.s, .int .i64 (μ.sent : Int), .int .i64 (μ.came : Int)]] w fun e w' =>
      e = .returned (.tuple #[]) ∧ Hid (∃ own', DevM w' mb (upM m c μ (m.cl c).up t) L own' ∧ DFrm w own w' own') := by
  obtain ⟨Wa, hWa⟩ : ∃ Wa, Wa = w.alloc (.cells #[.int .i64 μ.o.k, .int .i64 μ.o.p, .int .i64 μ.o.b, .int .i64 μ.o.s, .int .i64 (μ.sent : Int), .int .i64 (μ.came : Int)] 94) := ⟨_, rfl⟩
  have hba : Below w.heap.size w Wa := by rw [hWa]; exact bel_alloc (Below.refl _ _) _
  have ha0 : DevM Wa mb m L own := h.below hba
  have hzn : own w.heap.size = none := h.fresh (Nat.le_refl _)
  have hza : w.heap.size < Wa.heap.size := by rw [hWa]; simp
  have a0 : Wa.cell? ⟨w.heap.size, 0, none⟩ = some (.int .i64 μ.o.k) := by rw [hWa]; simp [go_sem]
  have a1 : Wa.cell? ⟨w.heap.size, 1, none⟩ = some (.int .i64 μ.o.p) := by rw [hWa]; simp [go_sem]
  have a2 : Wa.cell? ⟨w.heap.size, 2, none⟩ = some (.int .i64 μ.o.b) := by rw [hWa]; simp [go_sem]
  have a3 : Wa.cell? ⟨w.heap.size, 3, none⟩ = some (.int .i64 μ.o.s) := by rw [hWa]; simp [go_sem]
  have a4 : Wa.cell? ⟨w.heap.size, 4, none⟩ = some (.int .i64 (μ.sent : Int)) := by rw [hWa]; simp [go_sem]
  have a5 : Wa.cell? ⟨w.heap.size, 5, none⟩ = some (.int .i64 (μ.came : Int)) := by rw [hWa]; simp [go_sem]
  have v1 := ha0.v1
  have lv := ha0.lto ha0.o1
  have HMt : Hid (∀ W, Below Wa.heap.size Wa W → Calls Try.prog 69 #[.pointer (some ⟨L.eb, c * 5, none⟩), .agg #[.int .i64 μ.o.k, .int .i64 μ.o.p, .int .i64 μ.o.b, .int .i64 μ.o.s, .int .i64 (μ.sent : Int), .int .i64 (μ.came : Int)]] W fun e w' =>
      e = .returned (.agg #[.int .i64 (upO (m.cl c) μ).k, .int .i64 (upO (m.cl c) μ).p, .int .i64 (upO (m.cl c) μ).b, .int .i64 (upO (m.cl c) μ).s]) ∧ Hid (DMet Wa W own mb L (m.set c (takeS (m.cl c) μ (m.cl c).up)) w')) := fun W hW => by
    refine (dmeet (ha0.below hW) c hc μ hk1 hk2 (by have := (hB c hc).1; omega) hcc hlen ho hl).mono ?_
    rintro e w' ⟨rfl, own', h1, h2⟩
    exact ⟨rfl, hW, own', h1, h2⟩
  have HD : Hid (∀ W, Calls Try.prog 34 #[dstr m.srv, .agg #[.int .i64 (upO (m.cl c) μ).k, .int .i64 (upO (m.cl c) μ).p, .int .i64 (upO (m.cl c) μ).b, .int .i64 (upO (m.cl c) μ).s]] W fun e w' => e = .returned (dstr t) ∧ Below W.heap.size W w') := fun W => opDo_app m.srv t (upO (m.cl c) μ) hw ha ht W
  have hc' : (c : Int) < (m.n : Int) := by omega
  have HH := hidP ha0
  have n4 : m.n ≤ 4 := ha0.n4
  have HWa : Hid (Wa = w.alloc (.cells #[.int .i64 μ.o.k, .int .i64 μ.o.p, .int .i64 μ.o.b, .int .i64 μ.o.s, .int .i64 (μ.sent : Int), .int .i64 (μ.came : Int)] 94)) := hWa
  have HBa := hidP hba
  obtain ⟨z, hz⟩ : ∃ z, z = upO (m.cl c) μ := ⟨_, rfl⟩
  have Hz : Hid (z = upO (m.cl c) μ) := hz
  rw [← hz] at HMt HD
  have HCar : Hid (∀ W w1, DMet Wa W own mb L (m.set c (takeS (m.cl c) μ (m.cl c).up)) w1 → w.heap.size < W.heap.size → (∀ j, W.cell? ⟨w.heap.size, j, none⟩ = Wa.cell? ⟨w.heap.size, j, none⟩) → (w1.cell? ⟨L.vb, 2, none⟩ = some (.slice (some ⟨L.eb, 0, none⟩) m.n L.ecap) ∧ w1.cell? ⟨w.heap.size, 0, none⟩ = some (.int .i64 μ.o.k) ∧ w1.cell? ⟨w.heap.size, 1, none⟩ = some (.int .i64 μ.o.p) ∧ w1.cell? ⟨w.heap.size, 2, none⟩ = some (.int .i64 μ.o.b) ∧ w1.cell? ⟨w.heap.size, 3, none⟩ = some (.int .i64 μ.o.s) ∧ w1.cell? ⟨w.heap.size, 4, none⟩ = some (.int .i64 (μ.sent : Int)) ∧ w1.cell? ⟨w.heap.size, 5, none⟩ = some (.int .i64 (μ.came : Int))) ∧ w.heap.size < w1.heap.size ∧ L.vb < w1.heap.size) := fun W w1 hT hl hj => by
    obtain ⟨hc1, _, hc3⟩ := dmet_cell hT ha0 hzn
    obtain ⟨hb, own2, hr, hf⟩ := hT
    have g : ∀ j, w1.cell? ⟨w.heap.size, j, none⟩ = Wa.cell? ⟨w.heap.size, j, none⟩ := fun j => (hc1 j hl).trans (hj j)
    exact ⟨⟨hr.v1, (g 0).trans a0, (g 1).trans a1, (g 2).trans a2, (g 3).trans a3, (g 4).trans a4, (g 5).trans a5⟩, hc3 hl, hr.lto hr.o1⟩
  have hza1 : w.heap.size < Wa.heap.size + 1 := by omega
  have lv1 : L.vb < Wa.heap.size + 1 := by omega
  have HBd := hidP hB
  have HHl := hidP hh
  clear h hk1 hk2 hcc hlen ho hl hB ha hw ht hWa hba ha0 hz hh
  go_enter Try.func44, Try.ntmps44
  go_wp2_with fail
  rw [← HWa.out]
  go_cut [6] (fun s6 W => ∃ ob, s6 = .pointer (some ⟨ob, 0, none⟩) ∧ DOp Wa own mb L (m.set c (takeS (m.cl c) μ (m.cl c).up)) ob z W)
  case first =>
    go_region_held3 (fun W => W.cell? ⟨L.vb, 2, none⟩ = some (.slice (some ⟨L.eb, 0, none⟩) m.n L.ecap) ∧ W.cell? ⟨w.heap.size, 0, none⟩ = some (.int .i64 μ.o.k) ∧ W.cell? ⟨w.heap.size, 1, none⟩ = some (.int .i64 μ.o.p) ∧ W.cell? ⟨w.heap.size, 2, none⟩ = some (.int .i64 μ.o.b) ∧ W.cell? ⟨w.heap.size, 3, none⟩ = some (.int .i64 μ.o.s) ∧ W.cell? ⟨w.heap.size, 4, none⟩ = some (.int .i64 (μ.sent : Int)) ∧ W.cell? ⟨w.heap.size, 5, none⟩ = some (.int .i64 (μ.came : Int))) (simp [go_sem, *]) ((go_at_call 69; refine (HMt.out _ ?_).mono ?_; (repeat (first | exact Below.refl _ _ | apply Below.drew | refine bel_alloc ?_ _)); rintro e w1 ⟨rfl, hb1⟩; obtain ⟨⟨t0, t1, t2, t3, t4, t5, t6⟩, z1, z2⟩ := HCar.out _ _ hb1 (by simp [hza, hza1]) (fun j => by simp [go_sem, hza, hza1]); obtain ⟨p0, p2, p4⟩ := dmet_cell hb1 HH.out (k := Wa.heap.size) (HH.out.fresh (Nat.le_refl _)); (first | (have HB1 : Hid (∃ W, DMet Wa W own mb L (m.set c (takeS (m.cl c) μ (m.cl c).up)) w1 ∧ Wa.heap.size < W.heap.size) := ⟨_, hb1, lt_alloc' Wa _⟩) | (have HB1 : Hid (∃ W, DMet Wa W own mb L (m.set c (takeS (m.cl c) μ (m.cl c).up)) w1 ∧ Wa.heap.size < W.heap.size) := ⟨_, hb1, lt_alloc' Wa.drew _⟩) | (have HB1 : Hid (∃ W, DMet Wa W own mb L (m.set c (takeS (m.cl c) μ (m.cl c).up)) w1 ∧ True) := ⟨_, hb1, trivial⟩)); clear hb1; (try simp [go_sem] at p0); (try simp [go_sem] at p2); (try simp at p4)))
    all_goals
      go_wp2_with fail
      go_meet
      case rel =>
        go_light
        obtain ⟨W, hT, hWl⟩ := HB1.out
        first
          | with_reducible exact ⟨_, rfl, dop_new hT z 26⟩
          | exact ⟨_, rfl, dop_set hT HH.out p4 hWl p0 z⟩
  case rest =>
    obtain ⟨ob, rfl, hop⟩ := hcut
    have HFin : Hid (∀ w2, Below wc.heap.size wc w2 → DOp Wa own mb L { m.set c (takeS (m.cl c) μ (m.cl c).up) with srv := t } ob z (w2.setCell ⟨L.vb, 0, none⟩ (dstr t)) ∧ w2.cell? ⟨L.vb, 0, none⟩ = some (dstr m.srv) ∧ w2.frozen? ⟨L.vb, 0, none⟩ = false) := fun w2 hb2 => by
      obtain ⟨own2, h1, h2⟩ := hop.next
      have h3 := h1.below hb2
      obtain ⟨h4, h5⟩ := h3.srvSet t
      exact ⟨h2 w2 hb2 _ _ _ h4 h5, h3.v0, h3.vf 0⟩
    obtain ⟨own2, h1, _⟩ := hop.next
    have q0 : wc.cell? ⟨L.vb, 0, none⟩ = some (dstr m.srv) := h1.v0
    have lq := h1.lto h1.o1
    have lo := hop.lt
    obtain ⟨x0, x1, x2, x3⟩ := hop.op
    clear hop h1 HCar HMt HH a0 a1 a2 a3 a4 a5 v1
    go_wp2_with fail
    go_cut [] (fun W => DOp Wa own mb L { m.set c (takeS (m.cl c) μ (m.cl c).up) with srv := t } ob z W)
    case first =>
      go_region_with ((go_at_call 34; refine (HD.out _).mono ?_; rintro e w2 ⟨rfl, hb2⟩; obtain ⟨hm2, t5, tf⟩ := HFin.out w2 (bel_trans (Below.refl _ _).drew hb2); have HM2 : Hid (DOp Wa own mb L { m.set c (takeS (m.cl c) μ (m.cl c).up) with srv := t } ob z (w2.setCell ⟨L.vb, 0, none⟩ (dstr t))) := hm2; clear hb2 hm2))
      all_goals go_wp2_with fail
      all_goals go_meet
      all_goals exact HM2.out
    case rest =>
      have HOp := hidP hcut
      obtain ⟨own3, h3, hnx⟩ := hcut.next
      obtain ⟨vd, gd, y1, y2, y0, y3⟩ := h3.hs
      obtain ⟨da, dc, rfl⟩ := rowq_len y2
      have y4 := h3.vf 1
      have ly := h3.lto h3.o1
      have ly1 : L.vb < wc.heap.size + 1 := by omega
      have HA : Hid (∃ v' W', (∀ ty, (Builtin.append_ #[49, 49] ty #[.slice da m.hist.length dc, .slice (some ⟨wc.heap.size, 0, none⟩) 1 1]).run Try.prog (wc.drew.alloc (.cells #[.int .i64 z.k, .int .i64 z.p, .int .i64 z.b, .int .i64 z.s] 26)) = .ok v' W') ∧
          ((∃ a n c, v' = .slice a n c) ∧ ∃ g', RowQ W' 4 v' (flat4 (m.hist ++ [z])) g' ∧ KeptX (fun k => gd = some k) wc.drew W' ∧ (∀ k, g' = some k → gd = some k ∨ wc.heap.size < k) ∧ Off0 v' ∧ ∀ k, gd = some k → ∀ j, j < m.hist.length * 4 → W'.cell? ⟨k, j, none⟩ = wc.drew.cell? ⟨k, j, none⟩)) := by
        have q1 := y2.keep (w' := wc.drew) (F := fun _ => False) (KeptX.refl _ _).drew (fun _ _ e => e)
        have h1 := appH q1 y0 z HHl.out
        rw [show wc.drew.heap.size = wc.heap.size by simp] at h1
        exact h1
      have HF : Hid (∀ (a : Option Addr) (n cp : Nat) (W1 : World), (∃ g', RowQ W1 4 (.slice a n cp) (flat4 (m.hist ++ [z])) g' ∧ KeptX (fun k => gd = some k) wc.drew W1 ∧ (∀ k, g' = some k → gd = some k ∨ wc.heap.size < k) ∧ Off0 (.slice a n cp) ∧ ∀ k, gd = some k → ∀ j, j < m.hist.length * 4 → W1.cell? ⟨k, j, none⟩ = wc.drew.cell? ⟨k, j, none⟩) →
          DOp Wa own mb L { m.set c (takeS (m.cl c) μ (m.cl c).up) with srv := t, hist := m.hist ++ [z] } ob z (W1.setCell ⟨L.vb, 1, none⟩ (.slice a n cp)) ∧ W1.cell? ⟨L.vb, 1, none⟩ = some (.slice da m.hist.length dc) ∧ W1.frozen? ⟨L.vb, 1, none⟩ = false) := fun a n cp W1 hh => by
        obtain ⟨g', hr, hk, hg, ho0, hpre⟩ := hh
        have hbd : Below wc.heap.size wc wc.drew := (Below.refl _ _).drew
        have h4 := h3.below hbd
        have hne : gd ≠ some L.vb := fun e => by have := y3 _ e; rw [h3.o1] at this; have := Option.some.inj this; omega
        have hlv : L.vb < wc.drew.heap.size := h4.lto h4.o1
        have y1' : wc.drew.cell? ⟨L.vb, 1, none⟩ = some (.slice da m.hist.length dc) := (hbd.cell (p := ⟨L.vb, 1, none⟩) ly).trans y1
        obtain ⟨own5, h5, h6⟩ := h4.histSet y1' y3 hk hr (fun k e => (hg k e).imp id (fun x => by simp; omega)) ho0 hpre (by simp [Moo.set])
        exact ⟨hnx _ hbd _ _ _ h5 h6, (hk.cell (p := ⟨L.vb, 1, none⟩) hlv hne).trans y1', (hk.frozen (p := ⟨L.vb, 1, none⟩) hlv hne).trans (h4.vf 1)⟩
      obtain ⟨x0, x1, x2, x3⟩ := HOp.out.op
      have lo := HOp.out.lt
      have lo1 : ob < wc.heap.size + 1 := by omega
      clear h3 hnx y2 y0 y3 q0 lq HFin HD hcut
      go_wp2_with fail
      go_cut [] (fun W => DOp Wa own mb L { m.set c (takeS (m.cl c) μ (m.cl c).up) with srv := t, hist := m.hist ++ [z] } ob z W)
      case first =>
        go_region_law (refine step_append_ex (by rfl) _ _ _ _ (by rfl) _ _ (by rfl) (by rfl) _ HA.out ?_; rintro v1 W1 ⟨⟨a1, n1, cp1, rfl⟩, hw1⟩; obtain ⟨hm, hc3, hf3⟩ := HF.out _ _ _ _ hw1; have HM := hidP hm; clear hw1 hm)
        all_goals go_wp2_with fail
        all_goals go_meet
        all_goals exact HM.out
      case rest =>
        have HOp := hidP hcut
        obtain ⟨own3, h3, _⟩ := hcut.next
        have r1 : wc.cell? ⟨L.vb, 2, none⟩ = some (.slice (some ⟨L.eb, 0, none⟩) m.n L.ecap) := h3.v1
        have HTell : Hid (∀ wr j, j < m.n → DOp Wa own mb L (toldM { m.set c (takeS (m.cl c) μ (m.cl c).up) with srv := t, hist := m.hist ++ [z] } c z j) ob z wr → ∀ W, Below wr.heap.size wr W → Calls Try.prog 70 #[.pointer (some ⟨L.eb, j * 5, none⟩), .int .i64 (c : Int), .agg #[.int .i64 z.k, .int .i64 z.p, .int .i64 z.b, .int .i64 z.s]] W fun e w' => e = .returned (.tuple #[]) ∧ Hid (DOp Wa own mb L (toldM { m.set c (takeS (m.cl c) μ (m.cl c).up) with srv := t, hist := m.hist ++ [z] } c z (j + 1)) ob z w')) := fun wr j hj hd W hW => by
          obtain ⟨own4, h4, h5⟩ := hd.next
          have hb := HBd.out j hj
          have e1 : ((toldM { m.set c (takeS (m.cl c) μ (m.cl c).up) with srv := t, hist := m.hist ++ [z] } c z j).cl j).ts = (m.cl j).ts ∧ (Cli.tq ((toldM { m.set c (takeS (m.cl c) μ (m.cl c).up) with srv := t, hist := m.hist ++ [z] } c z j).cl j)).length ≤ (Cli.tq (m.cl j)).length ∧ ((toldM { m.set c (takeS (m.cl c) μ (m.cl c).up) with srv := t, hist := m.hist ++ [z] } c z j).cl j).dn = (m.cl j).dn := by
            rw [told_self]
            show ((m.set c (takeS (m.cl c) μ (m.cl c).up)).cl j).ts = _ ∧ (Cli.tq ((m.set c (takeS (m.cl c) μ (m.cl c).up)).cl j)).length ≤ _ ∧ ((m.set c (takeS (m.cl c) μ (m.cl c).up)).cl j).dn = _
            by_cases e : j = c
            · subst e
              rw [dset_at]
              refine ⟨rfl, ?_, rfl⟩
              simp only [takeS, cross_len, List.length_drop]
              omega
            · rw [dset_far _ _ e]; exact ⟨rfl, Nat.le_refl _, rfl⟩
          refine (tell_any (h4.below hW) j hj c z (by rw [e1.1]; omega) (by have := e1.2.1; omega) (by rw [e1.2.2]; exact hb.2.2)).mono ?_
          rintro e w' ⟨rfl, own5, h6, h7⟩
          rw [told_succ] at h6
          exact ⟨rfl, h5 W hW _ _ _ h6 h7⟩
        clear h3 hcut lo lo1 x0 x1 x2 x3 y1 y4 ly ly1 HA HF
        go_wp2_with fail
        go_loopw [41] (fun i wr => ∃ j : Nat, j ≤ m.n ∧ i = .int .i64 (j : Int) ∧ DOp Wa own mb L (toldM { m.set c (takeS (m.cl c) μ (m.cl c).up) with srv := t, hist := m.hist ++ [z] } c z j) ob z wr) (fun i _ => m.n - (RowKit.intOf i).toNat)
        case atStart => exact ⟨0, Nat.zero_le _, rfl, by rw [told_zero]; exact HOp.out⟩
        case round =>
          obtain ⟨j, hjn, rfl, hd⟩ := hrel
          by_cases hlt : j < m.n
          · have hlt' : (j : Int) < (m.n : Int) := by omega
            have hj4 : (j : Int) < 4 := by omega
            have hj5 : j < 4 := by omega
            have HT2 := hidP (HTell.out wr j hlt hd)
            obtain ⟨own4, h4, _⟩ := hd.next
            have s1 : wr.cell? ⟨L.vb, 2, none⟩ = some (.slice (some ⟨L.eb, 0, none⟩) m.n L.ecap) := h4.v1
            obtain ⟨x0, x1, x2, x3⟩ := hd.op
            clear h4 hd HTell HOp
            go_wp2_with fail
            go_region_with ((go_at_call 70; refine (HT2.out _ (by repeat (first | exact Below.refl _ _ | apply Below.drew | refine bel_alloc ?_ _))).mono ?_; rintro e w3 ⟨rfl, hr3⟩; have HR3 : Hid (DOp Wa own mb L (toldM { m.set c (takeS (m.cl c) μ (m.cl c).up) with srv := t, hist := m.hist ++ [z] } c z (j + 1)) ob z w3) := hr3; clear hr3))
            all_goals go_wp2_with fail
            all_goals exact ⟨⟨j + 1, by omega, by go_num, HR3.out⟩, by simp [RowKit.intOf]; omega⟩
          · have hje : j = m.n := by omega
            subst hje
            have HFn : Hid (∃ own', DevM wr mb (upM m c μ (m.cl c).up t) L own' ∧ DFrm w own wr own') := by
              obtain ⟨⟨own5, h5, h6, _⟩, _, _, _⟩ := hd
              refine ⟨own5, h5.congr rfl rfl (by show m.hist ++ [upO (m.cl c) μ] = m.hist ++ [z]; rw [← Hz.out]) (fun i hi => ?_), (DFrm.of_below HBa.out).trans h6⟩
              have := told_all m c μ (m.cl c).up t (m.hist ++ [z]) i hi
              rw [← Hz.out] at this
              exact this.symm
            clear hd HTell HOp
            go_wp2
            simp [bodyPost, results, Try.results44, go_sem]
            exact HFn.out
end
end Go.Proofs.Ytabahmcbhapbiaa
namespace Go.Proofs.Ytabahmcbhapbiaa
open Go.RowKit Go.Lib
set_option linter.unusedVariables false
section
variable {w w' : World} {mb : Nat} {m : Moo} {L : DLay} {own : Nat → Option Nat}
set_option maxHeartbeats 1000000 in
theorem devUp_none (h : DevM w mb m L own) (c : Nat) (hc : c < m.n) (hu : (m.cl c).up = []) :
    Calls Try.prog 25 #[.pointer (some ⟨mb, 0, none⟩), .int .i64 (c : Int)] w fun e w' => e = .returned (.int .i64 5) ∧ Below w.heap.size w w' := by
  have HH : Hid (∀ W, Below w.heap.size w W → Calls Try.prog 36 #[.pointer (some ⟨mb, 0, none⟩), .int .i64 (c : Int)] W fun e w' => e = .returned (.bool true) ∧ W = w') := fun W hW => by rw [← hasB_nat hc]; exact has_any (h.below hW) c
  have HN : Hid (∀ W, Below w.heap.size w W → Calls Try.prog 43 #[.pointer (some ⟨L.cb c, 0, none⟩)] W fun e w' => e = .returned (.tuple #[.agg #[.int .i64 0, .int .i64 0, .int .i64 0, .int .i64 0, .int .i64 0, .int .i64 0], .bool false]) ∧ Below W.heap.size W w') := fun W hW => by
    obtain ⟨go, gq, ⟨⟨vo, vq, he⟩, _, _⟩, _, h3, h4⟩ := (h.below hW).cl c hc
    rw [hu] at he
    exact enext_none (L.cb c) 0 (m.cl c).hs (m.cl c).hc vo vq (m.cl c).ho go gq W he
  have m1 := h.m1
  have kp := h.kp c hc
  have hc' : (c : Int) < (m.n : Int) := by omega
  clear h hu
  go_enter Try.func25, Try.ntmps25
  go_wp2_with fail
  refine (HH.out _ (by repeat (first | exact Below.refl _ _ | apply Below.drew | refine bel_alloc ?_ _))).mono ?_
  rintro e w1 ⟨rfl, rfl⟩
  go_wp2_with fail
  refine (HN.out _ (by repeat (first | exact Below.refl _ _ | apply Below.drew | refine bel_alloc ?_ _))).mono ?_
  rintro e w2 ⟨rfl, hb2⟩
  have HB2 : Hid (Below w.heap.size w w2) := hb2
  clear hb2
  go_wp2
  go_ret
  exact ⟨rfl, by refine bel_trans HB2.out ?_; repeat (first | exact Below.refl _ _ | apply Below.drew | refine bel_alloc ?_ _)⟩
set_option maxHeartbeats 2000000 in
theorem devUp_ok (h : DevM w mb m L own) (c : Nat) (hc : c < m.n) (μ : Msg) (r : List Msg) (hu : (m.cl c).up = μ :: r) (hk1 : (m.cl c).tk ≤ μ.came) (hk2 : μ.came - (m.cl c).tk ≤ (Cli.tq (m.cl c)).length) (hcc : (m.cl c).tc ≤ 1000000000000000000) (hlen : (Cli.tq (m.cl c)).length ≤ 10000000000000) (ho : Bd 100000000000000 μ.o) (hl : ∀ y ∈ (Cli.tq (m.cl c)), Bd 100000000000000 y)
    (hB : ∀ i, i < m.n → (m.cl i).ts ≤ 4398046511000 ∧ (Cli.tq (m.cl i)).length ≤ 4398046511000 ∧ ((m.cl i).dn.length + 1) * 48 ≤ 140737488355328) (t : List UInt8) (ha : app m.srv (upO (m.cl c) μ) = some t) (hw : Wf (upO (m.cl c) μ)) (ht : m.srv.length ≤ 1000) (hh : (m.hist.length + 1) * 32 ≤ 140737488355328) :
    Calls Try.prog 25 #[.pointer (some ⟨mb, 0, none⟩), .int .i64 (c : Int)] w fun e w' => e = .returned (.int .i64 0) ∧ Hid (∃ own', DevM w' mb (upM m c μ r t) L own' ∧ DFrm w own w' own') := by
  have HH : Hid (∀ W, Below w.heap.size w W → Calls Try.prog 36 #[.pointer (some ⟨mb, 0, none⟩), .int .i64 (c : Int)] W fun e w' => e = .returned (.bool true) ∧ W = w') := fun W hW => by rw [← hasB_nat hc]; exact has_any (h.below hW) c
  have HN : Hid (Calls Try.prog 43 #[.pointer (some ⟨L.cb c, 0, none⟩)] w fun e w' => e = .returned (.tuple #[.agg #[.int .i64 μ.o.k, .int .i64 μ.o.p, .int .i64 μ.o.b, .int .i64 μ.o.s, .int .i64 (μ.sent : Int), .int .i64 (μ.came : Int)], .bool true]) ∧ Hid (∃ own', DevM w' mb (m.set c { m.cl c with up := r }) L own' ∧ DFrm w own w' own')) := by
    obtain ⟨go, gq, ⟨⟨vo, vq, he⟩, c4, c5⟩, q2, q3, q4⟩ := h.cl c hc
    rw [hu] at he
    refine (enext_some (L.cb c) 0 (m.cl c).hs (m.cl c).hc vo vq (m.cl c).ho μ r go gq w he).mono ?_
    rintro e w' ⟨rfl, vq', hs⟩
    obtain ⟨h1, h2⟩ := h.cliSet hc (x' := { m.cl c with up := r }) q2 q3 q4 (LocKept.of_set hs) ⟨⟨vo, vq', hs.en⟩, (hs.ot 4 (by omega)).trans c4, (hs.ot 5 (by omega)).trans c5⟩ (h.ko c hc).1 rfl rfl rfl rfl rfl
    exact ⟨rfl, _, h1, h2⟩
  have HCm : Hid (∀ w1, (∃ own', DevM w1 mb (m.set c { m.cl c with up := r }) L own' ∧ DFrm w own w1 own') → ∀ W, Below w1.heap.size w1 W → Calls Try.prog 44 #[.pointer (some ⟨L.vb, 0, none⟩), .int .i64 (c : Int), .agg #[.int .i64 μ.o.k, .int .i64 μ.o.p, .int .i64 μ.o.b, .int .i64 μ.o.s, .int .i64 (μ.sent : Int), .int .i64 (μ.came : Int)]] W fun e w' => e = .returned (.tuple #[]) ∧ Hid (∃ own', DevM w' mb (upM m c μ r t) L own' ∧ DFrm w own w' own')) := fun w1 hw1 W hW => by
    obtain ⟨own1, h1, hf1⟩ := hw1
    have h2 := h1.below hW
    have e1 : (m.set c { m.cl c with up := r }).cl c = { m.cl c with up := r } := dset_at _ _ _
    have hS := scome_any h2 c hc μ (by rw [e1]; exact hk1) (by rw [e1]; exact hk2) (by rw [e1]; exact hcc) (by rw [e1]; exact hlen) ho (by rw [e1]; exact hl) (fun i hi => by
      by_cases e : i = c
      · subst e; rw [e1]; exact hB i hi
      · rw [dset_far _ _ e]; exact hB i hi) t (by rw [e1]; exact ha) (by rw [e1]; exact hw) ht hh
    refine hS.mono ?_
    rintro e w' ⟨rfl, own', h3, h4⟩
    refine ⟨rfl, own', h3.congr rfl rfl (by show m.hist ++ [upO (m.cl c) μ] = m.hist ++ [upO ((m.set c { m.cl c with up := r }).cl c) μ]; rw [e1]; rfl) (fun i hi => ?_), (hf1.trans (DFrm.of_below hW)).trans h4⟩
    unfold upM
    simp only
    rw [e1]
    by_cases e : i = c
    · subst e; simp [takeS]
    · simp only [if_neg e]
      rw [dset_far _ _ e]
      rfl
  have HX : Hid (∀ w1, (∃ own', DevM w1 mb (m.set c { m.cl c with up := r }) L own' ∧ DFrm w own w1 own') → w1.cell? ⟨mb, 0, none⟩ = some (.pointer (some ⟨L.vb, 0, none⟩)) ∧ mb < w1.heap.size) := fun w1 hw1 => by
    obtain ⟨own1, h1, hf1⟩ := hw1
    exact ⟨h1.m0, h1.lto h1.o0⟩
  have m1 := h.m1
  have kp := h.kp c hc
  have hc' : (c : Int) < (m.n : Int) := by omega
  clear h hu hk1 hk2 hcc hlen ho hl hB ha hw ht hh
  go_enter Try.func25, Try.ntmps25
  go_wp2_with fail
  refine (HH.out _ (by repeat (first | exact Below.refl _ _ | apply Below.drew | refine bel_alloc ?_ _))).mono ?_
  rintro e w1 ⟨rfl, rfl⟩
  go_wp2_with fail
  refine HN.out.mono ?_
  rintro e w2 ⟨rfl, hn2⟩
  obtain ⟨e1, l1⟩ := HX.out w2 hn2
  have HCm2 := hidP (HCm.out w2 hn2)
  clear hn2 HCm HX HN HH
  go_wp2_with fail
  go_region_with ((go_at_call 44; refine (HCm2.out _ (by repeat (first | exact Below.refl _ _ | apply Below.drew | refine bel_alloc ?_ _))).mono ?_; rintro e w3 ⟨rfl, hr3⟩; have HR3 : Hid (∃ own', DevM w3 mb (upM m c μ r t) L own' ∧ DFrm w own w3 own') := hr3; clear hr3))
  all_goals go_wp2
  all_goals go_ret
  all_goals exact ⟨rfl, HR3.out⟩
end
end Go.Proofs.Ytabahmcbhapbiaa
