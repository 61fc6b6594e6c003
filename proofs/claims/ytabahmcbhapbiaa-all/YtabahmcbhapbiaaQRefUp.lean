import Derived.Test.YtabahmcbhapbiaaQRefX
import Derived.Test.YtabahmcbhapbiaaQDevUp
import Derived.Deep.LoopGhost
import Derived.Deep.RegionHeld3
import Derived.Deep.DeepCutAuto
namespace Go.Proofs.Ytabahmcbhapbiaa
open Go.RowKit Go.Lib
set_option linter.unusedVariables false
section
variable {w w' W1 : World} {mb : Nat} {m : Moo} {L : Lay} {own : Nat → Option Slot}
/-- How Up stands when the message is taken out of its queue: x lies at the block xb. -/
structure UpAt (w : World) (own : Nat → Option Slot) (mb : Nat) (m : Moo) (L : Lay) (c : Nat) (μ : Msg) (r : List Msg) (xb : Nat) (W : World) : Prop where
  rm : ∃ v' g', RefM W mb (m.set c { m.cl c with up := r }) { L with uv := fun j => if j = c then v' else L.uv j, ug := fun j => if j = c then g' else L.ug j } (reown own (9, c) g') ∧ Frm w own W (reown own (9, c) g') ∧ reown own (9, c) g' xb = none
  lt : xb < W.heap.size
  x0 : W.cell? ⟨xb, 0, none⟩ = some (.int .i64 μ.o.k)
  x1 : W.cell? ⟨xb, 1, none⟩ = some (.int .i64 μ.o.p)
  x2 : W.cell? ⟨xb, 2, none⟩ = some (.int .i64 μ.o.b)
  x3 : W.cell? ⟨xb, 3, none⟩ = some (.int .i64 μ.o.s)
  x4 : W.cell? ⟨xb, 4, none⟩ = some (.int .i64 (μ.sent : Int))
  x5 : W.cell? ⟨xb, 5, none⟩ = some (.int .i64 (μ.came : Int))
theorem up_at (h : RefM w mb m L own) {c : Nat} (hc : c < m.n) (μ : Msg) (r : List Msg) {v' : Value} {gb : Nat} (hg : L.ug c = some gb) (hq : RowQ w 6 v' (flat6 r) (some gb)) (ty : TypeId) :
    UpAt w own mb m L c μ r w.heap.size (((w.setCell ⟨L.ub, c, none⟩ v').alloc (.cells #[.int .i64 μ.o.k, .int .i64 μ.o.p, .int .i64 μ.o.b, .int .i64 μ.o.s, .int .i64 (μ.sent : Int), .int .i64 (μ.came : Int)] ty)).drew) := by
  have h1 := h.upsSet hc r v' (some gb) (KeptX.refl _ _) hq (Or.inl hg.symm)
  have hsz : (w.setCell ⟨L.ub, c, none⟩ v').heap.size = w.heap.size := by simp [World.setCell]
  have hog : own gb = some (9, c) := h.ow (9, c) gb ⟨hc, hg⟩
  have hk : KeptX (fun k => k = L.ub) w (((w.setCell ⟨L.ub, c, none⟩ v').alloc (.cells #[.int .i64 μ.o.k, .int .i64 μ.o.p, .int .i64 μ.o.b, .int .i64 μ.o.s, .int .i64 (μ.sent : Int), .int .i64 (μ.came : Int)] ty)).drew) := ((keptX_set L.ub c v').alloc _).drew
  refine ⟨⟨v', some gb, h1.keep (F := fun _ => False) ((KeptX.refl _ _).alloc _).drew (fun _ _ e => e), frame_reown hk (fun k e => by rw [e, h.o4]; simp) (fun k e => Or.inl (by cases e; rw [hog]; simp)), ?_⟩, ?_, ?_, ?_, ?_, ?_, ?_, ?_⟩
  · by_cases e : reown own (9, c) (some gb) w.heap.size = none
    · exact e
    · rcases reown_foot e with x | x
      · exact absurd (h.lt _ x) (by omega)
      · cases x
        exact absurd (h.lto hog) (by omega)
  · simp [World.setCell]
  all_goals simp [go_sem]
theorem took_up {wc : World} {L1 : Lay} {own1 : Nat → Option Slot} {c : Nat} {μ : Msg} {r : List Msg} (hc : c < m.n) (hr1 : RefM wc mb (m.set c { m.cl c with up := r }) L1 own1) (hkn : (m.cl c).tk ≤ μ.came) (hd : μ.came - (m.cl c).tk ≤ (m.cl c).tq.length) (b1 : (m.cl c).tc ≤ 1000000000000000000) (b2 : μ.came ≤ 1000000000000000000)
    (hlen : (m.cl c).tq.length ≤ 2000000000000) (ho : Bd 100000000000000 μ.o) (hl : ∀ x ∈ (m.cl c).tq, Bd 100000000000000 x) (o2 : Op4) (ho2 : o2 = upO (m.cl c) μ) (W : World) (hW : Below wc.heap.size wc W) :
    Calls Try.prog 82 #[.pointer (some ⟨L1.sb, c * 4, none⟩), .agg #[.int .i64 μ.o.k, .int .i64 μ.o.p, .int .i64 μ.o.b, .int .i64 μ.o.s, .int .i64 (μ.sent : Int), .int .i64 (μ.came : Int)]] W fun e w1 =>
        e = .returned (.agg #[.int .i64 o2.k, .int .i64 o2.p, .int .i64 o2.b, .int .i64 o2.s]) ∧ Took wc W own1 mb L1 (m.set c (takeS (m.cl c) μ r)) w1 := by
  have h2 := hr1.below hW
  refine (take_there h2 (c := c) hc μ (by rw [set_at]; exact hkn) (by rw [set_at]; exact hd) (by rw [set_at]; exact b1) b2 (by rw [set_at]; exact hlen) ho (by rw [set_at]; exact hl)).mono ?_
  rintro e w1 ⟨o3, h3, rfl, v', g', k1, k2⟩
  rw [set_at] at h3
  have e3 : o3 = o2 := h3.trans ho2.symm
  rw [e3]
  rw [set_set, set_at] at k1
  refine ⟨rfl, hW, _, _, ?_, k1, k2⟩
  exact ⟨rfl, rfl, rfl, rfl, rfl, rfl⟩
/-- The next call on the moot. -/
theorem OpAt.next {wc W0 : World} {m2 : Moo} {ob : Nat} {u : Op4} (h : OpAt wc own mb L m2 ob u W0) : ∃ L2 own2, SameL L L2 ∧ RefM W0 mb m2 L2 own2 ∧ own2 ob = none ∧ (∀ W, Below W0.heap.size W0 W → ∀ w' own' m' L', RefM w' mb m' L' own' → Frm W own2 w' own' → SameL L2 L' → OpAt wc own mb L m' ob u w') := by
  obtain ⟨L2, own2, hsl, hr, hf, op, hn, ge, lt⟩ := h
  refine ⟨L2, own2, hsl, hr, hn, fun W hW w' own' m' L' hr' hf' hs' => ?_⟩
  have hlt : ob < W.heap.size := Nat.lt_of_lt_of_le lt hW.size
  refine ⟨L', own', ?_, hr', (hf.below hW).trans hf', op4at_keep (op4at_keep op (KeptX.of_below (F := fun _ => False) hW) lt (fun e => e)) hf'.1 hlt (fun e => e hn), ?_, ge, Nat.lt_of_lt_of_le hlt hf'.1.size⟩
  · obtain ⟨a1, a2, a3, a4, a5, a6⟩ := hsl
    obtain ⟨b1, b2, b3, b4, b5, b6⟩ := hs'
    exact ⟨b1.trans a1, b2.trans a2, b3.trans a3, b4.trans a4, b5.trans a5, b6.trans a6⟩
  · by_cases e : own' ob = none
    · exact e
    · rcases hf'.2 _ e with x | x
      · exact absurd hn x
      · omega
theorem OpAt.below {wc W0 W : World} {m2 : Moo} {ob : Nat} {u : Op4} (h : OpAt wc own mb L m2 ob u W0) (hb : Below W0.heap.size W0 W) : OpAt wc own mb L m2 ob u W := by
  obtain ⟨L2, own2, hsl, hr, hn, hx⟩ := h.next
  exact hx W hb W own2 m2 L2 (hr.below hb) (Frm.refl _ _) ⟨rfl, rfl, rfl, rfl, rfl, rfl⟩
/-- The server's text is set. -/
theorem opAt_srv {wc W0 W : World} {m2 : Moo} {ob : Nat} {u : Op4} (h : OpAt wc own mb L m2 ob u W0) (hb : Below W0.heap.size W0 W) (t : List UInt8) : OpAt wc own mb L { m2 with srv := t } ob u (W.setCell ⟨mb, 1, none⟩ (str t)) ∧ W.cell? ⟨mb, 1, none⟩ = some (str m2.srv) ∧ W.frozen? ⟨mb, 1, none⟩ = false := by
  obtain ⟨L2, own2, hsl, hr, hn, hx⟩ := h.next
  have hr1 := hr.below hb
  obtain ⟨⟨_, a1, _⟩, f⟩ := hr1.pc 0 0 (fun _ => rfl)
  exact ⟨hx W hb _ _ _ L2 (hr1.srvSet t) (frame_reown (keptX_set mb 1 (str t)) (fun k e => by rw [e, hr1.o0]; simp) (fun k e => Or.inl (by cases e; rw [hr1.o0]; simp))) ⟨rfl, rfl, rfl, rfl, rfl, rfl⟩, a1, f 1⟩
/-- The history grows. -/
theorem opAt_hist {wc W0 : World} {m2 : Moo} {ob : Nat} {u : Op4} (h : OpAt wc own mb L m2 ob u W0) (hh : (m2.hist.length + 1) * 32 ≤ 140737488355328) (x : Op4) :
    ∃ da dc, W0.cell? ⟨mb, 6, none⟩ = some (.slice da m2.hist.length dc) ∧ W0.frozen? ⟨mb, 6, none⟩ = false ∧ mb < W0.heap.size ∧
      ∃ v' W', (∀ ty, (Builtin.append_ #[49, 49] ty #[.slice da m2.hist.length dc, .slice (some ⟨W0.heap.size, 0, none⟩) 1 1]).run Try.prog (W0.drew.alloc (.cells #[.int .i64 x.k, .int .i64 x.p, .int .i64 x.b, .int .i64 x.s] 26)) = .ok v' W') ∧
        ((∃ a n cp, v' = .slice a n cp) ∧ OpAt wc own mb L { m2 with hist := m2.hist ++ [x] } ob u (W'.setCell ⟨mb, 6, none⟩ v') ∧ W'.cell? ⟨mb, 6, none⟩ = some (.slice da m2.hist.length dc) ∧ W'.frozen? ⟨mb, 6, none⟩ = false) := by
  obtain ⟨L2, own2, hsl, hr, hn, hx⟩ := h.next
  have hbd : Below W0.heap.size W0 W0.drew := (Below.refl _ _).drew
  have hr1 := hr.below hbd
  obtain ⟨⟨_, _, _, _, _, _, a6⟩, f⟩ := hr.pc 0 0 (fun _ => rfl)
  have hq : RowQ W0 4 L2.hv (flat4 m2.hist) L2.hg := hr.pc 6 0 (fun _ => rfl)
  have hq1 : RowQ W0.drew 4 L2.hv (flat4 m2.hist) L2.hg := hr1.pc 6 0 (fun _ => rfl)
  obtain ⟨da, dc, hv⟩ := rowq_len hq
  obtain ⟨v', W', h1, h2, g', h3, h4, h5⟩ := app_op hq1 x hh
  have hub : ∀ k, L2.hg = some k → own2 k = some (6, 0) := fun k e => hr.ow (6, 0) k ⟨rfl, e⟩
  have hnm : ¬ L2.hg = some mb := fun e => by have := hub _ e; rw [hr.o0] at this; cases this
  have hlm := hr1.lto hr1.o0
  have h6 := hr1.histSet (m2.hist ++ [x]) v' g' h4 h3 h5
  have hkk : KeptX (fun k => L2.hg = some k ∨ k = mb) W0.drew (W'.setCell ⟨mb, 6, none⟩ v') := (h4.mono (G := fun k => L2.hg = some k ∨ k = mb) (fun _ _ e => Or.inl e)).setCell (p := ⟨mb, 6, none⟩) (fun _ => Or.inr rfl) v'
  rw [hv] at a6 h1
  refine ⟨da, dc, a6, f 6, hr.lto hr.o0, v', W', h1, h2, hx W0.drew hbd _ _ _ _ h6 (frame_reown hkk (fun k e => ?_) (fun k e => ?_)) ⟨rfl, rfl, rfl, rfl, rfl, rfl⟩, ((h4.cell (p := ⟨mb, 6, none⟩) hlm hnm).trans (hbd.cell (p := ⟨mb, 6, none⟩) (hr.lto hr.o0))).trans a6, ((h4.frozen (p := ⟨mb, 6, none⟩) hlm hnm).trans (hbd.frozen (p := ⟨mb, 6, none⟩) (hr.lto hr.o0))).trans (f 6)⟩
  · rcases e with e | e
    · rw [hub k e]; simp
    · rw [e, hr.o0]; simp
  · rcases h5 with y | y
    · left; rw [hub k (by rw [← y]; exact e)]; simp
    · exact Or.inr (y k e)
theorem OpAt.from {w wc W : World} {own1 : Nat → Option Slot} {m2 : Moo} {ob : Nat} {u : Op4} (h : OpAt wc own1 mb L m2 ob u W) (hf : Frm w own wc own1) : OpAt w own mb L m2 ob u W := by
  obtain ⟨L2, own2, hsl, hr, hf2, op, hn, ge, lt⟩ := h
  exact ⟨L2, own2, hsl, hr, hf.trans hf2, op, hn, Nat.le_trans hf.1.size ge, lt⟩
/-- What the code reads of the moot. -/
theorem OpAt.facts {wc W0 : World} {m2 : Moo} {ob : Nat} {u : Op4} (h : OpAt wc own mb L m2 ob u W0) : W0.cell? ⟨mb, 0, none⟩ = some (.slice (some ⟨L.tb, 0, none⟩) m2.n L.tcap) ∧ W0.cell? ⟨mb, 1, none⟩ = some (str m2.srv) ∧ W0.cell? ⟨mb, 3, none⟩ = some (.slice (some ⟨L.sb, 0, none⟩) m2.n m2.n) ∧ W0.cell? ⟨mb, 5, none⟩ = some (.slice (some ⟨L.db, 0, none⟩) m2.n m2.n) ∧ mb < W0.heap.size ∧
    W0.cell? ⟨ob, 0, none⟩ = some (.int .i64 u.k) ∧ W0.cell? ⟨ob, 1, none⟩ = some (.int .i64 u.p) ∧ W0.cell? ⟨ob, 2, none⟩ = some (.int .i64 u.b) ∧ W0.cell? ⟨ob, 3, none⟩ = some (.int .i64 u.s) ∧ ob < W0.heap.size := by
  obtain ⟨L2, own2, ⟨e1, e2, e3, e4, e5, e6⟩, hr, hf2, ⟨o0, o1, o2, o3⟩, hn, ge, lt⟩ := h
  obtain ⟨⟨a0, a1, a2, a3, a4, a5, _⟩, _⟩ := hr.pc 0 0 (fun _ => rfl)
  rw [e1, e2] at a0
  rw [e4] at a3
  rw [e6] at a5
  exact ⟨a0, a1, a3, a5, hr.lto hr.o0, o0, o1, o2, o3, lt⟩
/-- A queue down grows. -/
theorem opAt_dn {wc W0 : World} {m2 : Moo} {ob j : Nat} {u : Op4} (h : OpAt wc own mb L m2 ob u W0) (hj : j < m2.n) (x : Msg) (hh : ((m2.cl j).dn.length + 1) * 48 ≤ 140737488355328) :
    ∃ da dc, W0.cell? ⟨L.db, j, none⟩ = some (.slice da (m2.cl j).dn.length dc) ∧ W0.frozen? ⟨L.db, j, none⟩ = false ∧ L.db < W0.heap.size ∧
      ∃ v' W', (∀ ty, (Builtin.append_ #[149, 149] ty #[.slice da (m2.cl j).dn.length dc, .slice (some ⟨W0.heap.size, 0, none⟩) 1 1]).run Try.prog (W0.drew.alloc (.cells #[.int .i64 x.o.k, .int .i64 x.o.p, .int .i64 x.o.b, .int .i64 x.o.s, .int .i64 (x.sent : Int), .int .i64 (x.came : Int)] 147)) = .ok v' W') ∧
        ((∃ a n cp, v' = .slice a n cp) ∧ OpAt wc own mb L (m2.set j { m2.cl j with dn := (m2.cl j).dn ++ [x] }) ob u (W'.setCell ⟨L.db, j, none⟩ v') ∧ W'.cell? ⟨L.db, j, none⟩ = some (.slice da (m2.cl j).dn.length dc) ∧ W'.frozen? ⟨L.db, j, none⟩ = false ∧ W'.cell? ⟨mb, 5, none⟩ = W0.cell? ⟨mb, 5, none⟩) := by
  obtain ⟨L2, own2, hsl, hr, hn, hx⟩ := h.next
  have e6 : L2.db = L.db := hsl.2.2.2.2.2
  rw [← e6]
  have hbd : Below W0.heap.size W0 W0.drew := (Below.refl _ _).drew
  have hr1 := hr.below hbd
  have hq : RowQ W0 6 (L2.dv j) (flat6 (m2.cl j).dn) (L2.dg j) := hr.pc 10 j (fun e => absurd e (by omega)) hj
  have hq1 : RowQ W0.drew 6 (L2.dv j) (flat6 (m2.cl j).dn) (L2.dg j) := hr1.pc 10 j (fun e => absurd e (by omega)) hj
  have hcd : W0.cell? ⟨L2.db, j, none⟩ = some (L2.dv j) := (hr.pc 5 0 (fun _ => rfl)).1 j hj
  have hfd : W0.frozen? ⟨L2.db, j, none⟩ = false := (hr.pc 5 0 (fun _ => rfl)).2 j
  obtain ⟨da, dc, hv⟩ := rowq6_len hq
  obtain ⟨v', W', h1, h2, g', h3, h4, h5⟩ := app_msg hq1 x hh
  have hub : ∀ k, L2.dg j = some k → own2 k = some (10, j) := fun k e => hr.ow (10, j) k ⟨hj, e⟩
  have hnm : ¬ L2.dg j = some mb := fun e => by have := hub _ e; rw [hr.o0] at this; cases this
  have hnd : ¬ L2.dg j = some L2.db := fun e => by have := hub _ e; rw [hr.o5] at this; cases this
  have hlm := hr1.lto hr1.o0
  have hld := hr1.lto hr1.o5
  have h6 := hr1.dnsSet hj ((m2.cl j).dn ++ [x]) v' g' h4 h3 h5
  have hkk : KeptX (fun k => L2.dg j = some k ∨ k = L2.db) W0.drew (W'.setCell ⟨L2.db, j, none⟩ v') := (h4.mono (G := fun k => L2.dg j = some k ∨ k = L2.db) (fun _ _ e => Or.inl e)).setCell (p := ⟨L2.db, j, none⟩) (fun _ => Or.inr rfl) v'
  rw [hv] at hcd h1
  refine ⟨da, dc, hcd, hfd, hr.lto hr.o5, v', W', h1, h2, hx W0.drew hbd _ _ _ _ h6 (frame_reown hkk (fun k e => ?_) (fun k e => ?_)) ⟨rfl, rfl, rfl, rfl, rfl, rfl⟩, ((h4.cell (p := ⟨L2.db, j, none⟩) hld hnd).trans (hbd.cell (p := ⟨L2.db, j, none⟩) (hr.lto hr.o5))).trans hcd, ((h4.frozen (p := ⟨L2.db, j, none⟩) hld hnd).trans (hbd.frozen (p := ⟨L2.db, j, none⟩) (hr.lto hr.o5))).trans hfd, (h4.cell (p := ⟨mb, 5, none⟩) hlm hnm).trans (hbd.cell (p := ⟨mb, 5, none⟩) (hr.lto hr.o0))⟩
  · rcases e with e | e
    · rw [hub k e]; simp
    · rw [e, hr.o5]; simp
  · rcases h5 with y | y
    · left; rw [hub k (by rw [← y]; exact e)]; simp
    · exact Or.inr (y k e)
/-- A side at the server sends. -/
theorem took_there {wc0 wr wc : World} {m2 : Moo} {ob j : Nat} {u : Op4} (h : OpAt wc0 own mb L m2 ob u wr) (hb : Below wr.heap.size wr wc) (hj : j < m2.n) (z : Op4) (b1 : (m2.cl j).ts ≤ 1000000000000000000) (hlen : (m2.cl j).tq.length ≤ 2000000000000) :
    ∃ own2, (∀ k, wr.heap.size ≤ k → own2 k = none) ∧ (∃ L2, RefM wc mb m2 L2 own2) ∧ (∀ W, Below wc.heap.size wc W → Calls Try.prog 81 #[.pointer (some ⟨L.sb, j * 4, none⟩), .agg #[.int .i64 z.k, .int .i64 z.p, .int .i64 z.b, .int .i64 z.s]] W fun e w1 =>
      e = .returned (.agg #[.int .i64 z.k, .int .i64 z.p, .int .i64 z.b, .int .i64 z.s, .int .i64 ((m2.cl j).ts : Int), .int .i64 ((m2.cl j).tc : Int)]) ∧ Took wc W own2 mb L (m2.set j { m2.cl j with ts := (m2.cl j).ts + 1, tq := (m2.cl j).tq ++ [z] }) w1) ∧
      ∀ W xb x m3, MsgAt wc own2 mb L m3 xb x W → OpAt wc0 own mb L m3 ob u W := by
  obtain ⟨L2, own2, hsl, hr, hn, hx⟩ := h.next
  refine ⟨own2, fun k e => hr.new e, ⟨L2, hr.below hb⟩, fun W hW => ?_, fun W xb x m3 hm => ?_⟩
  · rw [← hsl.2.2.2.1]
    refine (send_there ((hr.below hb).below hW) hj z b1 hlen).mono ?_
    rintro e w1 ⟨he, v', g', k1, k2⟩
    obtain ⟨s1, s2, s3, s4, s5, s6⟩ := hsl
    refine ⟨he, hW, _, _, ?_, k1, k2⟩
    exact ⟨s1, s2, s3, s4, s5, s6⟩
  · obtain ⟨L3, own3, h1, h2, h3, _⟩ := hm
    refine hx wc hb W own3 m3 L3 h2 h3 ?_
    obtain ⟨s1, s2, s3, s4, s5, s6⟩ := hsl
    obtain ⟨r1, r2, r3, r4, r5, r6⟩ := h1
    exact ⟨r1.trans s1.symm, r2.trans s2.symm, r3.trans s3.symm, r4.trans s4.symm, r5.trans s5.symm, r6.trans s6.symm⟩
/-- The moot is told by its clients up to n. -/
theorem RefM.congr (h : RefM w mb m L own) {m' : Moo} (hn : m'.n = m.n) (hs : m'.srv = m.srv) (hh : m'.hist = m.hist) (hc : ∀ i, i < m.n → m'.cl i = m.cl i) : RefM w mb m' L own := by
  refine ⟨by rw [hn]; exact h.n1, by rw [hn]; exact h.n4, by rw [hn]; exact h.tc, h.tc2, fun a i hai => ?_, by rw [hn]; exact h.ow, h.lt⟩
  have p := h.pc a i hai
  match a, p with
  | 0, p => simp only [Piece, hn, hs] at p ⊢; exact p
  | 1, p => exact ⟨fun j hj => by rw [hn] at hj; rw [hc j hj]; exact p.1 j hj, p.2⟩
  | 2, p => exact ⟨fun j hj => by rw [hn] at hj; rw [hc j hj]; exact p.1 j hj, p.2⟩
  | 3, p => exact ⟨fun j hj => by rw [hn] at hj; rw [hc j hj]; exact p.1 j hj, p.2⟩
  | 4, p => exact ⟨fun j hj => by rw [hn] at hj; exact p.1 j hj, p.2⟩
  | 5, p => exact ⟨fun j hj => by rw [hn] at hj; exact p.1 j hj, p.2⟩
  | 6, p => simp only [Piece, hh] at p ⊢; exact p
  | 7, p => exact fun hj => by have hj' : i < m.n := by rw [← hn]; exact hj
                               have := p hj'
                               simp only [hc i hj']
                               exact this
  | 8, p => exact fun hj => by have hj' : i < m.n := by rw [← hn]; exact hj
                               have := p hj'
                               simp only [hc i hj']
                               exact this
  | 9, p => exact fun hj => by have hj' : i < m.n := by rw [← hn]; exact hj
                               have := p hj'
                               simp only [hc i hj']
                               exact this
  | 10, p => exact fun hj => by have hj' : i < m.n := by rw [← hn]; exact hj
                                have := p hj'
                                simp only [hc i hj']
                                exact this
  | n + 11, p => exact trivial
set_option maxRecDepth 8000 in
set_option maxHeartbeats 4000000 in
theorem refUp_ok (h : RefM w mb m L own) {c : Nat} (hc : c < m.n) {μ : Msg} {r : List Msg} (hup : (m.cl c).up = μ :: r) (hkn : (m.cl c).tk ≤ μ.came) (hd : μ.came - (m.cl c).tk ≤ (m.cl c).tq.length) (b1 : (m.cl c).tc ≤ 1000000000000000000) (b2 : μ.came ≤ 1000000000000000000)
    (hlen : (m.cl c).tq.length ≤ 2000000000000) (ho : Bd 100000000000000 μ.o) (hl : ∀ x ∈ (m.cl c).tq, Bd 100000000000000 x) (t : List UInt8) (ha : app m.srv (upO (m.cl c) μ) = some t) (hw : Wf (upO (m.cl c) μ)) (ht : m.srv.length ≤ 1000) (hh : (m.hist.length + 1) * 32 ≤ 140737488355328) (hB : ∀ i, i < m.n → (m.cl i).ts ≤ 1900000000000 ∧ (m.cl i).tq.length ≤ 1900000000000 ∧ ((m.cl i).dn.length + 1) * 48 ≤ 140737488355328) :
    Calls Try.prog 53 #[.pointer (some ⟨mb, 0, none⟩), .int .i64 (c : Int)] w fun e w' => e = .returned (.int .i64 0) ∧ ∃ L' own', RefM w' mb (upM m c μ r t) L' own' ∧ Frm w own w' own' := by
  obtain ⟨⟨a0, a1, a2, a3, a4, a5, a6⟩, f⟩ := h.pc 0 0 (fun _ => rfl)
  have hi := is_any mb (some ⟨L.tb, 0, none⟩) m.n L.tcap c w a0
  rw [isB_nat hc] at hi
  have HI : Hid (Calls Try.prog 78 #[.pointer (some ⟨mb, 0, none⟩), .int .i64 (c : Int)] w fun e w' => e = .returned (.bool true) ∧ w = w') := hi
  have hq := h.pc 9 c (fun e => absurd e (by omega)) hc
  have hdb := (h.pc 4 0 (fun _ => rfl)).1 c hc
  have hfd := (h.pc 4 0 (fun _ => rfl)).2
  simp only [hup] at hq
  obtain ⟨gb, off, cap, hg, hv, hc1, hc2, hgl, ⟨x0, x1, x2, x3, x4, x5⟩, hqt⟩ := rowq6_head hq
  rw [hv] at hdb
  have hc' : (c : Int) < (m.n : Int) := by omega
  have hod : own gb = some (9, c) := h.ow (9, c) gb ⟨hc, hg⟩
  have hn0 : ¬ (gb = mb) := own_ne hod h.o0 (by simp)
  have hn1 : ¬ (gb = L.ub) := own_ne hod h.o4 (by simp)
  have hn2 : ¬ (L.ub = mb) := own_ne h.o4 h.o0 (by simp)
  have hlm : mb < w.heap.size := h.lto h.o0
  have hlb : L.ub < w.heap.size := h.lto h.o4
  have hcap : (r.length : Int) + 1 ≤ (cap : Int) := by omega
  have hcap1 : 1 ≤ (cap : Int) := by omega
  have HD : Hid (∀ v' ty, RowQ w 6 v' (flat6 r) (some gb) → UpAt w own mb m L c μ r w.heap.size (((w.setCell ⟨L.ub, c, none⟩ v').alloc (.cells #[.int .i64 μ.o.k, .int .i64 μ.o.p, .int .i64 μ.o.b, .int .i64 μ.o.s, .int .i64 (μ.sent : Int), .int .i64 (μ.came : Int)] ty)).drew)) := fun v' ty hq' => up_at h hc μ r hg hq' ty
  have HQ : Hid (RowQ w 6 (.slice (some ⟨gb, off + 6, none⟩) r.length (cap - 1)) (flat6 r) (some gb)) := hqt
  have HQ0 : Hid (r.length = 0 → RowQ w 6 (.slice (some ⟨gb, off, none⟩) r.length 0) (flat6 r) (some gb)) := fun e => Or.inr ⟨gb, off, 0, 0, rfl, by rw [e], by rw [flat6_len, e], Nat.le_refl _, by omega, hgl, fun j x hj => by
    have := (List.getElem?_eq_some_iff.1 hj).1
    rw [flat6_len, e] at this
    omega, fun j hj => by omega⟩
  clear hi h hq hqt hod
  go_enter Try.func53, Try.ntmps53
  go_wp2_with (go_at_call 78; refine HI.out.mono ?_; rintro e w1 ⟨rfl, rfl⟩)
  go_cut [] (fun W => UpAt w own mb m L c μ r w.heap.size W)
  case first =>
    go_region
    all_goals go_wp2_with fail
    all_goals go_meet
    · exact HD.out _ _ (HQ0.out (by omega))
    · exact HD.out _ _ HQ.out
  case rest =>
    obtain ⟨⟨v1, g1, hr1, hf1, hx1⟩, hxl, y0, y1, y2, y3, y4, y5⟩ := hcut
    obtain ⟨⟨q0, _, _, q2, _, _, _⟩, _⟩ := hr1.pc 0 0 (fun _ => rfl)
    have hlm1 : mb < wc.heap.size := hr1.lto hr1.o0
    have hlh1 : L.sb < wc.heap.size := hr1.lto hr1.o3
    have HR1 : Hid (RefM wc mb (m.set c { m.cl c with up := r }) { L with uv := fun j => if j = c then v1 else L.uv j, ug := fun j => if j = c then g1 else L.ug j } (reown own (9, c) g1) ∧ Frm w own wc (reown own (9, c) g1)) := ⟨hr1, hf1⟩
    obtain ⟨o2, ho2⟩ : ∃ o2, o2 = upO (m.cl c) μ := ⟨_, rfl⟩
    have q0' : wc.cell? ⟨mb, 0, none⟩ = some (.slice (some ⟨L.tb, 0, none⟩) m.n L.tcap) := q0
    have q2' : wc.cell? ⟨mb, 3, none⟩ = some (.slice (some ⟨L.sb, 0, none⟩) m.n m.n) := q2
    clear q0 q2
    have HO2 : Hid (o2 = upO (m.cl c) μ) := ho2
    have HTk : Hid (∀ W, Below wc.heap.size wc W → Calls Try.prog 82 #[.pointer (some ⟨L.sb, c * 4, none⟩), .agg #[.int .i64 μ.o.k, .int .i64 μ.o.p, .int .i64 μ.o.b, .int .i64 μ.o.s, .int .i64 (μ.sent : Int), .int .i64 (μ.came : Int)]] W fun e w1 =>
        e = .returned (.agg #[.int .i64 o2.k, .int .i64 o2.p, .int .i64 o2.b, .int .i64 o2.s]) ∧ Took wc W (reown own (9, c) g1) mb L (m.set c (takeS (m.cl c) μ r)) w1) := fun W hW => took_up hc hr1 hkn hd b1 b2 hlen ho hl o2 ho2 W hW
    have HCar : Hid (∀ W w1, Took wc W (reown own (9, c) g1) mb L (m.set c (takeS (m.cl c) μ r)) w1 → (w1.cell? ⟨mb, 3, none⟩ = some (.slice (some ⟨L.sb, 0, none⟩) m.n m.n) ∧ w1.cell? ⟨w.heap.size, 0, none⟩ = some (.int .i64 μ.o.k) ∧ w1.cell? ⟨w.heap.size, 1, none⟩ = some (.int .i64 μ.o.p) ∧ w1.cell? ⟨w.heap.size, 2, none⟩ = some (.int .i64 μ.o.b) ∧ w1.cell? ⟨w.heap.size, 3, none⟩ = some (.int .i64 μ.o.s) ∧ w1.cell? ⟨w.heap.size, 4, none⟩ = some (.int .i64 (μ.sent : Int)) ∧ w1.cell? ⟨w.heap.size, 5, none⟩ = some (.int .i64 (μ.came : Int))) ∧ mb < w1.heap.size ∧ w.heap.size < w1.heap.size) := fun W w1 hT =>
      ⟨⟨(took_moot hT).2.2.2.1, (took_keep hT hxl hx1 0).trans y0, (took_keep hT hxl hx1 1).trans y1, (took_keep hT hxl hx1 2).trans y2, (took_keep hT hxl hx1 3).trans y3, (took_keep hT hxl hx1 4).trans y4, (took_keep hT hxl hx1 5).trans y5⟩, by
        obtain ⟨hb, L2, own2, _, hr, hf⟩ := hT
        exact ⟨Nat.lt_of_lt_of_le hlm1 (Nat.le_trans hb.size hf.1.size), Nat.lt_of_lt_of_le hxl (Nat.le_trans hb.size hf.1.size)⟩⟩
    have hxl1 : w.heap.size < wc.heap.size + 1 := by omega
    have hlm2 : mb < wc.heap.size + 1 := by omega
    have HA : Hid (app m.srv o2 = some t ∧ Wf o2) := by rw [ho2]; exact ⟨ha, hw⟩
    clear hr1 hf1 ha hw ho2 a0 a1 a2 a3 a4 a5 a6 x0 x1 x2 x3 x4 x5 hdb hfd f HD HQ HQ0 HI hl ho
    go_wp2_with fail
    go_cut [7] (fun s7 W => ∃ ob, s7 = .pointer (some ⟨ob, 0, none⟩) ∧ OpAt wc (reown own (9, c) g1) mb L (m.set c (takeS (m.cl c) μ r)) ob o2 W)
    case first =>
      go_region_held3 (fun W => W.cell? ⟨mb, 3, none⟩ = some (.slice (some ⟨L.sb, 0, none⟩) m.n m.n) ∧ W.cell? ⟨w.heap.size, 0, none⟩ = some (.int .i64 μ.o.k) ∧ W.cell? ⟨w.heap.size, 1, none⟩ = some (.int .i64 μ.o.p) ∧ W.cell? ⟨w.heap.size, 2, none⟩ = some (.int .i64 μ.o.b) ∧ W.cell? ⟨w.heap.size, 3, none⟩ = some (.int .i64 μ.o.s) ∧ W.cell? ⟨w.heap.size, 4, none⟩ = some (.int .i64 (μ.sent : Int)) ∧ W.cell? ⟨w.heap.size, 5, none⟩ = some (.int .i64 (μ.came : Int))) (simp [go_sem, *]) ((go_at_call 82; refine (HTk.out _ ?_).mono ?_; (repeat (first | exact Below.refl _ _ | apply Below.drew | refine bel_alloc ?_ _)); rintro e w1 ⟨rfl, hb1⟩; obtain ⟨⟨t0, t1, t2, t3, t4, t5, t6⟩, z1, z2⟩ := HCar.out _ _ hb1; obtain ⟨p0, p2, p4⟩ := took_cell hb1 HR1.out.1; (first | (have HB1 : Hid (∃ W, Took wc W (reown own (9, c) g1) mb L (m.set c (takeS (m.cl c) μ r)) w1 ∧ wc.heap.size < W.heap.size) := ⟨_, hb1, lt_alloc wc _⟩) | (have HB1 : Hid (∃ W, Took wc W (reown own (9, c) g1) mb L (m.set c (takeS (m.cl c) μ r)) w1 ∧ wc.heap.size < W.heap.size) := ⟨_, hb1, lt_alloc wc.drew _⟩) | (have HB1 : Hid (∃ W, Took wc W (reown own (9, c) g1) mb L (m.set c (takeS (m.cl c) μ r)) w1 ∧ True) := ⟨_, hb1, trivial⟩)); clear hb1; (try simp [go_sem] at p0); (try simp [go_sem] at p2); (try simp at p4)))
      all_goals
        go_wp2_with fail
        go_meet
        case rel =>
          go_light
          obtain ⟨W, hT, hWl⟩ := HB1.out
          first
            | with_reducible exact ⟨_, rfl, opAt_new hT o2 26⟩
            | exact ⟨_, rfl, opAt_set hT HR1.out.1 p4 hWl p0 o2⟩
    case rest =>
      obtain ⟨ob, rfl, hop⟩ := hcut
      have hwc := hop.from HR1.out.2
      clear hop
      have HOp := hidR hwc
      obtain ⟨_, k1, _, _, l0, A0, A1, A2, A3, l1⟩ := hwc.facts
      have HDn : Hid (∀ W, Calls Try.prog 80 #[str m.srv, .agg #[.int .i64 o2.k, .int .i64 o2.p, .int .i64 o2.b, .int .i64 o2.s]] W fun e w' => e = .returned (str t) ∧ Below W.heap.size W w') := fun W => done_app _ _ o2 HA.out.2 HA.out.1 ht W
      have HFin : Hid (∀ W, Below wc.heap.size wc W → OpAt w own mb L { m.set c (takeS (m.cl c) μ r) with srv := t } ob o2 (W.setCell ⟨mb, 1, none⟩ (str t)) ∧ W.cell? ⟨mb, 1, none⟩ = some (str m.srv) ∧ W.frozen? ⟨mb, 1, none⟩ = false) := fun W hW => opAt_srv HOp.out hW t
      have HB := hidR hB
      have HHl := hidR hh
      clear hwc HR1 HTk HCar HA y0 y1 y2 y3 y4 y5 q0' q2' hB hh hkn hd b1 b2 hlen
      go_wp2_with fail
      go_cut [] (fun W => OpAt w own mb L { m.set c (takeS (m.cl c) μ r) with srv := t } ob o2 W)
      case first =>
        go_region_with ((go_at_call 80; refine (HDn.out _).mono ?_; rintro e w2 ⟨rfl, hb2⟩; obtain ⟨hm2, t5, tf⟩ := HFin.out w2 (bel_trans (by repeat (first | exact Below.refl _ _ | apply Below.drew | refine bel_alloc ?_ _)) hb2); have HM2 := hidR hm2; clear hb2 hm2))
        all_goals go_wp2_with fail
        all_goals go_meet
        all_goals exact HM2.out
      case rest =>
        have HOp2 := hidR hcut
        obtain ⟨da, dc, g6, g6f, l6, hA⟩ := opAt_hist hcut HHl.out o2
        obtain ⟨_, _, _, _, _, A0, A1, A2, A3, l2⟩ := hcut.facts
        have HAp := hidR hA
        clear hA hcut HOp HFin HDn k1
        go_wp2_with fail
        go_cut [] (fun W => OpAt w own mb L { m.set c (takeS (m.cl c) μ r) with srv := t, hist := m.hist ++ [o2] } ob o2 W)
        case first =>
          go_region_law (refine step_append_ex (by rfl) _ _ _ _ (by rfl) _ _ (by rfl) (by rfl) _ HAp.out ?_; rintro v1 W1 ⟨⟨a1, n1, cp1, rfl⟩, hm, hc3, hf3⟩; have HM := hidR hm; clear hm)
          all_goals go_wp2_with fail
          all_goals go_meet
          all_goals exact HM.out
        case rest =>
          have HOp3 := hidR hcut
          clear hcut HOp2 HAp A0 A1 A2 A3 g6 g6f
          obtain ⟨M, hM⟩ : ∃ M, M = { m.set c (takeS (m.cl c) μ r) with srv := t, hist := m.hist ++ [o2] } := ⟨_, rfl⟩
          rw [← hM] at HOp3
          have hMn : M.n = m.n := by rw [hM]; rfl
          have HBM : Hid (∀ i, i < m.n → (M.cl i).ts ≤ 1900000000000 ∧ (M.cl i).tq.length ≤ 1900000000000 ∧ ((M.cl i).dn.length + 1) * 48 ≤ 140737488355328) := fun i hi => by
            rw [hM]
            show ((m.set c (takeS (m.cl c) μ r)).cl i).ts ≤ _ ∧ ((m.set c (takeS (m.cl c) μ r)).cl i).tq.length ≤ _ ∧ (((m.set c (takeS (m.cl c) μ r)).cl i).dn.length + 1) * 48 ≤ _
            have hb := HB.out i hi
            by_cases e : i = c
            · subst e
              rw [set_at]
              refine ⟨hb.1, ?_, hb.2.2⟩
              simp only [takeS, cross_len, List.length_drop]
              omega
            · rw [set_far _ _ e]; exact hb
          have HM := hidR hM
          have hn4 : m.n ≤ 4 := by
            obtain ⟨_, _, _, hr, _⟩ := HOp3.out
            rw [← hMn]
            exact hr.n4
          clear hM
          go_wp2_with fail
          go_loopw [8] (fun i wr => ∃ j : Nat, j ≤ m.n ∧ i = .int .i64 (j : Int) ∧ OpAt w own mb L (toldM M c o2 j) ob o2 wr) (fun i _ => m.n - (RowKit.intOf i).toNat)
          case atStart => exact ⟨0, Nat.zero_le _, rfl, by rw [told_zero]; exact HOp3.out⟩
          case round =>
            obtain ⟨j, hjn, rfl, hd⟩ := hrel
            obtain ⟨Mj, hMj⟩ : ∃ Mj, Mj = toldM M c o2 j := ⟨_, rfl⟩
            rw [← hMj] at hd
            have hnj : Mj.n = m.n := by rw [hMj]; exact hMn
            have HMj := hidR hMj
            obtain ⟨p0, _, p3, p5, l0, A0, A1, A2, A3, l1⟩ := hd.facts
            rw [hnj] at p0 p3 p5
            by_cases hlt : j < m.n
            · have hlt' : (j : Int) < (m.n : Int) := by omega
              have hj4 : (j : Int) < 4 := by omega
              have hj5 : j < 4 := by omega
              have hbj : (Mj.cl j).ts ≤ 1900000000000 ∧ (Mj.cl j).tq.length ≤ 1900000000000 ∧ ((Mj.cl j).dn.length + 1) * 48 ≤ 140737488355328 := by rw [hMj, told_self]; exact HBM.out j hlt
              have HDj := hidR hd
              clear hMj hd HOp3
              obtain ⟨z, hz⟩ : ∃ z, z = if j = c then noop c else o2 := ⟨_, rfl⟩
              have Hz := hidR hz
              obtain ⟨V1, hV1⟩ : ∃ V1, V1 = wr.alloc (.cells #[.int .i64 z.k, .int .i64 z.p, .int .i64 z.b, .int .i64 z.s] 26) := ⟨_, rfl⟩
              have hbV : Below wr.heap.size wr V1 := by rw [hV1]; exact bel_alloc (Below.refl _ _) _
              have hzV : wr.heap.size < V1.heap.size := by rw [hV1]; simp
              obtain ⟨own2, hfr, ⟨L2, hr2⟩, hC, hX⟩ := took_there HDj.out hbV (j := j) (by rw [hnj]; exact hlt) z (by omega) (by omega)
              have HTk := hidR hC
              have HX := hidR hX
              have HR2 := hidR hr2
              have hzo : own2 wr.heap.size = none := hfr _ (Nat.le_refl _)
              have x0 : V1.cell? ⟨wr.heap.size, 0, none⟩ = some (.int .i64 z.k) := by rw [hV1]; simp [go_sem]
              have x1 : V1.cell? ⟨wr.heap.size, 1, none⟩ = some (.int .i64 z.p) := by rw [hV1]; simp [go_sem]
              have x2 : V1.cell? ⟨wr.heap.size, 2, none⟩ = some (.int .i64 z.b) := by rw [hV1]; simp [go_sem]
              have x3 : V1.cell? ⟨wr.heap.size, 3, none⟩ = some (.int .i64 z.s) := by rw [hV1]; simp [go_sem]
              have p3V : V1.cell? ⟨mb, 3, none⟩ = some (.slice (some ⟨L.sb, 0, none⟩) m.n m.n) := (hbV.cell (p := ⟨mb, 3, none⟩) l0).trans p3
              have l0V : mb < V1.heap.size := Nat.lt_of_lt_of_le l0 hbV.size
              have l0V1 : mb < V1.heap.size + 1 := by omega
              have hzV1 : wr.heap.size < V1.heap.size + 1 := by omega
              have HCar : Hid (∀ W w1, Took V1 W own2 mb L (Mj.set j { Mj.cl j with ts := (Mj.cl j).ts + 1, tq := (Mj.cl j).tq ++ [z] }) w1 → (w1.cell? ⟨mb, 3, none⟩ = some (.slice (some ⟨L.sb, 0, none⟩) m.n m.n) ∧ w1.cell? ⟨wr.heap.size, 0, none⟩ = some (.int .i64 z.k) ∧ w1.cell? ⟨wr.heap.size, 1, none⟩ = some (.int .i64 z.p) ∧ w1.cell? ⟨wr.heap.size, 2, none⟩ = some (.int .i64 z.b) ∧ w1.cell? ⟨wr.heap.size, 3, none⟩ = some (.int .i64 z.s)) ∧ mb < w1.heap.size ∧ wr.heap.size < w1.heap.size) := fun W w1 hT =>
                ⟨⟨by rw [← hnj]; exact (took_moot hT).2.2.2.1, (took_keep hT hzV hzo 0).trans x0, (took_keep hT hzV hzo 1).trans x1, (took_keep hT hzV hzo 2).trans x2, (took_keep hT hzV hzo 3).trans x3⟩, by
                  obtain ⟨hb, L3, own3, _, hr, hf⟩ := hT
                  exact ⟨Nat.lt_of_lt_of_le l0V (Nat.le_trans hb.size hf.1.size), Nat.lt_of_lt_of_le hzV (Nat.le_trans hb.size hf.1.size)⟩⟩
              have Hfin : Hid ((Mj.set j { Mj.cl j with ts := (Mj.cl j).ts + 1, tq := (Mj.cl j).tq ++ [z] }).set j { (Mj.set j { Mj.cl j with ts := (Mj.cl j).ts + 1, tq := (Mj.cl j).tq ++ [z] }).cl j with dn := ((Mj.set j { Mj.cl j with ts := (Mj.cl j).ts + 1, tq := (Mj.cl j).tq ++ [z] }).cl j).dn ++ [⟨z, (Mj.cl j).ts, (Mj.cl j).tc⟩] } = toldM M c o2 (j + 1)) := by
                show _ = _
                rw [set_set, set_at, ← told_succ, ← HMj.out, ← Hz.out]
                rfl
              have HV1 := hidR hV1
              clear hr2 hC hX hfr HDj hbV
              by_cases hjc : j = c
              · have HVc : Hid (V1 = wr.alloc (.cells #[.int .i64 0, .int .i64 0, .int .i64 0, .int .i64 (c : Int)] 26)) := by
                  rw [if_pos hjc] at hz
                  show V1 = _
                  rw [hV1, hz]
                  rfl
                clear hV1 hz
                subst hjc
                go_wp2_with fail
                rw [← HVc.out]
                clear HVc
                go_cut [10] (fun s10 W => ∃ xb, s10 = .pointer (some ⟨xb, 0, none⟩) ∧ MsgAt V1 own2 mb L (Mj.set j { Mj.cl j with ts := (Mj.cl j).ts + 1, tq := (Mj.cl j).tq ++ [z] }) xb ⟨z, (Mj.cl j).ts, (Mj.cl j).tc⟩ W)
                case first =>
                  go_region_held3 (fun W => W.cell? ⟨mb, 3, none⟩ = some (.slice (some ⟨L.sb, 0, none⟩) m.n m.n) ∧ W.cell? ⟨wr.heap.size, 0, none⟩ = some (.int .i64 z.k) ∧ W.cell? ⟨wr.heap.size, 1, none⟩ = some (.int .i64 z.p) ∧ W.cell? ⟨wr.heap.size, 2, none⟩ = some (.int .i64 z.b) ∧ W.cell? ⟨wr.heap.size, 3, none⟩ = some (.int .i64 z.s)) (simp [go_sem, *]) ((go_at_call 81; refine (HTk.out _ ?_).mono ?_; (repeat (first | exact Below.refl _ _ | apply Below.drew | refine bel_alloc ?_ _)); rintro e w1 ⟨rfl, hb1⟩; obtain ⟨⟨t0, t1, t2, t3, t4⟩, z1, z2⟩ := HCar.out _ _ hb1; obtain ⟨p0', p2', p4'⟩ := took_cell hb1 HR2.out; (first | (have HB1 : Hid (∃ W, Took V1 W own2 mb L (Mj.set j { Mj.cl j with ts := (Mj.cl j).ts + 1, tq := (Mj.cl j).tq ++ [z] }) w1 ∧ V1.heap.size < W.heap.size) := ⟨_, hb1, lt_alloc V1 _⟩) | (have HB1 : Hid (∃ W, Took V1 W own2 mb L (Mj.set j { Mj.cl j with ts := (Mj.cl j).ts + 1, tq := (Mj.cl j).tq ++ [z] }) w1 ∧ V1.heap.size < W.heap.size) := ⟨_, hb1, lt_alloc V1.drew _⟩) | (have HB1 : Hid (∃ W, Took V1 W own2 mb L (Mj.set j { Mj.cl j with ts := (Mj.cl j).ts + 1, tq := (Mj.cl j).tq ++ [z] }) w1 ∧ True) := ⟨_, hb1, trivial⟩)); clear hb1; (try simp [go_sem] at p0'); (try simp [go_sem] at p2'); (try simp at p4')))
                  all_goals
                    go_wp2_with fail
                    go_meet
                    case rel =>
                      go_light
                      obtain ⟨W, hT, hWl⟩ := HB1.out
                      first
                        | with_reducible exact ⟨_, rfl, msgAt_new hT ⟨z, (Mj.cl j).ts, (Mj.cl j).tc⟩ 147⟩
                        | exact ⟨_, rfl, msgAt_set hT HR2.out p4' hWl p0' ⟨z, (Mj.cl j).ts, (Mj.cl j).tc⟩⟩
                case rest =>
                  obtain ⟨xb, rfl, hmsg⟩ := hcut
                  have hop' := HX.out _ _ _ _ hmsg
                  obtain ⟨_, _, _, _, _, ⟨v0, v1, v2, v3, v4, v5⟩, _, _, hxl⟩ := hmsg
                  obtain ⟨_, _, _, g5, l5, _, _, _, _, _⟩ := hop'.facts
                  have g5' : wc.cell? ⟨mb, 5, none⟩ = some (.slice (some ⟨L.db, 0, none⟩) m.n m.n) := by rw [← hnj]; exact g5
                  obtain ⟨da, dc, d0, df, ld, hA⟩ := opAt_dn hop' (j := j) (by show j < Mj.n; rw [hnj]; exact hlt) ⟨z, (Mj.cl j).ts, (Mj.cl j).tc⟩ (by rw [set_at]; exact hbj.2.2)
                  have HAp := hidR hA
                  dsimp only at v0 v1 v2 v3 v4 v5
                  clear hA hop' g5 HX HTk HCar HR2
                  go_wp2_with fail
                  go_region_law (refine step_append_ex (by rfl) _ _ _ _ (by rfl) _ _ (by rfl) (by rfl) _ HAp.out ?_; rintro v6 W2 ⟨⟨a2, n2, cp2, rfl⟩, hm, hc2, hf2, hm5⟩; rw [g5'] at hm5; have HM2 := hidR hm; clear hm)
                  all_goals go_wp2_with fail
                  all_goals exact ⟨⟨j + 1, by omega, by go_num, by rw [← Hfin.out]; exact HM2.out⟩, by simp [RowKit.intOf]; omega⟩
              · have HVo : Hid (V1 = wr.alloc (.cells #[.int .i64 o2.k, .int .i64 o2.p, .int .i64 o2.b, .int .i64 o2.s] 26)) := by
                  rw [if_neg hjc] at hz
                  show V1 = _
                  rw [hV1, hz]
                clear hV1 hz
                have hjci : ¬ ((j : Int) = (c : Int)) := by omega
                go_wp2_with fail
                rw [← HVo.out]
                clear HVo
                go_cut [10] (fun s10 W => ∃ xb, s10 = .pointer (some ⟨xb, 0, none⟩) ∧ MsgAt V1 own2 mb L (Mj.set j { Mj.cl j with ts := (Mj.cl j).ts + 1, tq := (Mj.cl j).tq ++ [z] }) xb ⟨z, (Mj.cl j).ts, (Mj.cl j).tc⟩ W)
                case first =>
                  go_region_held3 (fun W => W.cell? ⟨mb, 3, none⟩ = some (.slice (some ⟨L.sb, 0, none⟩) m.n m.n) ∧ W.cell? ⟨wr.heap.size, 0, none⟩ = some (.int .i64 z.k) ∧ W.cell? ⟨wr.heap.size, 1, none⟩ = some (.int .i64 z.p) ∧ W.cell? ⟨wr.heap.size, 2, none⟩ = some (.int .i64 z.b) ∧ W.cell? ⟨wr.heap.size, 3, none⟩ = some (.int .i64 z.s)) (simp [go_sem, *]) ((go_at_call 81; refine (HTk.out _ ?_).mono ?_; (repeat (first | exact Below.refl _ _ | apply Below.drew | refine bel_alloc ?_ _)); rintro e w1 ⟨rfl, hb1⟩; obtain ⟨⟨t0, t1, t2, t3, t4⟩, z1, z2⟩ := HCar.out _ _ hb1; obtain ⟨p0', p2', p4'⟩ := took_cell hb1 HR2.out; (first | (have HB1 : Hid (∃ W, Took V1 W own2 mb L (Mj.set j { Mj.cl j with ts := (Mj.cl j).ts + 1, tq := (Mj.cl j).tq ++ [z] }) w1 ∧ V1.heap.size < W.heap.size) := ⟨_, hb1, lt_alloc V1 _⟩) | (have HB1 : Hid (∃ W, Took V1 W own2 mb L (Mj.set j { Mj.cl j with ts := (Mj.cl j).ts + 1, tq := (Mj.cl j).tq ++ [z] }) w1 ∧ V1.heap.size < W.heap.size) := ⟨_, hb1, lt_alloc V1.drew _⟩) | (have HB1 : Hid (∃ W, Took V1 W own2 mb L (Mj.set j { Mj.cl j with ts := (Mj.cl j).ts + 1, tq := (Mj.cl j).tq ++ [z] }) w1 ∧ True) := ⟨_, hb1, trivial⟩)); clear hb1; (try simp [go_sem] at p0'); (try simp [go_sem] at p2'); (try simp at p4')))
                  all_goals
                    go_wp2_with fail
                    go_meet
                    case rel =>
                      go_light
                      obtain ⟨W, hT, hWl⟩ := HB1.out
                      first
                        | with_reducible exact ⟨_, rfl, msgAt_new hT ⟨z, (Mj.cl j).ts, (Mj.cl j).tc⟩ 147⟩
                        | exact ⟨_, rfl, msgAt_set hT HR2.out p4' hWl p0' ⟨z, (Mj.cl j).ts, (Mj.cl j).tc⟩⟩
                case rest =>
                  obtain ⟨xb, rfl, hmsg⟩ := hcut
                  have hop' := HX.out _ _ _ _ hmsg
                  obtain ⟨_, _, _, _, _, ⟨v0, v1, v2, v3, v4, v5⟩, _, _, hxl⟩ := hmsg
                  obtain ⟨_, _, _, g5, l5, _, _, _, _, _⟩ := hop'.facts
                  have g5' : wc.cell? ⟨mb, 5, none⟩ = some (.slice (some ⟨L.db, 0, none⟩) m.n m.n) := by rw [← hnj]; exact g5
                  obtain ⟨da, dc, d0, df, ld, hA⟩ := opAt_dn hop' (j := j) (by show j < Mj.n; rw [hnj]; exact hlt) ⟨z, (Mj.cl j).ts, (Mj.cl j).tc⟩ (by rw [set_at]; exact hbj.2.2)
                  have HAp := hidR hA
                  dsimp only at v0 v1 v2 v3 v4 v5
                  clear hA hop' g5 HX HTk HCar HR2
                  go_wp2_with fail
                  go_region_law (refine step_append_ex (by rfl) _ _ _ _ (by rfl) _ _ (by rfl) (by rfl) _ HAp.out ?_; rintro v6 W2 ⟨⟨a2, n2, cp2, rfl⟩, hm, hc2, hf2, hm5⟩; rw [g5'] at hm5; have HM2 := hidR hm; clear hm)
                  all_goals go_wp2_with fail
                  all_goals exact ⟨⟨j + 1, by omega, by go_num, by rw [← Hfin.out]; exact HM2.out⟩, by simp [RowKit.intOf]; omega⟩
            · have hje : j = m.n := by omega
              subst hje
              have HFn : Hid (∃ L' own', RefM wr mb (upM m c μ r t) L' own' ∧ Frm w own wr own') := by
                obtain ⟨L2, own2, hsl, hr, hf, _⟩ := hd
                refine ⟨L2, own2, hr.congr (by rw [hnj]; rfl) (by rw [hMj, HM.out]; rfl) ?_ (fun i hi => ?_), hf⟩
                · rw [hMj, HM.out]
                  show m.hist ++ [upO (m.cl c) μ] = m.hist ++ [o2]
                  rw [← HO2.out]
                · rw [hnj] at hi
                  have := told_all m c μ r t (m.hist ++ [o2]) i hi
                  rw [← HO2.out] at this
                  rw [hMj, HM.out]
                  exact this.symm
              clear hd HOp3 p3 p5 A0 A1 A2 A3
              go_wp2
              go_ret
              exact ⟨rfl, HFn.out⟩
end
end Go.Proofs.Ytabahmcbhapbiaa
