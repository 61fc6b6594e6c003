import Derived.Test.YtabahmcbhapbiaaQRefCalls
import Derived.Deep.RegionHeld3
import Derived.Deep.DeepCutAuto
namespace Go.Proofs.Ytabahmcbhapbiaa
open Go.RowKit Go.Lib
set_option linter.unusedVariables false
theorem set_set (m : Moo) (c : Nat) (x y : Cli) : (m.set c x).set c y = m.set c y := by
  unfold Moo.set
  congr 1
  funext i
  simp only
  split <;> rfl
theorem lt_alloc (w : World) (o : Obj) : w.heap.size < (w.alloc o).heap.size := by simp
section
variable {w w' W1 : World} {mb : Nat} {m : Moo} {L : Lay} {own : Nat → Option Slot}
/-- How Down stands when the message is taken out of its queue: x lies at the block xb. -/
structure DownAt (w : World) (own : Nat → Option Slot) (mb : Nat) (m : Moo) (L : Lay) (c : Nat) (μ : Msg) (r : List Msg) (xb : Nat) (W : World) : Prop where
  rm : ∃ v' g', RefM W mb (m.set c { m.cl c with dn := r }) { L with dv := fun j => if j = c then v' else L.dv j, dg := fun j => if j = c then g' else L.dg j } (reown own (10, c) g') ∧ Frm w own W (reown own (10, c) g') ∧ reown own (10, c) g' xb = none
  lt : xb < W.heap.size
  x0 : W.cell? ⟨xb, 0, none⟩ = some (.int .i64 μ.o.k)
  x1 : W.cell? ⟨xb, 1, none⟩ = some (.int .i64 μ.o.p)
  x2 : W.cell? ⟨xb, 2, none⟩ = some (.int .i64 μ.o.b)
  x3 : W.cell? ⟨xb, 3, none⟩ = some (.int .i64 μ.o.s)
  x4 : W.cell? ⟨xb, 4, none⟩ = some (.int .i64 (μ.sent : Int))
  x5 : W.cell? ⟨xb, 5, none⟩ = some (.int .i64 (μ.came : Int))
theorem down_at (h : RefM w mb m L own) {c : Nat} (hc : c < m.n) (μ : Msg) (r : List Msg) {v' : Value} {gb : Nat} (hg : L.dg c = some gb) (hq : RowQ w 6 v' (flat6 r) (some gb)) (ty : TypeId) :
    DownAt w own mb m L c μ r w.heap.size (((w.setCell ⟨L.db, c, none⟩ v').alloc (.cells #[.int .i64 μ.o.k, .int .i64 μ.o.p, .int .i64 μ.o.b, .int .i64 μ.o.s, .int .i64 (μ.sent : Int), .int .i64 (μ.came : Int)] ty)).drew) := by
  have h1 := h.dnsSet hc r v' (some gb) (KeptX.refl _ _) hq (Or.inl hg.symm)
  have hsz : (w.setCell ⟨L.db, c, none⟩ v').heap.size = w.heap.size := by simp [World.setCell]
  have hog : own gb = some (10, c) := h.ow (10, c) gb ⟨hc, hg⟩
  have hk : KeptX (fun k => k = L.db) w (((w.setCell ⟨L.db, c, none⟩ v').alloc (.cells #[.int .i64 μ.o.k, .int .i64 μ.o.p, .int .i64 μ.o.b, .int .i64 μ.o.s, .int .i64 (μ.sent : Int), .int .i64 (μ.came : Int)] ty)).drew) := ((keptX_set L.db c v').alloc _).drew
  refine ⟨⟨v', some gb, h1.keep (F := fun _ => False) ((KeptX.refl _ _).alloc _).drew (fun _ _ e => e), frame_reown hk (fun k e => by rw [e, h.o5]; simp) (fun k e => Or.inl (by cases e; rw [hog]; simp)), ?_⟩, ?_, ?_, ?_, ?_, ?_, ?_, ?_⟩
  · by_cases e : reown own (10, c) (some gb) w.heap.size = none
    · exact e
    · rcases reown_foot e with x | x
      · exact absurd (h.lt _ x) (by omega)
      · cases x
        exact absurd (h.lto hog) (by omega)
  · simp [World.setCell]
  all_goals simp [go_sem]
def SameL (L L2 : Lay) : Prop := L2.tb = L.tb ∧ L2.tcap = L.tcap ∧ L2.hb = L.hb ∧ L2.sb = L.sb ∧ L2.ub = L.ub ∧ L2.db = L.db
/-- A call on the moot, from W to w1, where W is wc and new blocks. -/
def Took (wc W : World) (own : Nat → Option Slot) (mb : Nat) (L : Lay) (m2 : Moo) (w1 : World) : Prop := Below wc.heap.size wc W ∧ ∃ L2 own2, SameL L L2 ∧ RefM w1 mb m2 L2 own2 ∧ Frm W own w1 own2
theorem took_moot {wc W w1 : World} {own : Nat → Option Slot} {mb : Nat} {L : Lay} {m2 : Moo} (h : Took wc W own mb L m2 w1) :
    w1.cell? ⟨mb, 0, none⟩ = some (.slice (some ⟨L.tb, 0, none⟩) m2.n L.tcap) ∧ w1.cell? ⟨mb, 1, none⟩ = some (str m2.srv) ∧ w1.cell? ⟨mb, 2, none⟩ = some (.slice (some ⟨L.hb, 0, none⟩) m2.n m2.n) ∧ w1.cell? ⟨mb, 3, none⟩ = some (.slice (some ⟨L.sb, 0, none⟩) m2.n m2.n) ∧ w1.cell? ⟨mb, 4, none⟩ = some (.slice (some ⟨L.ub, 0, none⟩) m2.n m2.n) ∧ w1.cell? ⟨mb, 5, none⟩ = some (.slice (some ⟨L.db, 0, none⟩) m2.n m2.n) := by
  obtain ⟨hb, L2, own2, ⟨e1, e2, e3, e4, e5, e6⟩, hr, hf⟩ := h
  obtain ⟨⟨a0, a1, a2, a3, a4, a5, _⟩, _⟩ := hr.pc 0 0 (fun _ => rfl)
  rw [e1, e2] at a0
  rw [e3] at a2
  rw [e4] at a3
  rw [e5] at a4
  rw [e6] at a5
  exact ⟨a0, a1, a2, a3, a4, a5⟩
/-- What lies there and is nobody's stays. -/
theorem took_keep {wc W w1 : World} {own : Nat → Option Slot} {mb : Nat} {L : Lay} {m2 : Moo} (h : Took wc W own mb L m2 w1) {k : Nat} (hk : k < wc.heap.size) (hn : own k = none) (j : Nat) : w1.cell? ⟨k, j, none⟩ = wc.cell? ⟨k, j, none⟩ := by
  obtain ⟨hb, L2, own2, _, hr, hf⟩ := h
  rw [hf.1.cell (p := ⟨k, j, none⟩) (Nat.lt_of_lt_of_le hk hb.size) (fun e => e hn)]
  exact hb.cell (p := ⟨k, j, none⟩) hk
theorem took_cell {wc W w1 : World} {own : Nat → Option Slot} {mb : Nat} {L : Lay} {m1 m2 : Moo} {L1 : Lay} (h : Took wc W own mb L m2 w1) (hm : RefM wc mb m1 L1 own) :
    (∀ o, wc.heap.size < W.heap.size → w1.cell? ⟨wc.heap.size, o, none⟩ = W.cell? ⟨wc.heap.size, o, none⟩) ∧ (∀ o, wc.heap.size < W.heap.size → w1.frozen? ⟨wc.heap.size, o, none⟩ = W.frozen? ⟨wc.heap.size, o, none⟩) ∧ (wc.heap.size < W.heap.size → wc.heap.size < w1.heap.size) := by
  obtain ⟨hb, L2, own2, hsl, hr, hf⟩ := h
  have hn : own wc.heap.size = none := hm.new (Nat.le_refl _)
  exact ⟨fun o hl => hf.1.cell (p := ⟨wc.heap.size, o, none⟩) hl (fun e => e hn), fun o hl => hf.1.frozen (p := ⟨wc.heap.size, o, none⟩) hl (fun e => e hn), fun hl => Nat.lt_of_lt_of_le hl hf.1.size⟩
/-- The op that the call gave lies at a new block. -/
def OpAt (wc : World) (own : Nat → Option Slot) (mb : Nat) (L : Lay) (m2 : Moo) (ob : Nat) (u : Op4) (W : World) : Prop := ∃ L2 own2, SameL L L2 ∧ RefM W mb m2 L2 own2 ∧ Frm wc own W own2 ∧ Op4At W ob 0 u ∧ own2 ob = none ∧ wc.heap.size ≤ ob ∧ ob < W.heap.size
theorem opAt_new {wc W w1 : World} {own : Nat → Option Slot} {mb : Nat} {L : Lay} {m2 : Moo} (h : Took wc W own mb L m2 w1) (u : Op4) (t : TypeId) : OpAt wc own mb L m2 w1.heap.size u (w1.alloc (.cells #[.int .i64 u.k, .int .i64 u.p, .int .i64 u.b, .int .i64 u.s] t)) := by
  obtain ⟨hb, L2, own2, hsl, hr, hf⟩ := h
  refine ⟨L2, own2, hsl, hr.keep (F := fun _ => False) ((KeptX.refl _ _).alloc _) (fun _ _ e => e), ?_, op4at_new w1 u t, hr.new (Nat.le_refl _), Nat.le_trans hb.size hf.1.size, by simp⟩
  exact ((Frm.refl wc own).below hb).trans (hf.below (bel_alloc (Below.refl _ _) _))
theorem opAt_set {wc W w1 : World} {own : Nat → Option Slot} {mb : Nat} {L : Lay} {m1 m2 : Moo} {L1 : Lay} (h : Took wc W own mb L m2 w1) (hm : RefM wc mb m1 L1 own) (hl : wc.heap.size < w1.heap.size) (hlW : wc.heap.size < W.heap.size) (hz : Zero4 w1 wc.heap.size) (u : Op4) :
    OpAt wc own mb L m2 wc.heap.size u ((((w1.setCell ⟨wc.heap.size, 0, none⟩ (.int .i64 u.k)).setCell ⟨wc.heap.size, 1, none⟩ (.int .i64 u.p)).setCell ⟨wc.heap.size, 2, none⟩ (.int .i64 u.b)).setCell ⟨wc.heap.size, 3, none⟩ (.int .i64 u.s)) := by
  show OpAt wc own mb L m2 wc.heap.size u (put4 w1 wc.heap.size u)
  obtain ⟨hb, L2, own2, hsl, hr, hf⟩ := h
  have hn : own wc.heap.size = none := hm.new (Nat.le_refl _)
  have hn2 : own2 wc.heap.size = none := by
    by_cases e : own2 wc.heap.size = none
    · exact e
    · rcases hf.2 _ e with x | x
      · exact absurd hn x
      · omega
  refine ⟨L2, own2, hsl, hr.keep (F := fun k => k = wc.heap.size) (put4_keptX (KeptX.refl (fun k => k = wc.heap.size) w1) (fun _ => rfl) u) (fun k e e2 => e (by rw [e2]; exact hn2)), ⟨?_, ?_⟩, hz.put, hn2, Nat.le_refl _, by rw [put4_size]; exact hl⟩
  · exact put4_keptX (((Frm.refl wc own).below hb).trans hf).1 (fun e => absurd e (by omega)) u
  · exact (((Frm.refl wc own).below hb).trans hf).2
theorem took_down {wc : World} {L1 : Lay} {own1 : Nat → Option Slot} {c : Nat} {μ : Msg} {r : List Msg} (hc : c < m.n) (hr1 : RefM wc mb (m.set c { m.cl c with dn := r }) L1 own1) (hkn : (m.cl c).hk ≤ μ.came) (hd : μ.came - (m.cl c).hk ≤ (m.cl c).ho.length) (b1 : (m.cl c).hc ≤ 1000000000000000000) (b2 : μ.came ≤ 1000000000000000000)
    (hlen : (m.cl c).ho.length ≤ 1000000000) (ho : Bd 100000000000000 μ.o) (hl : ∀ x ∈ (m.cl c).ho, Bd 100000000000000 x) (o2 : Op4) (ho2 : o2 = dnO (m.cl c) μ) (W : World) (hW : Below wc.heap.size wc W) :
    Calls Try.prog 82 #[.pointer (some ⟨L1.hb, c * 4, none⟩), .agg #[.int .i64 μ.o.k, .int .i64 μ.o.p, .int .i64 μ.o.b, .int .i64 μ.o.s, .int .i64 (μ.sent : Int), .int .i64 (μ.came : Int)]] W fun e w1 =>
        e = .returned (.agg #[.int .i64 o2.k, .int .i64 o2.p, .int .i64 o2.b, .int .i64 o2.s]) ∧ Took wc W own1 mb L1 (m.set c (takeC (m.cl c) μ r (m.cl c).text)) w1 := by
  have h2 := hr1.below hW
  refine (take_here h2 (c := c) hc μ (by rw [set_at]; exact hkn) (by rw [set_at]; exact hd) (by rw [set_at]; exact b1) b2 (by rw [set_at]; exact hlen) ho (by rw [set_at]; exact hl)).mono ?_
  rintro e w1 ⟨o3, h3, rfl, v', g', k1, k2⟩
  rw [set_at] at h3
  have e3 : o3 = o2 := h3.trans ho2.symm
  rw [e3]
  rw [set_set, set_at] at k1
  refine ⟨rfl, hW, _, _, ?_, k1, k2⟩
  exact ⟨rfl, rfl, rfl, rfl, rfl, rfl⟩
set_option maxHeartbeats 4000000 in
theorem refDown_ok (h : RefM w mb m L own) {c : Nat} (hc : c < m.n) {μ : Msg} {r : List Msg} (hdn : (m.cl c).dn = μ :: r) (hkn : (m.cl c).hk ≤ μ.came) (hd : μ.came - (m.cl c).hk ≤ (m.cl c).ho.length) (b1 : (m.cl c).hc ≤ 1000000000000000000) (b2 : μ.came ≤ 1000000000000000000)
    (hlen : (m.cl c).ho.length ≤ 1000000000) (ho : Bd 100000000000000 μ.o) (hl : ∀ x ∈ (m.cl c).ho, Bd 100000000000000 x) (t : List UInt8) (ha : app (m.cl c).text (dnO (m.cl c) μ) = some t) (hw : Wf (dnO (m.cl c) μ)) (ht : (m.cl c).text.length ≤ 1000) :
    Calls Try.prog 54 #[.pointer (some ⟨mb, 0, none⟩), .int .i64 (c : Int)] w fun e w' => e = .returned (.int .i64 0) ∧ ∃ L' own', RefM w' mb (m.set c (takeC (m.cl c) μ r t)) L' own' ∧ Frm w own w' own' := by
  obtain ⟨⟨a0, a1, a2, a3, a4, a5, a6⟩, f⟩ := h.pc 0 0 (fun _ => rfl)
  have hi := is_any mb (some ⟨L.tb, 0, none⟩) m.n L.tcap c w a0
  rw [isB_nat hc] at hi
  have HI : Hid (Calls Try.prog 78 #[.pointer (some ⟨mb, 0, none⟩), .int .i64 (c : Int)] w fun e w' => e = .returned (.bool true) ∧ w = w') := hi
  have hq := h.pc 10 c (fun e => absurd e (by omega)) hc
  have hdb := (h.pc 5 0 (fun _ => rfl)).1 c hc
  have hfd := (h.pc 5 0 (fun _ => rfl)).2
  simp only [hdn] at hq
  obtain ⟨gb, off, cap, hg, hv, hc1, hc2, hgl, ⟨x0, x1, x2, x3, x4, x5⟩, hqt⟩ := rowq6_head hq
  rw [hv] at hdb
  have hc' : (c : Int) < (m.n : Int) := by omega
  have hod : own gb = some (10, c) := h.ow (10, c) gb ⟨hc, hg⟩
  have hn0 : ¬ (gb = mb) := own_ne hod h.o0 (by simp)
  have hn1 : ¬ (gb = L.db) := own_ne hod h.o5 (by simp)
  have hn2 : ¬ (L.db = mb) := own_ne h.o5 h.o0 (by simp)
  have hlm : mb < w.heap.size := h.lto h.o0
  have hlb : L.db < w.heap.size := h.lto h.o5
  have hcap : (r.length : Int) + 1 ≤ (cap : Int) := by omega
  have hcap1 : 1 ≤ (cap : Int) := by omega
  have HD : Hid (∀ v' ty, RowQ w 6 v' (flat6 r) (some gb) → DownAt w own mb m L c μ r w.heap.size (((w.setCell ⟨L.db, c, none⟩ v').alloc (.cells #[.int .i64 μ.o.k, .int .i64 μ.o.p, .int .i64 μ.o.b, .int .i64 μ.o.s, .int .i64 (μ.sent : Int), .int .i64 (μ.came : Int)] ty)).drew)) := fun v' ty hq' => down_at h hc μ r hg hq' ty
  have HQ : Hid (RowQ w 6 (.slice (some ⟨gb, off + 6, none⟩) r.length (cap - 1)) (flat6 r) (some gb)) := hqt
  have HQ0 : Hid (r.length = 0 → RowQ w 6 (.slice (some ⟨gb, off, none⟩) r.length 0) (flat6 r) (some gb)) := fun e => Or.inr ⟨gb, off, 0, 0, rfl, by rw [e], by rw [flat6_len, e], Nat.le_refl _, by omega, hgl, fun j x hj => by
    have := (List.getElem?_eq_some_iff.1 hj).1
    rw [flat6_len, e] at this
    omega, fun j hj => by omega⟩
  clear hi h hq hqt hod
  go_enter Try.func54, Try.ntmps54
  go_wp2_with (go_at_call 78; refine HI.out.mono ?_; rintro e w1 ⟨rfl, rfl⟩)
  go_cut [] (fun W => DownAt w own mb m L c μ r w.heap.size W)
  case first =>
    go_region
    all_goals go_wp2_with fail
    all_goals go_meet
    · exact HD.out _ _ (HQ0.out (by omega))
    · exact HD.out _ _ HQ.out
  case rest =>
    obtain ⟨⟨v1, g1, hr1, hf1, hx1⟩, hxl, y0, y1, y2, y3, y4, y5⟩ := hcut
    obtain ⟨⟨q0, _, q2, _, _, _, _⟩, _⟩ := hr1.pc 0 0 (fun _ => rfl)
    have hlm1 : mb < wc.heap.size := hr1.lto hr1.o0
    have hlh1 : L.hb < wc.heap.size := hr1.lto hr1.o2
    have HR1 : Hid (RefM wc mb (m.set c { m.cl c with dn := r }) { L with dv := fun j => if j = c then v1 else L.dv j, dg := fun j => if j = c then g1 else L.dg j } (reown own (10, c) g1) ∧ Frm w own wc (reown own (10, c) g1)) := ⟨hr1, hf1⟩
    obtain ⟨o2, ho2⟩ : ∃ o2, o2 = dnO (m.cl c) μ := ⟨_, rfl⟩
    have q0' : wc.cell? ⟨mb, 0, none⟩ = some (.slice (some ⟨L.tb, 0, none⟩) m.n L.tcap) := q0
    have q2' : wc.cell? ⟨mb, 2, none⟩ = some (.slice (some ⟨L.hb, 0, none⟩) m.n m.n) := q2
    clear q0 q2
    have HO2 : Hid (o2 = dnO (m.cl c) μ) := ho2
    have HTk : Hid (∀ W, Below wc.heap.size wc W → Calls Try.prog 82 #[.pointer (some ⟨L.hb, c * 4, none⟩), .agg #[.int .i64 μ.o.k, .int .i64 μ.o.p, .int .i64 μ.o.b, .int .i64 μ.o.s, .int .i64 (μ.sent : Int), .int .i64 (μ.came : Int)]] W fun e w1 =>
        e = .returned (.agg #[.int .i64 o2.k, .int .i64 o2.p, .int .i64 o2.b, .int .i64 o2.s]) ∧ Took wc W (reown own (10, c) g1) mb L (m.set c (takeC (m.cl c) μ r (m.cl c).text)) w1) := fun W hW => took_down hc hr1 hkn hd b1 b2 hlen ho hl o2 ho2 W hW
    have HCar : Hid (∀ W w1, Took wc W (reown own (10, c) g1) mb L (m.set c (takeC (m.cl c) μ r (m.cl c).text)) w1 → (w1.cell? ⟨mb, 2, none⟩ = some (.slice (some ⟨L.hb, 0, none⟩) m.n m.n) ∧ w1.cell? ⟨w.heap.size, 0, none⟩ = some (.int .i64 μ.o.k) ∧ w1.cell? ⟨w.heap.size, 1, none⟩ = some (.int .i64 μ.o.p) ∧ w1.cell? ⟨w.heap.size, 2, none⟩ = some (.int .i64 μ.o.b) ∧ w1.cell? ⟨w.heap.size, 3, none⟩ = some (.int .i64 μ.o.s) ∧ w1.cell? ⟨w.heap.size, 4, none⟩ = some (.int .i64 (μ.sent : Int)) ∧ w1.cell? ⟨w.heap.size, 5, none⟩ = some (.int .i64 (μ.came : Int))) ∧ mb < w1.heap.size ∧ w.heap.size < w1.heap.size) := fun W w1 hT =>
      ⟨⟨(took_moot hT).2.2.1, (took_keep hT hxl hx1 0).trans y0, (took_keep hT hxl hx1 1).trans y1, (took_keep hT hxl hx1 2).trans y2, (took_keep hT hxl hx1 3).trans y3, (took_keep hT hxl hx1 4).trans y4, (took_keep hT hxl hx1 5).trans y5⟩, by
        obtain ⟨hb, L2, own2, _, hr, hf⟩ := hT
        exact ⟨Nat.lt_of_lt_of_le hlm1 (Nat.le_trans hb.size hf.1.size), Nat.lt_of_lt_of_le hxl (Nat.le_trans hb.size hf.1.size)⟩⟩
    have hxl1 : w.heap.size < wc.heap.size + 1 := by omega
    have hlm2 : mb < wc.heap.size + 1 := by omega
    have HA : Hid (app (m.cl c).text o2 = some t ∧ Wf o2) := by rw [ho2]; exact ⟨ha, hw⟩
    clear hr1 hf1 ha hw ho2 a0 a1 a2 a3 a4 a5 a6 x0 x1 x2 x3 x4 x5 hdb hfd f HD HQ HQ0 HI hl ho
    go_wp2_with fail
    go_cut [7] (fun s7 W => ∃ ob, s7 = .pointer (some ⟨ob, 0, none⟩) ∧ OpAt wc (reown own (10, c) g1) mb L (m.set c (takeC (m.cl c) μ r (m.cl c).text)) ob o2 W)
    case first =>
      go_region_held3 (fun W => W.cell? ⟨mb, 2, none⟩ = some (.slice (some ⟨L.hb, 0, none⟩) m.n m.n) ∧ W.cell? ⟨w.heap.size, 0, none⟩ = some (.int .i64 μ.o.k) ∧ W.cell? ⟨w.heap.size, 1, none⟩ = some (.int .i64 μ.o.p) ∧ W.cell? ⟨w.heap.size, 2, none⟩ = some (.int .i64 μ.o.b) ∧ W.cell? ⟨w.heap.size, 3, none⟩ = some (.int .i64 μ.o.s) ∧ W.cell? ⟨w.heap.size, 4, none⟩ = some (.int .i64 (μ.sent : Int)) ∧ W.cell? ⟨w.heap.size, 5, none⟩ = some (.int .i64 (μ.came : Int))) (simp [go_sem, *]) ((go_at_call 82; refine (HTk.out _ ?_).mono ?_; (repeat (first | exact Below.refl _ _ | apply Below.drew | refine bel_alloc ?_ _)); rintro e w1 ⟨rfl, hb1⟩; obtain ⟨⟨t0, t1, t2, t3, t4, t5, t6⟩, z1, z2⟩ := HCar.out _ _ hb1; obtain ⟨p0, p2, p4⟩ := took_cell hb1 HR1.out.1; (first | (have HB1 : Hid (∃ W, Took wc W (reown own (10, c) g1) mb L (m.set c (takeC (m.cl c) μ r (m.cl c).text)) w1 ∧ wc.heap.size < W.heap.size) := ⟨_, hb1, lt_alloc wc _⟩) | (have HB1 : Hid (∃ W, Took wc W (reown own (10, c) g1) mb L (m.set c (takeC (m.cl c) μ r (m.cl c).text)) w1 ∧ wc.heap.size < W.heap.size) := ⟨_, hb1, lt_alloc wc.drew _⟩) | (have HB1 : Hid (∃ W, Took wc W (reown own (10, c) g1) mb L (m.set c (takeC (m.cl c) μ r (m.cl c).text)) w1 ∧ True) := ⟨_, hb1, trivial⟩)); clear hb1; (try simp [go_sem] at p0); (try simp [go_sem] at p2); (try simp at p4)))
      all_goals
        go_wp2_with fail
        go_meet
        case rel =>
          go_light
          obtain ⟨W, hT, hWl⟩ := HB1.out
          first
            | with_reducible exact ⟨_, rfl, opAt_new hT o2 26⟩
            | exact ⟨_, rfl, opAt_set hT HR1.out.1 p4 hWl p0 o2⟩
    case rest =>
      obtain ⟨ob, rfl, L2, own2, hsl, hr2, hf2, hop, hon, hob1, hob2⟩ := hcut
      clear hsl
      obtain ⟨⟨k0, _, _, _, _, _, _⟩, _⟩ := hr2.pc 0 0 (fun _ => rfl)
      obtain ⟨k1, k2⟩ := hr2.pc 1 0 (fun _ => rfl)
      have k0' : wc.cell? ⟨mb, 0, none⟩ = some (.slice (some ⟨L2.tb, 0, none⟩) m.n L2.tcap) := k0
      have k1' : wc.cell? ⟨L2.tb, c, none⟩ = some (str (m.cl c).text) := by have := k1 c hc; rw [set_at] at this; exact this
      have A0 : wc.cell? ⟨ob, 0, none⟩ = some (.int .i64 o2.k) := hop.1
      have A1 : wc.cell? ⟨ob, 1, none⟩ = some (.int .i64 o2.p) := hop.2.1
      have A2 : wc.cell? ⟨ob, 2, none⟩ = some (.int .i64 o2.b) := hop.2.2.1
      have A3 : wc.cell? ⟨ob, 3, none⟩ = some (.int .i64 o2.s) := hop.2.2.2
      have hlt := hr2.lto hr2.o1
      have hlm3 := hr2.lto hr2.o0
      have HDn : Hid (∀ W, Calls Try.prog 80 #[str (m.cl c).text, .agg #[.int .i64 o2.k, .int .i64 o2.p, .int .i64 o2.b, .int .i64 o2.s]] W fun e w' => e = .returned (str t) ∧ Below W.heap.size W w') := fun W => done_app _ _ o2 HA.out.2 HA.out.1 ht W
      have HFin : Hid (∀ W, Below wc.heap.size wc W → (W.cell? ⟨mb, 0, none⟩ = some (.slice (some ⟨L2.tb, 0, none⟩) m.n L2.tcap) ∧ W.cell? ⟨L2.tb, c, none⟩ = some (str (m.cl c).text) ∧ W.cell? ⟨ob, 0, none⟩ = some (.int .i64 o2.k) ∧ W.cell? ⟨ob, 1, none⟩ = some (.int .i64 o2.p) ∧ W.cell? ⟨ob, 2, none⟩ = some (.int .i64 o2.b) ∧ W.cell? ⟨ob, 3, none⟩ = some (.int .i64 o2.s)) ∧ W.frozen? ⟨L2.tb, c, none⟩ = false ∧ ∃ L' own', RefM (W.setCell ⟨L2.tb, c, none⟩ (str t)) mb (m.set c (takeC (m.cl c) μ r t)) L' own' ∧ Frm w own (W.setCell ⟨L2.tb, c, none⟩ (str t)) own') := fun W hW => ⟨⟨(hW.cell (p := ⟨mb, 0, none⟩) hlm3).trans k0', (hW.cell (p := ⟨L2.tb, c, none⟩) hlt).trans k1', (hW.cell (p := ⟨ob, 0, none⟩) hob2).trans A0, (hW.cell (p := ⟨ob, 1, none⟩) hob2).trans A1, (hW.cell (p := ⟨ob, 2, none⟩) hob2).trans A2, (hW.cell (p := ⟨ob, 3, none⟩) hob2).trans A3⟩, (hW.frozen (p := ⟨L2.tb, c, none⟩) hlt).trans (k2 c), by
          have h3 := (hr2.below hW).textSet (c := c) hc t
          rw [set_at, set_set] at h3
          refine ⟨_, _, h3, (HR1.out.2.trans (hf2.below hW)).trans ?_⟩
          exact frame_reown (keptX_set L2.tb c (str t)) (fun k e => by rw [e, hr2.o1]; simp) (fun k e => Or.inl (by cases e; rw [hr2.o1]; simp))⟩
      have hfz : wc.frozen? ⟨L2.tb, c, none⟩ = false := k2 c
      clear hr2 hf2 k0 k1 k2 hop HR1 HTk HCar HA y0 y1 y2 y3 y4 y5 q0' q2'
      go_wp2_with fail
      go_region_with ((go_at_call 80; refine (HDn.out _).mono ?_; rintro e w1 ⟨rfl, hb1⟩; have hbw : Below wc.heap.size wc w1 := bel_trans (by repeat (first | exact Below.refl _ _ | apply Below.drew | refine bel_alloc ?_ _)) hb1; obtain ⟨⟨t0, t1, t2, t3, t4, t5⟩, tf, hfin⟩ := HFin.out w1 hbw; have HE : Hid (∃ L' own', RefM (w1.setCell ⟨L2.tb, c, none⟩ (str t)) mb (m.set c (takeC (m.cl c) μ r t)) L' own' ∧ Frm w own (w1.setCell ⟨L2.tb, c, none⟩ (str t)) own') := hfin; clear hb1 hbw hfin))
      all_goals go_wp2
      all_goals go_ret
      all_goals exact ⟨rfl, HE.out⟩
end
end Go.Proofs.Ytabahmcbhapbiaa
