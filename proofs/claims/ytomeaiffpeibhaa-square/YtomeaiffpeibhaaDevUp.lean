import Derived.Test.YtomeaiffpeibhaaDevUpM
import Derived.Deep.RegionHeld3
import Derived.Deep.DeepCutAuto
import Derived.Deep.LoopGhost
namespace Go.Proofs.Ytomeaiffpeibhaa
open Go.RowKit Go.Lib
set_option linter.unusedVariables false
set_option linter.unusedSimpArgs false
theorem lt_alloc' (w : World) (o : Obj) : w.heap.size < (w.alloc o).heap.size := by simp
section
variable {w w' : World} {mb : Nat} {m : Moo} {L : DLay} {own : Nat → Option Nat}
set_option maxHeartbeats 2000000 in
theorem scome_any (h : DevM w mb m L own) (c : Nat) (hc : c < m.n) (μ : Msg) (hk1 : (m.cl c).tk ≤ μ.came) (hk2 : μ.came - (m.cl c).tk ≤ (m.cl c).«to».length) (hcc : (m.cl c).tc ≤ 1000000000000000000) (hlen : (m.cl c).«to».length ≤ 10000000000000) (ho : Bd 100000000000000 μ.o) (hl : ∀ y ∈ (m.cl c).«to», Bd 100000000000000 y)
    (hB : ∀ i, i < m.n → (m.cl i).ts ≤ 3000000000000 ∧ (m.cl i).«to».length ≤ 3000000000000 ∧ ((m.cl i).dn.length + 1) * 48 ≤ 140737488355328) (t : List UInt8) (ha : app m.srv (upO (m.cl c) μ) = some t) (hw : Wf (upO (m.cl c) μ)) (ht : m.srv.length ≤ 1000) :
    Calls Try.prog 53 #[.pointer (some ⟨L.vb, 0, none⟩), .int .i64 (c : Int), .agg #[.int .i64 μ.o.k, .int .i64 μ.o.p, .int .i64 μ.o.b, .int .i64 μ.o.s, .int .i64 (μ.sent : Int), .int .i64 (μ.came : Int)]] w fun e w' =>
      e = .returned (.tuple #[]) ∧ Hid (∃ own', DevM w' mb (upM m c μ (m.cl c).up t) L own' ∧ DFrm w own w' own') := by
  obtain ⟨Wa, hWa⟩ : ∃ Wa, Wa = w.alloc (.cells #[.int .i64 μ.o.k, .int .i64 μ.o.p, .int .i64 μ.o.b, .int .i64 μ.o.s, .int .i64 (μ.sent : Int), .int .i64 (μ.came : Int)] 102) := ⟨_, rfl⟩
  have hba : Below w.heap.size w Wa := by rw [hWa]; exact bel_alloc (Below.refl _ _) _
  have ha0 : DevM Wa mb m L own := h.below hba
  have hzn : own w.heap.size = none := h.fresh (Nat.le_refl _)
  have hza : w.heap.size < Wa.heap.size := by rw [hWa]; simp
  have a0 : Wa.cell? ⟨w.heap.size, 0, none⟩ = some (.int .i64 μ.o.k) := by rw [hWa]; simp [go_sem]
  have a1 : Wa.cell? ⟨w.heap.size, 1, none⟩ = some (.int .i64 μ.o.p) := by rw [hWa]; simp [go_sem]
  have a2 : Wa.cell? ⟨w.heap.size, 2, none⟩ = some (.int .i64 μ.o.b) := by rw [hWa]; simp [go_sem]
  have a3 : Wa.cell? ⟨w.heap.size, 3, none⟩ = some (.int .i64 μ.o.s) := by rw [hWa]; simp [go_sem]
  have a4 : Wa.cell? ⟨w.heap.size, 4, none⟩ = some (.int .i64 (μ.sent : Int)) := by rw [hWa]; simp [go_sem]
  have a5 : Wa.cell? ⟨w.heap.size, 5, none⟩ = some (.int .i64 (μ.came : Int)) := by rw [hWa]; simp [go_sem]
  have v1 := ha0.v1
  have lv := ha0.lto ha0.o1
  have HMt : Hid (∀ W, Below Wa.heap.size Wa W → Calls Try.prog 77 #[.pointer (some ⟨L.eb, c * 5, none⟩), .agg #[.int .i64 μ.o.k, .int .i64 μ.o.p, .int .i64 μ.o.b, .int .i64 μ.o.s, .int .i64 (μ.sent : Int), .int .i64 (μ.came : Int)]] W fun e w' =>
      e = .returned (.agg #[.int .i64 (upO (m.cl c) μ).k, .int .i64 (upO (m.cl c) μ).p, .int .i64 (upO (m.cl c) μ).b, .int .i64 (upO (m.cl c) μ).s]) ∧ Hid (DMet Wa W own mb L (m.set c (takeS (m.cl c) μ (m.cl c).up)) w')) := fun W hW => by
    refine (dmeet (ha0.below hW) c hc μ hk1 hk2 (by have := (hB c hc).1; omega) hcc hlen ho hl).mono ?_
    rintro e w' ⟨rfl, own', h1, h2⟩
    exact ⟨rfl, hW, own', h1, h2⟩
  have HD : Hid (∀ W, Calls Try.prog 30 #[dstr m.srv, .agg #[.int .i64 (upO (m.cl c) μ).k, .int .i64 (upO (m.cl c) μ).p, .int .i64 (upO (m.cl c) μ).b, .int .i64 (upO (m.cl c) μ).s]] W fun e w' => e = .returned (dstr t) ∧ Below W.heap.size W w') := fun W => opDo_app m.srv t (upO (m.cl c) μ) hw ha ht W
  have hc' : (c : Int) < (m.n : Int) := by omega
  have HH := hidP ha0
  have n4 : m.n ≤ 4 := ha0.n4
  have HWa : Hid (Wa = w.alloc (.cells #[.int .i64 μ.o.k, .int .i64 μ.o.p, .int .i64 μ.o.b, .int .i64 μ.o.s, .int .i64 (μ.sent : Int), .int .i64 (μ.came : Int)] 102)) := hWa
  have HBa := hidP hba
  obtain ⟨z, hz⟩ : ∃ z, z = upO (m.cl c) μ := ⟨_, rfl⟩
  have Hz : Hid (z = upO (m.cl c) μ) := hz
  rw [← hz] at HMt HD
  have HCar : Hid (∀ W w1, DMet Wa W own mb L (m.set c (takeS (m.cl c) μ (m.cl c).up)) w1 → w.heap.size < W.heap.size → (∀ j, W.cell? ⟨w.heap.size, j, none⟩ = Wa.cell? ⟨w.heap.size, j, none⟩) → (w1.cell? ⟨L.vb, 1, none⟩ = some (.slice (some ⟨L.eb, 0, none⟩) m.n L.ecap) ∧ w1.cell? ⟨w.heap.size, 0, none⟩ = some (.int .i64 μ.o.k) ∧ w1.cell? ⟨w.heap.size, 1, none⟩ = some (.int .i64 μ.o.p) ∧ w1.cell? ⟨w.heap.size, 2, none⟩ = some (.int .i64 μ.o.b) ∧ w1.cell? ⟨w.heap.size, 3, none⟩ = some (.int .i64 μ.o.s) ∧ w1.cell? ⟨w.heap.size, 4, none⟩ = some (.int .i64 (μ.sent : Int)) ∧ w1.cell? ⟨w.heap.size, 5, none⟩ = some (.int .i64 (μ.came : Int))) ∧ w.heap.size < w1.heap.size ∧ L.vb < w1.heap.size) := fun W w1 hT hl hj => by
    obtain ⟨hc1, _, hc3⟩ := dmet_cell hT ha0 hzn
    obtain ⟨hb, own2, hr, hf⟩ := hT
    have g : ∀ j, w1.cell? ⟨w.heap.size, j, none⟩ = Wa.cell? ⟨w.heap.size, j, none⟩ := fun j => (hc1 j hl).trans (hj j)
    exact ⟨⟨hr.v1, (g 0).trans a0, (g 1).trans a1, (g 2).trans a2, (g 3).trans a3, (g 4).trans a4, (g 5).trans a5⟩, hc3 hl, hr.lto hr.o1⟩
  have hza1 : w.heap.size < Wa.heap.size + 1 := by omega
  have lv1 : L.vb < Wa.heap.size + 1 := by omega
  have HBd := hidP hB
  clear h hk1 hk2 hcc hlen ho hl hB ha hw ht hWa hba ha0 hz
  go_enter Try.func53, Try.ntmps53
  go_wp2_with fail
  rw [← HWa.out]
  go_cut [6] (fun s6 W => ∃ ob, s6 = .pointer (some ⟨ob, 0, none⟩) ∧ DOp Wa own mb L (m.set c (takeS (m.cl c) μ (m.cl c).up)) ob z W)
  case first =>
    go_region_held3 (fun W => W.cell? ⟨L.vb, 1, none⟩ = some (.slice (some ⟨L.eb, 0, none⟩) m.n L.ecap) ∧ W.cell? ⟨w.heap.size, 0, none⟩ = some (.int .i64 μ.o.k) ∧ W.cell? ⟨w.heap.size, 1, none⟩ = some (.int .i64 μ.o.p) ∧ W.cell? ⟨w.heap.size, 2, none⟩ = some (.int .i64 μ.o.b) ∧ W.cell? ⟨w.heap.size, 3, none⟩ = some (.int .i64 μ.o.s) ∧ W.cell? ⟨w.heap.size, 4, none⟩ = some (.int .i64 (μ.sent : Int)) ∧ W.cell? ⟨w.heap.size, 5, none⟩ = some (.int .i64 (μ.came : Int))) (simp [go_sem, *]) ((go_at_call 77; refine (HMt.out _ ?_).mono ?_; (repeat (first | exact Below.refl _ _ | apply Below.drew | refine bel_alloc ?_ _)); rintro e w1 ⟨rfl, hb1⟩; obtain ⟨⟨t0, t1, t2, t3, t4, t5, t6⟩, z1, z2⟩ := HCar.out _ _ hb1 (by simp [hza, hza1]) (fun j => by simp [go_sem, hza, hza1]); obtain ⟨p0, p2, p4⟩ := dmet_cell hb1 HH.out (k := Wa.heap.size) (HH.out.fresh (Nat.le_refl _)); (first | (have HB1 : Hid (∃ W, DMet Wa W own mb L (m.set c (takeS (m.cl c) μ (m.cl c).up)) w1 ∧ Wa.heap.size < W.heap.size) := ⟨_, hb1, lt_alloc' Wa _⟩) | (have HB1 : Hid (∃ W, DMet Wa W own mb L (m.set c (takeS (m.cl c) μ (m.cl c).up)) w1 ∧ Wa.heap.size < W.heap.size) := ⟨_, hb1, lt_alloc' Wa.drew _⟩) | (have HB1 : Hid (∃ W, DMet Wa W own mb L (m.set c (takeS (m.cl c) μ (m.cl c).up)) w1 ∧ True) := ⟨_, hb1, trivial⟩)); clear hb1; (try simp [go_sem] at p0); (try simp [go_sem] at p2); (try simp at p4)))
    all_goals
      go_wp2_with fail
      go_meet
      case rel =>
        go_light
        obtain ⟨W, hT, hWl⟩ := HB1.out
        first
          | with_reducible exact ⟨_, rfl, dop_new hT z 26⟩
          | exact ⟨_, rfl, dop_set hT HH.out p4 hWl p0 z⟩
  case rest =>
    obtain ⟨ob, rfl, hop⟩ := hcut
    have HFin : Hid (∀ w2, Below wc.heap.size wc w2 → DOp Wa own mb L { m.set c (takeS (m.cl c) μ (m.cl c).up) with srv := t } ob z (w2.setCell ⟨L.vb, 0, none⟩ (dstr t)) ∧ w2.cell? ⟨L.vb, 0, none⟩ = some (dstr m.srv) ∧ w2.frozen? ⟨L.vb, 0, none⟩ = false) := fun w2 hb2 => by
      obtain ⟨own2, h1, h2⟩ := hop.next
      have h3 := h1.below hb2
      obtain ⟨h4, h5⟩ := h3.srvSet t
      exact ⟨h2 w2 hb2 _ _ _ h4 h5, h3.v0, h3.vf 0⟩
    obtain ⟨own2, h1, _⟩ := hop.next
    have q0 : wc.cell? ⟨L.vb, 0, none⟩ = some (dstr m.srv) := h1.v0
    have lq := h1.lto h1.o1
    have lo := hop.lt
    obtain ⟨x0, x1, x2, x3⟩ := hop.op
    clear hop h1 HCar HMt HH a0 a1 a2 a3 a4 a5 v1
    go_wp2_with fail
    go_cut [] (fun W => DOp Wa own mb L { m.set c (takeS (m.cl c) μ (m.cl c).up) with srv := t } ob z W)
    case first =>
      go_region_with ((go_at_call 30; refine (HD.out _).mono ?_; rintro e w2 ⟨rfl, hb2⟩; obtain ⟨hm2, t5, tf⟩ := HFin.out w2 (bel_trans (Below.refl _ _).drew hb2); have HM2 : Hid (DOp Wa own mb L { m.set c (takeS (m.cl c) μ (m.cl c).up) with srv := t } ob z (w2.setCell ⟨L.vb, 0, none⟩ (dstr t))) := hm2; clear hb2 hm2))
      all_goals go_wp2_with fail
      all_goals go_meet
      all_goals exact HM2.out
    case rest =>
      have HOp := hidP hcut
      obtain ⟨own3, h3, _⟩ := hcut.next
      have r1 : wc.cell? ⟨L.vb, 1, none⟩ = some (.slice (some ⟨L.eb, 0, none⟩) m.n L.ecap) := h3.v1
      have HTell : Hid (∀ wr j, j < m.n → DOp Wa own mb L (toldM { m.set c (takeS (m.cl c) μ (m.cl c).up) with srv := t } c z j) ob z wr → ∀ W, Below wr.heap.size wr W → Calls Try.prog 78 #[.pointer (some ⟨L.eb, j * 5, none⟩), .int .i64 (c : Int), .agg #[.int .i64 z.k, .int .i64 z.p, .int .i64 z.b, .int .i64 z.s]] W fun e w' => e = .returned (.tuple #[]) ∧ Hid (DOp Wa own mb L (toldM { m.set c (takeS (m.cl c) μ (m.cl c).up) with srv := t } c z (j + 1)) ob z w')) := fun wr j hj hd W hW => by
        obtain ⟨own4, h4, h5⟩ := hd.next
        have hb := HBd.out j hj
        have e1 : ((toldM { m.set c (takeS (m.cl c) μ (m.cl c).up) with srv := t } c z j).cl j).ts = (m.cl j).ts ∧ ((toldM { m.set c (takeS (m.cl c) μ (m.cl c).up) with srv := t } c z j).cl j).«to».length ≤ (m.cl j).«to».length ∧ ((toldM { m.set c (takeS (m.cl c) μ (m.cl c).up) with srv := t } c z j).cl j).dn = (m.cl j).dn := by
          rw [told_self]
          show ((m.set c (takeS (m.cl c) μ (m.cl c).up)).cl j).ts = _ ∧ ((m.set c (takeS (m.cl c) μ (m.cl c).up)).cl j).«to».length ≤ _ ∧ ((m.set c (takeS (m.cl c) μ (m.cl c).up)).cl j).dn = _
          by_cases e : j = c
          · subst e
            rw [dset_at]
            refine ⟨rfl, ?_, rfl⟩
            simp only [takeS, cross_len, List.length_drop]
            omega
          · rw [dset_far _ _ e]; exact ⟨rfl, Nat.le_refl _, rfl⟩
        refine (tell_any (h4.below hW) j hj c z (by rw [e1.1]; omega) (by have := e1.2.1; omega) (by rw [e1.2.2]; exact hb.2.2)).mono ?_
        rintro e w' ⟨rfl, own5, h6, h7⟩
        rw [told_succ] at h6
        exact ⟨rfl, h5 W hW _ _ _ h6 h7⟩
      clear h3 hcut q0 lq lo x0 x1 x2 x3 HFin HD
      go_wp2_with fail
      go_loopw [31] (fun i wr => ∃ j : Nat, j ≤ m.n ∧ i = .int .i64 (j : Int) ∧ DOp Wa own mb L (toldM { m.set c (takeS (m.cl c) μ (m.cl c).up) with srv := t } c z j) ob z wr) (fun i _ => m.n - (RowKit.intOf i).toNat)
      case atStart => exact ⟨0, Nat.zero_le _, rfl, by rw [told_zero]; exact HOp.out⟩
      case round =>
        obtain ⟨j, hjn, rfl, hd⟩ := hrel
        by_cases hlt : j < m.n
        · have hlt' : (j : Int) < (m.n : Int) := by omega
          have hj4 : (j : Int) < 4 := by omega
          have hj5 : j < 4 := by omega
          have HT2 := hidP (HTell.out wr j hlt hd)
          obtain ⟨own4, h4, _⟩ := hd.next
          have s1 : wr.cell? ⟨L.vb, 1, none⟩ = some (.slice (some ⟨L.eb, 0, none⟩) m.n L.ecap) := h4.v1
          obtain ⟨x0, x1, x2, x3⟩ := hd.op
          clear h4 hd HTell HOp
          go_wp2_with fail
          go_region_with ((go_at_call 78; refine (HT2.out _ (by repeat (first | exact Below.refl _ _ | apply Below.drew | refine bel_alloc ?_ _))).mono ?_; rintro e w3 ⟨rfl, hr3⟩; have HR3 : Hid (DOp Wa own mb L (toldM { m.set c (takeS (m.cl c) μ (m.cl c).up) with srv := t } c z (j + 1)) ob z w3) := hr3; clear hr3))
          all_goals go_wp2_with fail
          all_goals exact ⟨⟨j + 1, by omega, by go_num, HR3.out⟩, by simp [RowKit.intOf]; omega⟩
        · have hje : j = m.n := by omega
          subst hje
          have HFn : Hid (∃ own', DevM wr mb (upM m c μ (m.cl c).up t) L own' ∧ DFrm w own wr own') := by
            obtain ⟨⟨own5, h5, h6, _⟩, _, _, _⟩ := hd
            refine ⟨own5, h5.congr rfl rfl (fun i hi => ?_), (DFrm.of_below HBa.out).trans h6⟩
            have := told_all m c μ (m.cl c).up t i hi
            rw [← Hz.out] at this
            exact this.symm
          clear hd HTell HOp
          go_wp2
          simp [bodyPost, results, Try.results53, go_sem]
          exact HFn.out
end
end Go.Proofs.Ytomeaiffpeibhaa
