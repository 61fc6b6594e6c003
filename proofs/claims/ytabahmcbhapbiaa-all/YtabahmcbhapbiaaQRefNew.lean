import Derived.Test.YtabahmcbhapbiaaQRefM
import Derived.Test.YtabahmcbhapbiaaQDevMoot
import Derived.Deep.DeepCutAuto
import Derived.Deep.RegionHeld3
import Derived.Deep.LoopGhost
import Derived.BigRegion
namespace Go.Proofs.Ytabahmcbhapbiaa
open Go.RowKit Go.Lib
set_option linter.unusedVariables false
def zSide : Array Value := #[.int .i64 0, .int .i64 0, .int .i64 0, .slice none 0 0]
def sideObj (n : Nat) : Obj := .cells (madeCells zSide (n * 4)) 145
def rowObj (n : Nat) : Obj := .cells (madeCells #[.slice none 0 0] (n * 1)) 149
theorem infoSide : (Try.prog.info? 145).map (fun i => (i.zero, i.size, i.bytes)) = some (some (.agg zSide), 4, 48) := by kernel_rfl
theorem infoRow : (Try.prog.info? 149).map (fun i => (i.zero, i.size, i.bytes)) = some (some (.slice none 0 0), 1, 24) := by kernel_rfl
theorem infoStr : (Try.prog.info? 9).map (fun i => (i.zero, i.size, i.bytes)) = some (some (.string ⟨#[]⟩), 1, 16) := by kernel_rfl
theorem mk_sides (n : Nat) (h : n ≤ 4) (w : World) : (Instr.makeSlice 140 (.int .i64 (n : Int)) (.int .i64 (n : Int))).run Try.prog w = .ok (.slice (some ⟨w.heap.size, 0, none⟩) n n) (w.alloc (sideObj n)) := by
  obtain ⟨i0, hi, hz, hs, hb⟩ := info_parts infoSide
  have := run_makeSlice (P := Try.prog) w 140 145 i0 _ Try.underlying140 hi hz .i64 .i64 (n : Int) (n : Int) (by omega) (Int.le_refl _) (by rw [hs]; omega) (by rw [hb]; omega) (by omega)
  rw [hs, Int.toNat_natCast] at this
  exact this
theorem mk_rows (n : Nat) (h : n ≤ 4) (w : World) : (Instr.makeSlice 141 (.int .i64 (n : Int)) (.int .i64 (n : Int))).run Try.prog w = .ok (.slice (some ⟨w.heap.size, 0, none⟩) n n) (w.alloc (rowObj n)) := by
  obtain ⟨i0, hi, hz, hs, hb⟩ := info_parts infoRow
  have := run_makeSlice (P := Try.prog) w 141 149 i0 _ Try.underlying141 hi hz .i64 .i64 (n : Int) (n : Int) (by omega) (Int.le_refl _) (by rw [hs]; omega) (by rw [hb]; omega) (by omega)
  rw [hs, Int.toNat_natCast] at this
  exact this
theorem made_at (z : Array Value) (n j : Nat) (hj : j < n) : (madeCells z n)[j]? = some (z[j % z.size]!) := by
  unfold madeCells
  simp [hj]
/-- Sides, or queues, of which nothing has come. -/
structure ZS (W : World) (b n : Nat) : Prop where
  lt : b < W.heap.size
  sd : ∀ i, i < n → SideAt W b (i * 4) 0 0 0 (.slice none 0 0)
  fr : ∀ j, W.frozen? ⟨b, j, none⟩ = false
structure ZQ (W : World) (b n : Nat) : Prop where
  lt : b < W.heap.size
  sd : ∀ i, i < n → W.cell? ⟨b, i, none⟩ = some (.slice none 0 0)
  fr : ∀ j, W.frozen? ⟨b, j, none⟩ = false
theorem zs_new (W : World) (n : Nat) {b : Nat} (hb : b = W.heap.size) : ZS (W.alloc (sideObj n)) b n := by
  subst hb
  have c : ∀ i k, i < n → k < 4 → (W.alloc (sideObj n)).cell? ⟨W.heap.size, i * 4 + k, none⟩ = some (zSide[k]!) := fun i k hi hk => by
    unfold sideObj
    rw [World.cell?_alloc_at (w := W) _ _ _ _ rfl, made_at _ _ _ (by omega)]
    have : zSide.size = 4 := rfl
    rw [this, show (i * 4 + k) % 4 = k by omega]
  refine ⟨by simp, fun i hi => ⟨?_, c i 1 hi (by omega), c i 2 hi (by omega), c i 3 hi (by omega)⟩, fun j => World.frozen?_alloc_at (w := W) _ _ _ j rfl⟩
  have := c i 0 hi (by omega)
  rw [Nat.add_zero] at this
  exact this
theorem zq_new (W : World) (n : Nat) {b : Nat} (hb : b = W.heap.size) : ZQ (W.alloc (rowObj n)) b n := by
  subst hb
  refine ⟨by simp, fun i hi => ?_, fun j => World.frozen?_alloc_at (w := W) _ _ _ j rfl⟩
  unfold rowObj
  rw [World.cell?_alloc_at (w := W) _ _ _ _ rfl, made_at _ _ _ (by omega)]
  simp [Nat.mod_one]
theorem ZS.keep {F : Nat → Prop} {W W' : World} {b n : Nat} (h : ZS W b n) (hk : KeptX F W W') (hF : ¬ F b) : ZS W' b n := ⟨Nat.lt_of_lt_of_le h.lt hk.size, fun i hi => sideAt_keep (h.sd i hi) hk h.lt hF, fun j => (hk.frozen (p := ⟨b, j, none⟩) h.lt hF).trans (h.fr j)⟩
theorem ZQ.keep {F : Nat → Prop} {W W' : World} {b n : Nat} (h : ZQ W b n) (hk : KeptX F W W') (hF : ¬ F b) : ZQ W' b n := ⟨Nat.lt_of_lt_of_le h.lt hk.size, fun i hi => (hk.cell (p := ⟨b, i, none⟩) h.lt hF).trans (h.sd i hi), fun j => (hk.frozen (p := ⟨b, j, none⟩) h.lt hF).trans (h.fr j)⟩
theorem ZS.al {W : World} {b n : Nat} (h : ZS W b n) (o : Obj) : ZS (W.alloc o) b n := h.keep ((KeptX.refl (fun _ => False) W).alloc o) (fun e => e)
theorem ZQ.al {W : World} {b n : Nat} (h : ZQ W b n) (o : Obj) : ZQ (W.alloc o) b n := h.keep ((KeptX.refl (fun _ => False) W).alloc o) (fun e => e)
/-- How New stands with j texts. -/
structure NewR (w : World) (mb n j : Nat) (t : List UInt8) (W : World) : Prop where
  bel : Below w.heap.size w W
  mge : w.heap.size ≤ mb
  mlt : mb < W.heap.size
  mf : ∀ k, W.frozen? ⟨mb, k, none⟩ = false
  c1 : W.cell? ⟨mb, 1, none⟩ = some (str t)
  c6 : W.cell? ⟨mb, 6, none⟩ = some (.slice none 0 0)
  bl : ∃ hb sb ub db a n0 c g, (W.cell? ⟨mb, 2, none⟩ = some (.slice (some ⟨hb, 0, none⟩) n n) ∧ W.cell? ⟨mb, 3, none⟩ = some (.slice (some ⟨sb, 0, none⟩) n n) ∧ W.cell? ⟨mb, 4, none⟩ = some (.slice (some ⟨ub, 0, none⟩) n n) ∧ W.cell? ⟨mb, 5, none⟩ = some (.slice (some ⟨db, 0, none⟩) n n)) ∧
    (ZS W hb n ∧ ZS W sb n ∧ ZQ W ub n ∧ ZQ W db n) ∧ (w.heap.size ≤ hb ∧ w.heap.size ≤ sb ∧ w.heap.size ≤ ub ∧ w.heap.size ≤ db) ∧ (hb ≠ sb ∧ hb ≠ ub ∧ hb ≠ db ∧ sb ≠ ub ∧ sb ≠ db ∧ ub ≠ db ∧ mb ≠ hb ∧ mb ≠ sb ∧ mb ≠ ub ∧ mb ≠ db) ∧
    W.cell? ⟨mb, 0, none⟩ = some (.slice a n0 c) ∧ RowQ W 1 (.slice a n0 c) (flatN (fun _ => [str t]) j) g ∧ Off0 (.slice a n0 c) ∧ (∀ k, g = some k → w.heap.size ≤ k ∧ k ≠ mb ∧ k ≠ hb ∧ k ≠ sb ∧ k ≠ ub ∧ k ≠ db) ∧ (∀ k, g = some k → ∀ i, W.frozen? ⟨k, i, none⟩ = false)
theorem ZS.dr {W : World} {b n : Nat} (h : ZS W b n) : ZS W.drew b n := ⟨h.lt, h.sd, h.fr⟩
theorem ZQ.dr {W : World} {b n : Nat} (h : ZQ W b n) : ZQ W.drew b n := ⟨h.lt, h.sd, h.fr⟩
theorem new_r0 {w W4 : World} {n hb sb ub db mb : Nat} {t : List UInt8} (hmb : mb = W4.heap.size) (bel : Below w.heap.size w W4) (z1 : ZS W4 hb n) (z2 : ZS W4 sb n) (z3 : ZQ W4 ub n) (z4 : ZQ W4 db n) (ge : w.heap.size ≤ hb ∧ w.heap.size ≤ sb ∧ w.heap.size ≤ ub ∧ w.heap.size ≤ db) (ne : hb ≠ sb ∧ hb ≠ ub ∧ hb ≠ db ∧ sb ≠ ub ∧ sb ≠ db ∧ ub ≠ db) :
    NewR w mb n 0 t (W4.alloc (.cells #[.slice none 0 0, str t, .slice (some ⟨hb, 0, none⟩) n n, .slice (some ⟨sb, 0, none⟩) n n, .slice (some ⟨ub, 0, none⟩) n n, .slice (some ⟨db, 0, none⟩) n n, .slice none 0 0] 143)).drew := by
  subst hmb
  have h1 := z1.lt
  have h2 := z2.lt
  have h3 := z3.lt
  have h4 := z4.lt
  refine ⟨(bel_alloc bel _).drew, bel.size, by simp, fun k => World.frozen?_alloc_at (w := W4) _ _ _ k rfl, by simp [go_sem], by simp [go_sem], ⟨hb, sb, ub, db, none, 0, 0, none, ⟨by simp [go_sem], by simp [go_sem], by simp [go_sem], by simp [go_sem]⟩, ⟨(z1.al _).dr, (z2.al _).dr, (z3.al _).dr, (z4.al _).dr⟩, ge, ?_, by simp [go_sem], RowQ.nil _ _, Off0.nil, fun k e => (by cases e), fun k e => (by cases e)⟩⟩
  omega
theorem new_rs {w wr : World} {mb n j : Nat} {t : List UInt8} (h : NewR w mb n j t wr) (hj : j < 4) :
    ∃ (a : Option Addr) (n0 c : Nat), wr.cell? ⟨mb, 0, none⟩ = some (.slice a n0 c) ∧ wr.frozen? ⟨mb, 0, none⟩ = false ∧ mb < wr.heap.size ∧
      ∃ v' W', (∀ ty, (Builtin.append_ #[139, 139] ty #[.slice a n0 c, .slice (some ⟨wr.heap.size, 0, none⟩) 1 1]).run Try.prog (wr.alloc (.cells #[str t] 9)) = .ok v' W') ∧
        ((∃ a' n' c', v' = .slice a' n' c') ∧ NewR w mb n (j + 1) t (W'.setCell ⟨mb, 0, none⟩ v') ∧ W'.cell? ⟨mb, 0, none⟩ = some (.slice a n0 c) ∧ W'.frozen? ⟨mb, 0, none⟩ = false) := by
  obtain ⟨bel, mge, mlt, mf, c1, c6, hb, sb, ub, db, a, n0, c, g, ⟨c2, c3, c4, c5⟩, ⟨z1, z2, z3, z4⟩, ge, ne, c0, rq, o0, hg, hgf⟩ := h
  obtain ⟨v', W', hrun, ⟨a', n', c', hv'⟩, g', q', k', d', o', f'⟩ := appN (W := wr) (t := 139) (e := 9) (row := fun _ => [str t]) Try.underlying139 infoStr rfl (by decide) (fun _ => rfl) (fun u hu => by simp at hu; subst hu; rfl) rq #[str t] rfl (by omega) (by omega)
  subst hv'
  have nm : g ≠ some mb := fun e => (hg mb e).2.1 rfl
  have cW : ∀ k, W'.cell? ⟨mb, k, none⟩ = wr.cell? ⟨mb, k, none⟩ := fun k => k'.cell (p := ⟨mb, k, none⟩) mlt nm
  have fW : ∀ k, W'.frozen? ⟨mb, k, none⟩ = false := fun k => (k'.frozen (p := ⟨mb, k, none⟩) mlt nm).trans (mf k)
  refine ⟨a, n0, c, c0, mf 0, mlt, _, W', hrun, ⟨a', n', c', rfl⟩, ?_, (cW 0).trans c0, fW 0⟩
  have hks : KeptX (fun k => k = mb) W' (W'.setCell ⟨mb, 0, none⟩ (.slice a' n' c')) := (KeptX.refl (fun k => k = mb) W').setCell (p := ⟨mb, 0, none⟩) (fun _ => rfl) _
  have co : ∀ k, k ≠ 0 → (W'.setCell ⟨mb, 0, none⟩ (.slice a' n' c')).cell? ⟨mb, k, none⟩ = wr.cell? ⟨mb, k, none⟩ := fun k hk => (World.cell?_setCell_other _ _ _ _ (by simp only [ne_eq, Addr.mk.injEq]; omega)).trans (cW k)
  have bs := bel.size
  have bW : Below w.heap.size w W' := ⟨k'.os.trans bel.os, k'.tape.trans bel.tape, k'.output.trans bel.output, Nat.le_trans bel.size k'.size, fun k hk => (k'.block k (Nat.lt_of_lt_of_le hk bel.size) (fun e => by have := (hg k e).1; omega)).trans (bel.block k hk)⟩
  have l1 := z1.lt
  have l2 := z2.lt
  have l3 := z3.lt
  have l4 := z4.lt
  have hg' : ∀ k, g' = some k → w.heap.size ≤ k ∧ k ≠ mb ∧ k ≠ hb ∧ k ≠ sb ∧ k ≠ ub ∧ k ≠ db := fun k e => by
    rcases d' k e with x | x
    · exact hg k x
    · omega
  refine ⟨bel_set bW (p := ⟨mb, 0, none⟩) mge _, mge, Nat.lt_of_lt_of_le (Nat.lt_of_lt_of_le mlt k'.size) hks.size, fun k => by rw [World.frozen?_setCell]; exact fW k, (co 1 (by omega)).trans c1, (co 6 (by omega)).trans c6, ⟨hb, sb, ub, db, a', n', c', g', ⟨(co 2 (by omega)).trans c2, (co 3 (by omega)).trans c3, (co 4 (by omega)).trans c4, (co 5 (by omega)).trans c5⟩, ⟨(z1.keep k' (fun e => (hg _ e).2.2.1 rfl)).keep hks (by omega), (z2.keep k' (fun e => (hg _ e).2.2.2.1 rfl)).keep hks (by omega), (z3.keep k' (fun e => (hg _ e).2.2.2.2.1 rfl)).keep hks (by omega), (z4.keep k' (fun e => (hg _ e).2.2.2.2.2 rfl)).keep hks (by omega)⟩, ge, ne, ?_, q'.keep hks (fun k e e2 => (hg' k e).2.1 e2), o0.next o', hg', fun k e i => ?_⟩⟩
  · have := (cW 0).trans c0
    simp [go_sem, this]
  · rw [World.frozen?_setCell]
    rcases f' k e with ⟨x, y⟩ | x
    · exact (y i).trans (hgf k x i)
    · exact x i
theorem new_rd {w W : World} {mb n : Nat} {t : List UInt8} (h : NewR w mb n n t W) (n1 : 1 ≤ n) (n4 : n ≤ 4) : ∃ L own, RefM W mb (newM n t) L own ∧ Below w.heap.size w W ∧ ∀ k, own k ≠ none → w.heap.size ≤ k := by
  obtain ⟨bel, mge, mlt, mf, c1, c6, hb, sb, ub, db, a, n0, c, g, ⟨c2, c3, c4, c5⟩, ⟨z1, z2, z3, z4⟩, ge, ne, c0, rq, o0, hg, hgf⟩ := h
  obtain ⟨tb, tcap, htg, htv, htl, htc, _⟩ := rowN_open (size := 1) (row := fun _ => [str t]) (by decide) (fun _ => rfl) rq o0 n1
  rw [htv] at c0
  have hgt := hg tb htg
  have hcap : n ≤ tcap ∧ tcap ≤ 9223372036854775807 := by
    rcases rq with ⟨h1, _, _⟩ | ⟨gb, off, n', cap, _, hv, h3, h4, h5, _⟩
    · rw [h1] at htv; cases htv
    · rw [hv] at htv; cases htv; exact ⟨h4, h5⟩
  obtain ⟨own, hown⟩ : ∃ own : Nat → Option Slot, own = fun k => if k = mb then some (0, 0) else if k = tb then some (1, 0) else if k = hb then some (2, 0) else if k = sb then some (3, 0) else if k = ub then some (4, 0) else if k = db then some (5, 0) else none := ⟨_, rfl⟩
  refine ⟨⟨tb, tcap, hb, sb, ub, db, .slice none 0 0, none, fun _ => .slice none 0 0, fun _ => none, fun _ => .slice none 0 0, fun _ => none, fun _ => .slice none 0 0, fun _ => none, fun _ => .slice none 0 0, fun _ => none⟩, own, ⟨n1, n4, hcap.1, hcap.2, fun a i hai => ?_, fun s k e => ?_, fun k e => ?_⟩, bel, fun k e => ?_⟩
  · match a with
    | 0 => exact ⟨⟨c0, c1, c2, c3, c4, c5, c6⟩, mf⟩
    | 1 => exact ⟨fun j hj => by have := htc j 0 hj (by decide); rw [Nat.mul_one, Nat.add_zero] at this; exact this, fun j => hgf tb htg j⟩
    | 2 => exact ⟨fun j hj => z1.sd j hj, z1.fr⟩
    | 3 => exact ⟨fun j hj => z2.sd j hj, z2.fr⟩
    | 4 => exact ⟨fun j hj => z3.sd j hj, z3.fr⟩
    | 5 => exact ⟨fun j hj => z4.sd j hj, z4.fr⟩
    | 6 => exact RowQ.nil _ _
    | 7 => exact fun _ => RowQ.nil _ _
    | 8 => exact fun _ => RowQ.nil _ _
    | 9 => exact fun _ => RowQ.nil _ _
    | 10 => exact fun _ => RowQ.nil _ _
    | n + 11 => exact trivial
  · obtain ⟨sa, si⟩ := s
    rw [hown]
    match sa, e with
    | 0, e => obtain ⟨e1, e2⟩ := e; have e1' : si = 0 := e1; have e2' : k = mb := e2; subst e1' e2'; simp
    | 1, e => obtain ⟨e1, e2⟩ := e; have e1' : si = 0 := e1; have e2' : k = tb := e2; subst e1' e2'; simp [hgt.2.1]
    | 2, e => obtain ⟨e1, e2⟩ := e; have e1' : si = 0 := e1; have e2' : k = hb := e2; subst e1' e2'; simp [ne.2.2.2.2.2.2.1.symm, hgt.2.2.1.symm]
    | 3, e => obtain ⟨e1, e2⟩ := e; have e1' : si = 0 := e1; have e2' : k = sb := e2; subst e1' e2'; simp [ne.2.2.2.2.2.2.2.1.symm, hgt.2.2.2.1.symm, ne.1.symm]
    | 4, e => obtain ⟨e1, e2⟩ := e; have e1' : si = 0 := e1; have e2' : k = ub := e2; subst e1' e2'; simp [ne.2.2.2.2.2.2.2.2.1.symm, hgt.2.2.2.2.1.symm, ne.2.1.symm, ne.2.2.2.1.symm]
    | 5, e => obtain ⟨e1, e2⟩ := e; have e1' : si = 0 := e1; have e2' : k = db := e2; subst e1' e2'; simp [ne.2.2.2.2.2.2.2.2.2.symm, hgt.2.2.2.2.2.symm, ne.2.2.1.symm, ne.2.2.2.2.1.symm, ne.2.2.2.2.2.1.symm]
    | 6, e => obtain ⟨_, e2⟩ := e; cases e2
    | 7, e => obtain ⟨_, e2⟩ := e; cases e2
    | 8, e => obtain ⟨_, e2⟩ := e; cases e2
    | 9, e => obtain ⟨_, e2⟩ := e; cases e2
    | 10, e => obtain ⟨_, e2⟩ := e; cases e2
    | n + 11, e => exact e.elim
  · rw [hown] at e
    have l1 := z1.lt
    have l2 := z2.lt
    have l3 := z3.lt
    have l4 := z4.lt
    simp only at e
    by_cases e0 : k = mb
    · omega
    · by_cases e1 : k = tb
      · omega
      · by_cases e2 : k = hb
        · omega
        · by_cases e3 : k = sb
          · omega
          · by_cases e4 : k = ub
            · omega
            · by_cases e5 : k = db
              · omega
              · simp [e0, e1, e2, e3, e4, e5] at e
  · rw [hown] at e
    simp only at e
    have g1 := hgt.1
    by_cases e0 : k = mb
    · omega
    · by_cases e1 : k = tb
      · omega
      · by_cases e2 : k = hb
        · omega
        · by_cases e3 : k = sb
          · omega
          · by_cases e4 : k = ub
            · omega
            · by_cases e5 : k = db
              · omega
              · simp [e0, e1, e2, e3, e4, e5] at e
set_option maxHeartbeats 4000000 in
theorem refNew_ok (n : Nat) (n1 : 1 ≤ n) (n4 : n ≤ 4) (t : List UInt8) (ht : t.length ≤ 60) (w : World) :
    Calls Try.prog 77 #[.int .i64 (n : Int), str t] w fun e w' => ∃ mb L own, e = .returned (.tuple #[.pointer (some ⟨mb, 0, none⟩), .int .i64 0]) ∧ Hid (RefM w' mb (newM n t) L own ∧ Below w.heap.size w w' ∧ ∀ k, own k ≠ none → w.heap.size ≤ k) := by
  have i1 : 1 ≤ (n : Int) := by omega
  have i4 : (n : Int) ≤ 4 := by omega
  have il : (t.length : Int) ≤ 60 := by omega
  have isz : (ByteArray.mk t.toArray).size = t.length := by show t.toArray.size = _; simp
  have hS := mk_sides n n4
  have hQ := mk_rows n n4
  go_enter Try.func77, Try.ntmps77
  go_wp2_with fail
  go_cut [6] (fun s6 W => ∃ mb, s6 = .pointer (some ⟨mb, 0, none⟩) ∧ NewR w mb n 0 t W)
  case first =>
    go_region
    all_goals
      go_wp2_with fail
      go_meet
      case rel =>
        go_light
        exact ⟨_, rfl, new_r0 (by simp) (by repeat (first | exact Below.refl _ _ | refine bel_alloc ?_ _)) (by repeat (first | (with_reducible refine zs_new _ _ ?_; simp; done) | refine ZS.al ?_ _)) (by repeat (first | (with_reducible refine zs_new _ _ ?_; simp; done) | refine ZS.al ?_ _)) (by repeat (first | (with_reducible refine zq_new _ _ ?_; simp; done) | refine ZQ.al ?_ _)) (by repeat (first | (with_reducible refine zq_new _ _ ?_; simp; done) | refine ZQ.al ?_ _)) (by omega) (by omega)⟩
  case rest =>
    obtain ⟨mb, rfl, hd0⟩ := hcut
    have H0 : Hid (NewR w mb n 0 t wc) := hd0
    clear hd0 hS hQ
    go_wp2_with fail
    go_loopw [7] (fun i wr => ∃ j : Nat, j ≤ n ∧ i = .int .i64 (j : Int) ∧ NewR w mb n j t wr) (fun i _ => n - (RowKit.intOf i).toNat)
    case atStart => exact ⟨0, Nat.zero_le _, rfl, H0.out⟩
    case round =>
      obtain ⟨j, hjn, rfl, hd⟩ := hrel
      clear H0
      by_cases hlt : j < n
      · have hlt' : (j : Int) < (n : Int) := by omega
        have hj4 : (j : Int) < 4 := by omega
        have hj5 : j < 4 := by omega
        obtain ⟨a, n0, c, m0, mf, lm, hA⟩ := new_rs hd hj5
        have HA : Hid _ := hA
        have lm1 : mb < wr.heap.size + 1 := by omega
        clear hA hd
        go_wp2_with (at_builtin; go_must (refine wpList_append_ex _ rfl _ _ _ _ rfl _ _ rfl rfl _ HA.out ?_; rintro v1 W1 ⟨⟨a1, n1', c1, rfl⟩, hw1, t1, tf⟩; have HS1 : Hid _ := hw1; clear hw1))
        all_goals exact ⟨⟨j + 1, by omega, by go_num, HS1.out⟩, by simp [RowKit.intOf]; omega⟩
      · have hje : j = n := by omega
        subst hje
        have HF : Hid _ := new_rd hd n1 n4
        clear hd
        go_wp2
        go_ret2
        obtain ⟨L, own, hF⟩ := HF.out
        exact ⟨_, L, own, rfl, hF⟩
end Go.Proofs.Ytabahmcbhapbiaa
