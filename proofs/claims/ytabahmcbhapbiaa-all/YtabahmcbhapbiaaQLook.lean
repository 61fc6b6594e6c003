import Derived.Test.YtabahmcbhapbiaaQDevMoot
import Derived.Deep.RegionHeld3
import Derived.Deep.DeepCutAuto
import Derived.Shelf.Spec.SlicesInsertGrow
import Derived.Test.YtabahmcbhapbiaaQDevLook
import Derived.Test.YtabahmcbhapbiaaQLawA
import Derived.Test.YtabahmcbhapbiaaQPlain
import Derived.Test.YtabahmcbhapbiaaQRng
import Derived.Laws.StructEq
namespace Go.Proofs.Ytabahmcbhapbiaa
open Go.RowKit Go.Lib
set_option linter.unusedVariables false
/-- The mark of the k-th list that came out. -/
def markN (k : Nat) : Int := -1000 - ((k / 4 : Nat) : Int)
theorem mark_any (k : Nat) (hk : k ≤ 100000000000000) (w : World) : Calls Try.prog 58 #[.int .i64 (k : Int)] w fun e w' => e = .returned (.int .i64 (markN k)) ∧ w = w' := by
  go_enter Try.func58, Try.ntmps58
  go_wp2
  go_ret
  have e2 : (k : Int) / 4 = ((k / 4 : Nat) : Int) := by omega
  exact ⟨by unfold markN; rw [← e2]; rfl, rfl⟩
/-- The lists that came out: N of them, from ob's place oo on; each holds its mark alone. -/
def Marked (W : World) (ob oo N : Nat) : Prop :=
  ∀ k, k < N → ∃ v, W.cell? ⟨ob, oo + k, none⟩ = some v ∧ (v = .slice none 0 0 ∨ ∃ gb off n c, v = .slice (some ⟨gb, off, none⟩) n c ∧ n ≤ 100000000000000 ∧ ∀ i, i < n → Op4At W gb (off + i * 4) ⟨markN k, 0, 0, 0⟩)
theorem belS {W W' : World} (h : Below W.heap.size W W') {p : Addr} {v : Value} (hc : W.cell? p = some v) : W'.cell? p = some v := (h.cell (block_lt_of_cell hc)).trans hc
theorem op4at_bel {W W' : World} (h : Below W.heap.size W W') {b o : Nat} {u : Op4} (hu : Op4At W b o u) : Op4At W' b o u := by
  obtain ⟨x0, x1, x2, x3⟩ := hu
  exact ⟨belS h x0, belS h x1, belS h x2, belS h x3⟩
set_option maxHeartbeats 2000000 in
set_option maxRecDepth 100000 in
theorem looks_some (wb ob oo N cap : Nat) (W : World) (hc : W.cell? ⟨wb, 1, none⟩ = some (.slice (some ⟨ob, oo, none⟩) N cap)) (hN : N ≤ 100000000000000) (hm : Marked W ob oo N) :
    Calls Try.prog 29 #[.pointer (some ⟨wb, 0, none⟩)] W fun e w' => e = .returned (.bool true) ∧ Below W.heap.size W w' := by
  have HM : Hid _ := hm
  have HC : Hid _ := hc
  have HK : Hid (∀ k, k < N → ∀ W, Calls Try.prog 58 #[.int .i64 (k : Int)] W fun e w' => e = .returned (.int .i64 (markN k)) ∧ W = w') := fun k hk W => mark_any k (by omega) W
  clear hm
  go_enter Try.func29, Try.ntmps29
  go_wp2
  clear hc
  go_loopw [3] (fun i wr => ∃ k : Nat, k ≤ N ∧ i = .int .i64 k ∧ Hid (Below W.heap.size W wr)) (fun i _ => N - (RowKit.intOf i).toNat)
  case atStart => exact ⟨0, Nat.zero_le _, rfl, Below.refl _ _⟩
  case round =>
    obtain ⟨k, hk, rfl, hb⟩ := hrel
    have hc := belS hb.out HC.out
    by_cases hlt : k < N
    · have hki : (k : Int) < (N : Int) := by omega
      obtain ⟨v, hv, hvs⟩ := HM.out k hlt
      have HV : Hid _ := hv
      replace hv := belS hb.out hv
      rcases hvs with rfl | ⟨gb, off, n, c, rfl, hn, ho⟩
      · go_wp2
        go_loopw [4] (fun i wr2 => i = .int .i64 0 ∧ wr2 = wr) (fun _ _ => 0)
        case atStart => exact ⟨rfl, rfl⟩
        case round =>
          obtain ⟨rfl, rfl⟩ := hrel
          go_wp2
          exact ⟨⟨k + 1, by omega, by go_num, hb⟩, by simp [RowKit.intOf]; omega⟩
      · have HO : Hid _ := ho
        clear ho
        go_wp2
        clear hc hv
        go_loopw [4] (fun i wr2 => ∃ q : Nat, q ≤ n ∧ i = .int .i64 q ∧ Hid (Below W.heap.size W wr2)) (fun i _ => n - (RowKit.intOf i).toNat)
        case atStart => exact ⟨0, Nat.zero_le _, rfl, hb⟩
        case round =>
          clear hb
          obtain ⟨q, hq, rfl, hb⟩ := hrel
          have hc := belS hb.out HC.out
          have hv := belS hb.out HV.out
          by_cases hqlt : q < n
          · have hqi : (q : Int) < (n : Int) := by omega
            obtain ⟨o0, o1, o2, o3⟩ := op4at_bel hb.out (HO.out q hqlt)
            simp only at o0 o1 o2 o3
            go_wp2_with fail
            go_region_held3 (fun W' => W'.cell? ⟨wb, 1, none⟩ = some (.slice (some ⟨ob, oo, none⟩) N cap) ∧ W'.cell? ⟨ob, oo + k, none⟩ = some (.slice (some ⟨gb, off, none⟩) n c) ∧ W'.cell? ⟨gb, off + q * 4, none⟩ = some (.int .i64 (markN k)) ∧ W'.cell? ⟨gb, off + q * 4 + 1, none⟩ = some (.int .i64 0) ∧ W'.cell? ⟨gb, off + q * 4 + 2, none⟩ = some (.int .i64 0) ∧ W'.cell? ⟨gb, off + q * 4 + 3, none⟩ = some (.int .i64 0)) (simp [go_sem, *]) ((go_at_call 58; refine (HK.out k hlt _).mono ?_; rintro e w1 ⟨rfl, rfl⟩))
            all_goals go_wp2
            all_goals exact ⟨⟨q + 1, by omega, by go_num, hb.out.drew⟩, by simp [RowKit.intOf]; omega⟩
          · go_wp2
            exact ⟨⟨k + 1, by omega, by go_num, hb⟩, by simp [RowKit.intOf]; omega⟩
    · go_wp2
      go_ret
      exact ⟨rfl, hb⟩
end Go.Proofs.Ytabahmcbhapbiaa

namespace Go.Proofs.Ytabahmcbhapbiaa
open Go.RowKit Go.Lib
set_option linter.unusedVariables false
/-- 'append(v, x...)': nothing that was is turned, or the row goes on in its place. -/
theorem rowq_append_in {P : Program} {t tx e : TypeId} {z : Value} {size bytes : Nat} (W : World) (ht : P.underlying t = some (.slice e)) (hinfo : (P.info? e).map (fun i => (i.zero, i.size, i.bytes)) = some (some z, size, bytes))
    (hzc : z.cells.size = size) (hs0 : 0 < size) {v : Value} {xs : List Value} {g : Option Nat} (h : RowQ W size v xs g) {x : Value} {m : Nat} {news : List Value} (hsrc : Src P size tx x m news W) {N : Nat} (hN : xs.length + news.length = N * size)
    (hbig : N * bytes ≤ 140737488355328) (hN63 : N ≤ 9223372036854775807) :
    ∃ (v' : Value) (W' : World), (∀ ty, (Builtin.append_ #[t, tx] ty #[v, x]).run P W = .ok v' W') ∧ ∃ g', RowQ W' size v' (xs ++ news) g' ∧ KeptX (fun k => g = some k) W W' ∧ ((KeptX (fun _ => False) W W' ∧ ∀ k, g' = some k → W.heap.size ≤ k) ∨ ∃ gb off n cap, v = .slice (some ⟨gb, off, none⟩) n cap ∧ v' = .slice (some ⟨gb, off, none⟩) (n + m) cap ∧ g = some gb ∧ g' = some gb) := by
  obtain ⟨i0, hi0, hz0, hzs, hzb⟩ := info_parts hinfo
  have hnl := hsrc.newsLen
  have grown : ∀ (base : Option Addr) (n cap : Nat), v = .slice base n cap → xs.length = n * size → cap < n + m → (Builtin.firstCells i0.size n (.slice base n cap)).run P W.drew = .ok xs.toArray W.drew →
      ∃ (v' : Value) (W' : World), (∀ ty, (Builtin.append_ #[t, tx] ty #[v, x]).run P W = .ok v' W') ∧ ∃ g', RowQ W' size v' (xs ++ news) g' ∧ KeptX (fun k => g = some k) W W' ∧ ((KeptX (fun _ => False) W W' ∧ ∀ k, g' = some k → W.heap.size ≤ k) ∨ ∃ gb off n cap, v = .slice (some ⟨gb, off, none⟩) n cap ∧ v' = .slice (some ⟨gb, off, none⟩) (n + m) cap ∧ g = some gb ∧ g' = some gb) := by
    intro base n cap hv hxl hlt hold
    have hNn : N = n + m := by
      have : N * size = (n + m) * size := by rw [Nat.add_mul]; omega
      exact Nat.eq_of_mul_eq_mul_right hs0 this
    subst hNn
    have hG := grownCap_ge W (n + m) cap e
    have hG2 := grownCap_le_maxLen W (n + m) cap e (by unfold maxLen; omega)
    unfold maxLen at hG2
    refine ⟨_, _, fun ty => by rw [hv]; exact run_append_grow_src W t tx ty e i0 z ht hi0 hz0 base n cap xs hold x m news (by rw [hzs]; exact hsrc) hlt (by omega) (by rw [hzb]; exact growslice_fits hlt hbig), some W.heap.size, ?_, (KeptX.refl _ _).drew.alloc _, Or.inl ⟨(KeptX.refl _ _).drew.alloc _, fun k e => by cases e; exact Nat.le_refl _⟩⟩
    refine Or.inr ⟨W.heap.size, 0, n + m, grownCap W (n + m) cap e, rfl, rfl, by rw [List.length_append]; exact hN, hG, by omega, by simp, fun j y hj => ?_, fun j hj => ?_⟩
    · rw [Nat.zero_add, World.cell?_alloc_at (w := W.drew) _ _ W.heap.size j rfl]
      have hjl := (List.getElem?_eq_some_iff.1 hj).1
      rw [Array.getElem?_append_left (by simpa using hjl)]
      simpa using hj
    · rw [Nat.zero_add]
      refine ⟨?_, World.frozen?_alloc_at (w := W.drew) _ _ W.heap.size j rfl⟩
      rw [World.cell?_alloc_at (w := W.drew) _ _ W.heap.size j rfl, Array.getElem?_eq_getElem]
      · rfl
      · have hzl : (Builtin.zeroCells z.cells (grownCap W (n + m) cap e - (n + m))).size = (grownCap W (n + m) cap e - (n + m)) * size := by
          simp [Builtin.zeroCells, hzc]
        rw [Array.size_append, hzl]
        simp only [List.size_toArray, List.length_append]
        rw [hN, ← Nat.add_mul]
        rw [show n + m + (grownCap W (n + m) cap e - (n + m)) = grownCap W (n + m) cap e by omega]
        exact hj
  rcases h with ⟨rfl, rfl, rfl⟩ | ⟨gb, off, n, cap, rfl, rfl, h3, h4, h5, h6, h7, h8⟩
  · by_cases hm : m = 0
    · subst hm
      have e0 : news = [] := List.length_eq_zero_iff.1 (by omega)
      subst e0
      refine ⟨.slice none 0 0, W, fun ty => ?_, none, RowQ.nil _ _, KeptX.refl _ _, Or.inl ⟨KeptX.refl _ _, fun k e => (by cases e)⟩⟩
      have hc := hsrc.cells
      rw [← hzs] at hc
      rcases hsrc.kind with ⟨e', hk⟩ | hk <;> simp [Builtin.append_, run_underlying ht, run_underlying hk, sizeOf, typeInfo, hi0, hsrc.len, hc]
    · refine grown none 0 0 rfl (by simp) (by omega) ?_
      exact run_firstCells_none W.drew i0.size 0 0 0
  · by_cases hroom : n + m ≤ cap
    · refine ⟨_, _, fun ty => run_append_room_src W t tx ty e i0 ht hi0 gb off n cap x m news (by rw [hzs]; exact hsrc) hroom (fun j hj => ?_) (fun j hj => ?_), some gb, ?_, KeptX.setCells (F := fun k => some gb = some k) (fun _ => rfl) _ _ _ (KeptX.refl _ _), Or.inr ⟨gb, off, n, cap, rfl, rfl, rfl, rfl⟩⟩
      · rw [hzs, Nat.add_assoc]
        refine (h8 _ ?_).1
        have : (n + m) * size ≤ cap * size := Nat.mul_le_mul_right _ hroom
        rw [Nat.add_mul] at this
        omega
      · rw [hzs, Nat.add_assoc]
        refine (h8 _ ?_).2
        have : (n + m) * size ≤ cap * size := Nat.mul_le_mul_right _ hroom
        rw [Nat.add_mul] at this
        omega
      · have hle : (n + m) * size ≤ cap * size := Nat.mul_le_mul_right _ hroom
        rw [Nat.add_mul] at hle
        have hin : ∀ j, j < news.length → (W.cell? ⟨gb, off + n * size + j, none⟩).isSome = true := fun j hj => by
          rw [Nat.add_assoc]; exact (h8 _ (by omega)).1
        rw [hzs]
        refine Or.inr ⟨gb, off, n + m, cap, rfl, rfl, by rw [List.length_append, h3, hnl, Nat.add_mul], hroom, h5, ?_, fun j y hj => ?_, fun j hj => ?_⟩
        · exact Nat.lt_of_lt_of_le h6 (KeptX.setCells (F := fun _ => True) (fun _ => trivial) news _ _ (KeptX.refl _ _)).size
        · by_cases hjx : j < xs.length
          · rw [List.getElem?_append_left hjx] at hj
            rw [World.cell?_setCells_out gb _ _ _ _ (fun _ _ => Or.inl (by show off + j < off + n * size; omega))]
            exact h7 j y hj
          · rw [List.getElem?_append_right (by omega)] at hj
            have hjl := (List.getElem?_eq_some_iff.1 hj).1
            have := World.cell?_setCells_in gb news (off + n * size) W hin (j - xs.length) hjl
            rw [show off + n * size + (j - xs.length) = off + j by omega] at this
            rw [this]
            rw [List.getElem?_eq_getElem hjl] at hj
            exact hj
        · rw [World.frozen?_setCells]
          exact ⟨isSome_setCells gb news _ W hin _ (h8 j hj).1, (h8 j hj).2⟩
    · refine grown (some ⟨gb, off, none⟩) n cap rfl h3 (by omega) ?_
      rw [hzs]
      exact run_firstCells_some W.drew size n ⟨gb, off, none⟩ n cap xs h3 (fun j y hj => by rw [Addr.add_lit]; exact h7 j y hj)


/-- A row's beginning is a row. -/
theorem RowQ.pre {w : World} {size gb off n m cap : Nat} {xs ys : List Value} {g : Option Nat} (h : RowQ w size (.slice (some ⟨gb, off, none⟩) (n + m) cap) (xs ++ ys) g) (hx : xs.length = n * size) : RowQ w size (.slice (some ⟨gb, off, none⟩) n cap) xs g := by
  rcases h with ⟨h, _⟩ | ⟨gb', off', n', cap', h1, h2, h3, h4, h5, h6, h7, h8⟩
  · cases h
  · cases h2
    refine Or.inr ⟨gb, off, n, cap, h1, rfl, hx, by omega, h5, h6, fun j x hj => h7 j x ?_, h8⟩
    rw [List.getElem?_append_left (List.getElem?_eq_some_iff.1 hj).1]
    exact hj
def reps (n : Nat) (o : Op4) : List Value := flat4 (List.replicate n o)
theorem reps_len (n : Nat) (o : Op4) : (reps n o).length = n * 4 := by unfold reps; rw [flat4_len, List.length_replicate]
theorem reps_add (n m : Nat) (o : Op4) : reps (n + m) o = reps n o ++ reps m o := by unfold reps; rw [← flat4_append, List.replicate_append_replicate]
/-- A list made of l, or l itself. -/
def Good (B : Nat) (l : Value) (gl : Option Nat) (o : Op4) (lim : Nat) (W : World) (v : Value) : Prop :=
  ∃ j gv, RowQ W 4 v (reps j o) gv ∧ j ≤ lim ∧ (∀ k, gv = some k → B ≤ k) ∧ ((gv = gl ∧ ∃ gb off n cap, l = .slice (some ⟨gb, off, none⟩) n cap ∧ v = .slice (some ⟨gb, off, none⟩) j cap) ∨ ∀ k, gv = some k → gl ≠ some k)
theorem Good.keep {B lim : Nat} {l v : Value} {gl : Option Nat} {o : Op4} {W W' : World} {F : Nat → Prop} (h : Good B l gl o lim W v) (hk : KeptX F W W') (hF : ∀ k, B ≤ k → ¬ F k) : Good B l gl o lim W' v := by
  obtain ⟨j, gv, h1, h2, h3, h4⟩ := h
  exact ⟨j, gv, h1.keep hk (fun k e => hF k (h3 k e)), h2, h3, h4⟩
theorem rowq_slice {w : World} {size : Nat} {v : Value} {xs : List Value} {g : Option Nat} (h : RowQ w size v xs g) : ∃ a n c, v = .slice a n c := by
  rcases h with ⟨rfl, _⟩ | ⟨gb, off, n, cap, _, rfl, _⟩
  · exact ⟨_, _, _, rfl⟩
  · exact ⟨_, _, _, rfl⟩
theorem row_new {P : Program} {tx e : TypeId} {w : World} (hk : P.underlying tx = some (.slice e)) (m : Nat) (o : Op4) (t : TypeId) : Src P 4 tx (.slice (some ⟨w.heap.size, 0, none⟩) m m) m (reps m o) (w.alloc (.cells (reps m o).toArray t)) := by
  refine Src.ofSlice _ hk ⟨w.heap.size, 0, none⟩ m m (reps m o) (reps_len m o) (fun j u hj => ?_) (flat4_one _)
  rw [Addr.add_lit, Nat.zero_add, World.cell?_alloc_at (w := w) _ _ w.heap.size j rfl]
  simpa using hj
/-- 'append(l, x, ..)': what l and the lists made of it hold stays. -/
theorem good_append {B n m lim : Nat} {l : Value} {gl : Option Nat} {o : Op4} {W : World} (hB : B ≤ W.heap.size) (h : RowQ W 4 l (reps n o) gl) (hg : ∀ k, gl = some k → B ≤ k) (hlim : lim ≤ n + m) (hn : n + m ≤ 1000000) :
    ∃ (v' : Value) (W' : World), (∀ ty, (Builtin.append_ #[49, 49] ty #[l, .slice (some ⟨W.heap.size, 0, none⟩) m m]).run Try.prog (W.alloc (.cells (reps m o).toArray 26)) = .ok v' W') ∧
      (∃ a k c, v' = .slice a k c) ∧ Good B l gl o (n + m) W' v' ∧ RowQ W' 4 l (reps n o) gl ∧ (∀ v, Good B l gl o lim W v → Good B l gl o (n + m) W' v) ∧ KeptX (fun k => gl = some k) W W' := by
  have k0 : KeptX (fun _ => False) W (W.alloc (.cells (reps m o).toArray 26)) := (KeptX.refl _ _).alloc _
  have h0 := h.keep k0 (fun _ _ e => e)
  have hl := h.lt
  obtain ⟨v', W', e1, g', q1, k1, d1⟩ := rowq_append_in (P := Try.prog) (t := 49) (tx := 49) _ Try.underlying49 infoOp4 rfl (by decide) h0 (row_new Try.underlying49 m o 26) (N := n + m) (by rw [reps_len, reps_len]; omega) (by omega) (by omega)
  have ks := k0.size
  refine ⟨v', W', e1, rowq_slice q1, ?_⟩
  rcases d1 with ⟨kf, kn⟩ | ⟨gb, off, n0, cap, rfl, rfl, rfl, rfl⟩
  · have kk : KeptX (fun _ => False) W W' := k0.trans kf (fun _ _ e => e)
    refine ⟨⟨n + m, g', by rw [reps_add]; exact q1, Nat.le_refl _, fun k e => by have := kn k e; omega, Or.inr (fun k e e2 => by have := kn k e; have := hl k e2; omega)⟩, h0.keep kf (fun _ _ e => e), fun v hv => ?_, kk.mono (fun _ _ e => e.elim)⟩
    obtain ⟨j, gv, h1, h2, h3, h4⟩ := hv.keep kk (fun _ _ e => e)
    exact ⟨j, gv, h1, by omega, h3, h4⟩
  · have en : n0 = n := by
      rcases h with ⟨h, _⟩ | ⟨_, _, n', _, _, h2, h3, _⟩
      · cases h
      · cases h2
        rw [reps_len] at h3
        omega
    subst en
    have kk : KeptX (fun k => some gb = some k) W W' := (k0.mono (fun _ _ e => e.elim)).trans k1 (fun _ _ e => e)
    refine ⟨⟨n0 + m, some gb, by rw [reps_add]; exact q1, Nat.le_refl _, fun k e => hg k e, Or.inl ⟨rfl, gb, off, n0, cap, rfl, rfl⟩⟩, q1.pre (reps_len _ _), fun v hv => ?_, kk⟩
    obtain ⟨j, gv, h1, h2, h3, h4⟩ := hv
    rcases h4 with ⟨rfl, gb', off', n', cap', e2, e3⟩ | h4
    · cases e2
      subst e3
      refine ⟨j, some gb, ?_, by omega, h3, Or.inl ⟨rfl, gb, off, n0, cap, rfl, rfl⟩⟩
      have q2 : RowQ W' 4 (.slice (some ⟨gb, off, none⟩) (j + (n0 + m - j)) cap) (reps j o ++ reps (n0 + m - j) o) (some gb) := by
        rw [← reps_add, show j + (n0 + m - j) = n0 + m by omega, reps_add]
        exact q1
      exact q2.pre (reps_len _ _)
    · exact ⟨j, gv, h1.keep kk (fun k e e2 => h4 k e e2), by omega, h3, Or.inr h4⟩
end Go.Proofs.Ytabahmcbhapbiaa

namespace Go.Proofs.Ytabahmcbhapbiaa
open Go.RowKit Go.Lib
set_option linter.unusedVariables false
/-- A list, of which the first i ops bear the mark. -/
def fill (o : Op4) (ops : List Op4) (i : Nat) : List Op4 := List.replicate i o ++ ops.drop i
theorem fill_len {o : Op4} {ops : List Op4} {i : Nat} (h : i ≤ ops.length) : (fill o ops i).length = ops.length := by unfold fill; simp; omega
theorem fill_set {o : Op4} {ops : List Op4} {i : Nat} (h : i < ops.length) : (fill o ops i).set i o = fill o ops (i + 1) := by
  unfold fill
  apply List.ext_getElem?
  intro j
  rw [List.getElem?_set]
  by_cases e : i = j
  · subst e
    rw [if_pos rfl, if_pos (by simp; omega), List.getElem?_append_left (by simp)]
    simp
  · rw [if_neg e]
    by_cases hj : j < i
    · rw [List.getElem?_append_left (by simp; omega), List.getElem?_append_left (by simp; omega)]
      simp [List.getElem?_replicate]
      rw [if_pos hj, if_pos (by omega)]
    · rw [List.getElem?_append_right (by simp; omega), List.getElem?_append_right (by simp; omega)]
      simp
      congr 1
      omega
theorem fill_all {o : Op4} {ops : List Op4} {n : Nat} (h : ops.length = n) : flat4 (fill o ops n) = reps n o := by
  unfold fill reps
  rw [List.drop_of_length_le (by omega), List.append_nil]
/-- One op of a row is set. -/
theorem row_put {w : World} {gb off n c k : Nat} {l : List Op4} {g : Option Nat} (h : RowQ w 4 (.slice (some ⟨gb, off, none⟩) n c) (flat4 l) g) (hk : k < n) (o : Op4) :
    RowQ (w.setCells gb (off + k * 4) o.cells) 4 (.slice (some ⟨gb, off, none⟩) n c) (flat4 (l.set k o)) g := by
  rcases h with ⟨h, _⟩ | ⟨gb', off', n', cap', h1, h2, h3, h4, h5, h6, h7, h8⟩
  · cases h
  · cases h2
    have hl : l.length = n := by rw [flat4_len] at h3; omega
    have ho : o.cells.length = 4 := rfl
    have hin : ∀ j, j < o.cells.length → (w.cell? ⟨gb, off + k * 4 + j, none⟩).isSome = true := fun j hj => by
      rw [Nat.add_assoc]
      exact (h8 _ (by omega)).1
    refine Or.inr ⟨gb, off, n, c, h1, rfl, by rw [flat4_len, List.length_set]; omega, h4, h5, Nat.lt_of_lt_of_le h6 (KeptX.setCells (F := fun _ => True) (fun _ => trivial) o.cells _ _ (KeptX.refl _ _)).size, fun j x hj => ?_, fun j hj => ?_⟩
    · have hjl : j < l.length * 4 := by
        have := (List.getElem?_eq_some_iff.1 hj).1
        rw [flat4_len, List.length_set] at this
        exact this
      have hji : j / 4 * 4 + j % 4 = j := by omega
      have hq : j / 4 < l.length := by omega
      rw [← hji, flat4_at _ (j / 4) (j % 4) (by rw [List.length_set]; exact hq) (by omega)] at hj
      by_cases e : k = j / 4
      · have e2 : j = k * 4 + j % 4 := by omega
        rw [List.getElem_set, if_pos e] at hj
        have := World.cell?_setCells_in gb o.cells (off + k * 4) w hin (j % 4) (by omega)
        rw [show off + k * 4 + j % 4 = off + j by omega] at this
        rw [this]
        rw [List.getElem?_eq_getElem (by omega)] at hj
        exact hj
      · rw [World.cell?_setCells_out gb _ _ _ _ (fun _ _ => by show off + j < off + k * 4 ∨ off + k * 4 + o.cells.length ≤ off + j; omega)]
        rw [List.getElem_set, if_neg e] at hj
        refine h7 j x ?_
        rw [← hji, flat4_at _ (j / 4) (j % 4) hq (by omega)]
        exact hj
    · rw [World.frozen?_setCells]
      exact ⟨isSome_setCells gb o.cells _ w hin _ (h8 j hj).1, (h8 j hj).2⟩
theorem good_self {B n : Nat} {l : Value} {gl : Option Nat} {o : Op4} {W : World} (h : RowQ W 4 l (reps n o) gl) (hg : ∀ k, gl = some k → B ≤ k) : Good B l gl o n W l := by
  refine ⟨n, gl, h, Nat.le_refl _, hg, ?_⟩
  rcases h with ⟨rfl, _, rfl⟩ | ⟨gb, off, n', cap, h1, rfl, h3, _⟩
  · exact Or.inr (fun k e => (by cases e))
  · rw [reps_len] at h3
    exact Or.inl ⟨rfl, gb, off, n', cap, rfl, by rw [show n = n' by omega]⟩
/-- l, the lists made of it, and what was. -/
def Op3 (B : Nat) (l : Value) (gl : Option Nat) (o : Op4) (n lim : Nat) (W1 W : World) (L : List Value) : Prop := RowQ W 4 l (reps n o) gl ∧ KeptX (fun b => gl = some b) W1 W ∧ ∀ v ∈ L, Good B l gl o lim W v
theorem op3_append {B n m lim : Nat} {l : Value} {gl : Option Nat} {o : Op4} {W1 W : World} {L : List Value} (hB : B ≤ W1.heap.size) (h : Op3 B l gl o n lim W1 W L) (hg : ∀ k, gl = some k → B ≤ k) (hlim : lim ≤ n + m) (hn : n + m ≤ 1000000) :
    ∃ (v' : Value) (W' : World), (∀ ty, (Builtin.append_ #[49, 49] ty #[l, .slice (some ⟨W.heap.size, 0, none⟩) m m]).run Try.prog (W.alloc (.cells (reps m o).toArray 26)) = .ok v' W') ∧
      ((∃ a k c, v' = .slice a k c) ∧ Op3 B l gl o n (n + m) W1 W' (L ++ [v'])) := by
  obtain ⟨h1, h2, h3⟩ := h
  obtain ⟨v', W', e1, e2, e3, e4, e5, e6⟩ := good_append (B := B) (m := m) (lim := lim) (by have := h2.size; omega) h1 hg hlim hn
  refine ⟨v', W', e1, e2, e4, h2.trans e6 (fun _ _ e => e), fun v hv => ?_⟩
  rcases List.mem_append.1 hv with hv | hv
  · exact e5 v (h3 v hv)
  · rw [List.mem_singleton.1 hv]
    exact e3
theorem infoSl : (Try.prog.info? 49).map (fun i => (i.zero, i.size, i.bytes)) = some (some (.slice none 0 0), 1, 24) := by kernel_rfl
theorem open_append {W : World} {v : Value} {vs : List Value} {g : Option Nat} (h : RowQ W 1 v vs g) (x0 x1 x2 x3 : Value) (hx : ∀ u ∈ [x0, x1, x2, x3], u.oneCell' = true) (hN : (vs.length + 4) * 24 ≤ 140737488355328) :
    ∃ (v' : Value) (W' : World), (∀ ty, (Builtin.append_ #[64, 64] ty #[v, .slice (some ⟨W.heap.size, 0, none⟩) 4 4]).run Try.prog (W.alloc (.cells #[x0, x1, x2, x3] 49)) = .ok v' W') ∧
      ((∃ a k c, v' = .slice a k c) ∧ ∃ g', RowQ W' 1 v' (vs ++ [x0, x1, x2, x3]) g' ∧ KeptX (fun k => g = some k) W W' ∧ ∀ k, g' = some k → g = some k ∨ W.heap.size ≤ k) := by
  have k0 : KeptX (fun _ => False) W (W.alloc (.cells #[x0, x1, x2, x3] 49)) := (KeptX.refl _ _).alloc _
  have h0 := h.keep k0 (fun _ _ e => e)
  have hs : Src Try.prog 1 64 (.slice (some ⟨W.heap.size, 0, none⟩) 4 4) 4 [x0, x1, x2, x3] (W.alloc (.cells #[x0, x1, x2, x3] 49)) := by
    refine Src.ofSlice _ Try.underlying64 ⟨W.heap.size, 0, none⟩ 4 4 [x0, x1, x2, x3] rfl (fun j u hj => ?_) hx
    rw [Addr.add_lit, Nat.zero_add, World.cell?_alloc_at (w := W) _ _ W.heap.size j rfl]
    simpa using hj
  obtain ⟨v', W', e1, g', q1, k1, d1⟩ := rowq_append (P := Try.prog) (t := 64) (tx := 64) _ Try.underlying64 infoSl rfl (by decide) h0 hs (N := vs.length + 4) (by simp) hN (by omega)
  refine ⟨v', W', e1, rowq_slice q1, g', q1, (k0.mono (fun _ _ e => e.elim)).trans k1 (fun _ _ e => e), fun k e => ?_⟩
  rcases d1 with d | d
  · exact Or.inl (by rw [← d]; exact e)
  · rw [d] at e
    cases e
    exact Or.inr (by simp)
/-- What opened leaves. -/
def OpenedAt (B wb n : Nat) (vs : List Value) (g gl : Option Nat) (o : Op4) (W w' : World) : Prop :=
  ∃ v' g' L, w'.cell? ⟨wb, 1, none⟩ = some v' ∧ RowQ w' 1 v' (vs ++ L) g' ∧ L.length = 4 ∧ (∀ k, g' = some k → g = some k ∨ W.heap.size ≤ k) ∧ (∀ x ∈ L, ∃ j gv, j ≤ n + 3 ∧ RowQ w' 4 x (reps j o) gv ∧ ∀ k, gv = some k → B ≤ k ∧ g' ≠ some k) ∧ KeptX (fun k => k = wb ∨ g = some k ∨ gl = some k) W w' ∧ (∀ j, j ≠ 1 → w'.cell? ⟨wb, j, none⟩ = W.cell? ⟨wb, j, none⟩) ∧ ∀ j, w'.frozen? ⟨wb, j, none⟩ = W.frozen? ⟨wb, j, none⟩
theorem opened_end {B wb n : Nat} {l x1 x2 x3 v4 : Value} {vs : List Value} {g gl g4 : Option Nat} {o : Op4} {W W1 V3 V4 : World} {u : Value} (hD : Op3 B l gl o n (n + 3) W1 V3 ([l] ++ [x1] ++ [x2] ++ [x3])) (hE : RowQ V4 1 v4 (vs ++ [l, x1, x2, x3]) g4 ∧ KeptX (fun k => g = some k) V3 V4 ∧ ∀ k, g4 = some k → g = some k ∨ V3.heap.size ≤ k)
    (kW1 : KeptX (fun _ => False) W W1) (hB : B ≤ W.heap.size) (hgl : ∀ k, gl = some k → B ≤ k) (hg : ∀ k, g = some k → k < B) (hwb : wb < B) (hgw : g ≠ some wb) (hw : wb < W.heap.size) (y : V4.cell? ⟨wb, 1, none⟩ = some u) : OpenedAt B wb n vs g gl o W (V4.setCell ⟨wb, 1, none⟩ v4) := by
  obtain ⟨d1, d2, d3⟩ := hD
  obtain ⟨e1, e2, e3⟩ := hE
  have K3 : KeptX (fun k => gl = some k) W V3 := (kW1.mono (fun _ _ e => e.elim)).trans d2 (fun _ _ e => e)
  have ks : KeptX (fun k => k = wb) V4 (V4.setCell ⟨wb, 1, none⟩ v4) := (KeptX.refl (fun k => k = wb) V4).setCell (p := ⟨wb, 1, none⟩) (fun _ => rfl) _
  have s3 := K3.size
  have s4 := e2.size
  have nl : gl ≠ some wb := fun e => by have := hgl _ e; omega
  refine ⟨v4, g4, [l, x1, x2, x3], World.cell?_setCell_same _ _ _ y, e1.keep ks (fun k e e2 => ?_), rfl, fun k e => (e3 k e).imp id (fun x => by omega), fun x hx => ?_, ?_, fun j hj => ?_, fun j => ?_⟩
  · subst e2
    rcases e3 _ e with x | x
    · exact hgw x
    · omega
  · obtain ⟨j, gv, r1, r2, r3, _⟩ := d3 x hx
    refine ⟨j, gv, r2, (r1.keep e2 (fun k hk e => by have := hg k e; have := r3 k hk; omega)).keep ks (fun k hk e => by have := r3 k hk; omega), fun k hk => ⟨r3 k hk, fun e4 => ?_⟩⟩
    have q1 := r3 k hk
    have q2 := r1.lt k hk
    rcases e3 k e4 with x | x
    · have := hg k x
      omega
    · omega
  · exact ((K3.mono (G := fun k => k = wb ∨ g = some k ∨ gl = some k) (fun _ _ e => Or.inr (Or.inr e))).trans e2 (fun _ _ e => Or.inr (Or.inl e))).trans ks (fun _ _ e => Or.inl e)
  · exact (World.cell?_setCell_other _ _ _ _ (fun e => hj (by cases e; rfl))).trans ((e2.cell (p := ⟨wb, j, none⟩) (by show wb < _; omega) hgw).trans (K3.cell (p := ⟨wb, j, none⟩) hw nl))
  · rw [World.frozen?_setCell]
    exact (e2.frozen (p := ⟨wb, j, none⟩) (by show wb < _; omega) hgw).trans (K3.frozen (p := ⟨wb, j, none⟩) hw nl)
set_option maxHeartbeats 2000000 in
set_option maxRecDepth 100000 in
theorem opened_any {B wb n cc : Nat} {v : Value} {vs : List Value} {g gl : Option Nat} {W : World} {a : Option Addr} {ops : List Op4} (hv : W.cell? ⟨wb, 1, none⟩ = some v) (hq : RowQ W 1 v vs g) (hvl : (vs.length + 4) * 24 ≤ 140737488355328)
    (hf : W.frozen? ⟨wb, 1, none⟩ = false) (hl : RowQ W 4 (.slice a n cc) (flat4 ops) gl) (hn : ops.length = n) (hn2 : n ≤ 1000) (hB : B ≤ W.heap.size) (hgl : ∀ k, gl = some k → B ≤ k) (hg : ∀ k, g = some k → k < B) (hwb : wb < B) (hgw : g ≠ some wb) :
    Calls Try.prog 83 #[.pointer (some ⟨wb, 0, none⟩), .slice a n cc] W fun e w' => e = .returned (.tuple #[]) ∧ Hid (OpenedAt B wb n vs g gl ⟨markN vs.length, 0, 0, 0⟩ W w') := by
  obtain ⟨va, vc, rfl⟩ : ∃ va vc, v = .slice va vs.length vc := by
    rcases hq with ⟨rfl, rfl, _⟩ | ⟨gb, off, n, cap, _, rfl, h3, _⟩
    · exact ⟨none, 0, rfl⟩
    · exact ⟨some ⟨gb, off, none⟩, cap, by rw [h3, Nat.mul_one]⟩
  have HK : Hid (∀ W, Calls Try.prog 58 #[.int .i64 (vs.length : Int)] W fun e w' => e = .returned (.int .i64 (markN vs.length)) ∧ W = w') := fun W => mark_any _ (by omega) W
  have hll := hl.lt
  have hgx : gl ≠ some W.heap.size := fun e => by have := hll _ e; omega
  obtain ⟨o, ho⟩ : ∃ o : Op4, o = ⟨markN vs.length, 0, 0, 0⟩ := ⟨_, rfl⟩
  have HL : Hid (RowQ (W.alloc (.cells #[.int .i64 (markN vs.length), .int .i64 0, .int .i64 0, .int .i64 0] 26)) 4 (.slice a n cc) (flat4 (fill o ops 0)) gl) := hl.keep ((KeptX.refl (fun _ => False) _).alloc _) (fun _ _ e => e)
  clear hl
  go_enter Try.func83, Try.ntmps83
  go_wp2_with (go_at_call 58; refine (HK.out _).mono ?_; rintro e w1 ⟨rfl, rfl⟩)
  obtain ⟨W1, hW1⟩ : ∃ W1, W1 = W.alloc (.cells #[.int .i64 (markN vs.length), .int .i64 0, .int .i64 0, .int .i64 0] 26) := ⟨_, rfl⟩
  rw [← hW1] at HL ⊢
  have hX : Op4At W1 W.heap.size 0 o := by rw [hW1, ho]; exact op4at_new W ⟨markN vs.length, 0, 0, 0⟩ _
  have hsz : W1.heap.size = W.heap.size + 1 := by rw [hW1]; simp
  have kW1 : KeptX (fun _ => False) W W1 := by rw [hW1]; exact (KeptX.refl _ _).alloc _
  generalize hmk : markN vs.length = mk at *
  have HX : Hid _ := hX
  clear hX
  go_loopw [5] (fun i wr => ∃ k : Nat, k ≤ n ∧ i = .int .i64 k ∧ Hid (RowQ wr 4 (.slice a n cc) (flat4 (fill o ops k)) gl ∧ KeptX (fun b => gl = some b) W1 wr)) (fun i _ => n - (RowKit.intOf i).toNat)
  case atStart => exact ⟨0, Nat.zero_le _, rfl, HL.out, KeptX.refl _ _⟩
  case round =>
    obtain ⟨k, hk, rfl, hr⟩ := hrel
    by_cases hlt : k < n
    · have hki : (k : Int) < (n : Int) := by omega
      obtain ⟨x0, x1, x2, x3⟩ := op4at_keep HX.out hr.out.2 (by omega) hgx
      rw [ho] at x0 x1 x2 x3
      simp only [Nat.zero_add] at x0 x1 x2 x3
      rcases hr.out.1 with ⟨e0, _⟩ | ⟨gb, off, n0, c0, hg0, e0, h3, h4, h5, h6, h7, h8⟩
      · cases e0; omega
      · cases e0
        obtain ⟨y0, f0⟩ := h8 (k * 4) (by omega)
        obtain ⟨y1, f1⟩ := h8 (k * 4 + 1) (by omega)
        obtain ⟨y2, f2⟩ := h8 (k * 4 + 2) (by omega)
        obtain ⟨y3, f3⟩ := h8 (k * 4 + 3) (by omega)
        obtain ⟨z0, y0⟩ := Option.isSome_iff_exists.1 y0
        obtain ⟨z1, y1⟩ := Option.isSome_iff_exists.1 y1
        obtain ⟨z2, y2⟩ := Option.isSome_iff_exists.1 y2
        obtain ⟨z3, y3⟩ := Option.isSome_iff_exists.1 y3
        simp only [← Nat.add_assoc] at y1 y2 y3 f1 f2 f3
        have H8 : Hid _ := h8
        have HP : Hid (RowQ ((((wr.setCell ⟨gb, off + k * 4, none⟩ (.int .i64 mk)).setCell ⟨gb, off + k * 4 + 1, none⟩ (.int .i64 0)).setCell ⟨gb, off + k * 4 + 2, none⟩ (.int .i64 0)).setCell ⟨gb, off + k * 4 + 3, none⟩ (.int .i64 0)) 4 (.slice (some ⟨gb, off, none⟩) n cc) (flat4 (fill o ops (k + 1))) gl) := by
          have := row_put hr.out.1 hlt o
          rw [fill_set (by omega), ho] at this
          rw [ho]
          exact this
        clear h3 h7 h8
        go_wp2
        refine ⟨⟨k + 1, by omega, by go_num, HP.out, ?_⟩, by simp [RowKit.intOf]; omega⟩
        exact (((hr.out.2.setCell (p := ⟨gb, off + k * 4, none⟩) (fun _ => hg0) _).setCell (p := ⟨gb, off + k * 4 + 1, none⟩) (fun _ => hg0) _).setCell (p := ⟨gb, off + k * 4 + 2, none⟩) (fun _ => hg0) _).setCell (p := ⟨gb, off + k * 4 + 3, none⟩) (fun _ => hg0) _
    · have e : k = n := by omega
      subst e
      obtain ⟨q0, k0⟩ := hr.out
      rw [fill_all hn] at q0
      have H1 : Hid (Op3 B (.slice a k cc) gl o k k W1 wr [.slice a k cc]) := ⟨q0, k0, fun v hv => by rw [List.mem_singleton.1 hv]; exact good_self q0 hgl⟩
      obtain ⟨x0, x1, x2, x3⟩ := op4at_keep HX.out k0 (by omega) hgx
      subst ho
      have HA1 := hidP (op3_append (m := 1) (by omega) H1.out hgl (by omega) (by omega))
      simp only [Nat.zero_add] at x0 x1 x2 x3
      clear q0 k0 H1 hr
      have hk2 : k ≤ 1000 := hn2
      go_wp2_with (at_builtin; go_must (first | ((refine wpList_append_ex _ rfl _ _ _ _ rfl _ _ rfl rfl _ HA1.out ?_; rintro v1 V1 ⟨⟨a1, n1, c1, rfl⟩, hs1⟩; obtain ⟨x0, x1, x2, x3⟩ := op4at_keep HX.out hs1.2.1 (by omega) hgx; simp only [Nat.zero_add] at x0 x1 x2 x3; have lx : W.heap.size < V1.heap.size := Nat.lt_of_lt_of_le (by omega) hs1.2.1.size; have HA2 := hidP (op3_append (m := 2) (by omega) hs1 hgl (by omega) (by omega)); clear HA1 hs1)) | ((refine wpList_append_ex _ rfl _ _ _ _ rfl _ _ rfl rfl _ HA2.out ?_; rintro v2 V2 ⟨⟨a2, n2, c2, rfl⟩, hs2⟩; obtain ⟨x0, x1, x2, x3⟩ := op4at_keep HX.out hs2.2.1 (by omega) hgx; simp only [Nat.zero_add] at x0 x1 x2 x3; have lx : W.heap.size < V2.heap.size := Nat.lt_of_lt_of_le (by omega) hs2.2.1.size; have HA3 := hidP (op3_append (m := 3) (by omega) hs2 hgl (by omega) (by omega)); clear HA2 hs2)) | ((refine wpList_append_ex _ rfl _ _ _ _ rfl _ _ rfl rfl _ HA3.out ?_; rintro v3 V3 ⟨⟨a3, n3, c3, rfl⟩, hs3⟩; obtain ⟨x0, x1, x2, x3⟩ := op4at_keep HX.out hs3.2.1 (by omega) hgx; simp only [Nat.zero_add] at x0 x1 x2 x3; have lx : W.heap.size < V3.heap.size := Nat.lt_of_lt_of_le (by omega) hs3.2.1.size; have HD := hidP hs3; have HA4 := hidP (open_append (hq.keep ((kW1.mono (G := fun b => gl = some b) (fun _ _ e => e.elim)).trans hs3.2.1 (fun _ _ e => e)) (fun k e e2 => by have := hg k e; have := hgl k e2; omega)) (.slice a k cc) (.slice a1 n1 c1) (.slice a2 n2 c2) (.slice a3 n3 c3) (by simp [Value.oneCell']) hvl); have y1 := (((kW1.mono (G := fun b => gl = some b) (fun _ _ e => e.elim)).trans hs3.2.1 (fun _ _ e => e)).cell (p := ⟨wb, 1, none⟩) (by show wb < _; omega) (fun e => by have := hgl _ e; simp at this; omega)).trans hv; clear HA3 hs3)) | (refine wpList_append_ex _ rfl _ _ _ _ rfl _ _ rfl rfl _ HA4.out ?_; rintro v4 V4 ⟨⟨a4, n4, c4, rfl⟩, g4, hs4⟩; have HE := hidP hs4; have y2 := (hs4.2.1.cell (p := ⟨wb, 1, none⟩) (by show wb < _; omega) hgw).trans y1; have yf := (hs4.2.1.frozen (p := ⟨wb, 1, none⟩) (by show wb < _; omega) hgw).trans (((((kW1.mono (G := fun b => gl = some b) (fun _ _ e => e.elim)).trans HD.out.2.1 (fun _ _ e => e))).frozen (p := ⟨wb, 1, none⟩) (by show wb < _; omega) (fun e => by have := hgl _ e; simp at this; omega)).trans hf); have lw4 : wb < V4.heap.size := Nat.lt_of_lt_of_le (by omega) hs4.2.1.size; clear HA4 hs4)))
      all_goals simp [bodyPost, results, Try.results83, go_sem]
      all_goals
        exact opened_end HD.out HE.out kW1 hB hgl hg hwb hgw (by omega) y2
end Go.Proofs.Ytabahmcbhapbiaa

namespace Go.Proofs.Ytabahmcbhapbiaa
open Go.RowKit Go.Lib
set_option linter.unusedVariables false
section
variable {w W : World} {xb rb : Nat} {m : Moo} {own : Nat → Prop}
theorem devLook_arg {mb : Nat} {L : DLay} {ow : Nat → Option Nat} (h : DevM w mb m L ow) (c : Int) (hc : hasB m.n c = false) :
    Calls Try.prog 21 #[.pointer (some ⟨mb, 0, none⟩), .int .i64 c] w fun e w' => e = .returned (.tuple #[.agg #[.int .i64 0, .int .i64 0, .slice none 0 0], .int .i64 1]) ∧ Below w.heap.size w w' := by
  have HH : Hid (∀ W, Below w.heap.size w W → Calls Try.prog 36 #[.pointer (some ⟨mb, 0, none⟩), .int .i64 c] W fun e w' => e = .returned (.bool false) ∧ W = w') := fun W hW => by rw [← hc]; exact has_any (h.below hW) c
  clear h hc
  go_enter Try.func21, Try.ntmps21
  go_wp2_with (go_at_call 36; refine (HH.out _ (by repeat (first | exact Below.refl _ _ | apply Below.drew | refine bel_alloc ?_ _))).mono ?_; rintro e w1 ⟨rfl, rfl⟩)
  all_goals simp [bodyPost, results, Try.results21, go_sem]
  all_goals exact bel_alloc (Below.refl _ _) _
set_option maxHeartbeats 1000000 in
theorem looked_no (h : PairAt W xb m rb m own) (wb : Nat) (c : Int) (hc : hasB m.n c = false) :
    Calls Try.prog 56 #[.pointer (some ⟨wb, 0, none⟩), .agg #[.pointer (some ⟨xb, 0, none⟩), .pointer (some ⟨rb, 0, none⟩)], .int .i64 c] W fun e w' => e = .returned (.bool true) ∧ Below W.heap.size W w' := by
  obtain ⟨Lx, ox, Lr, ow, hx, hr, _, _⟩ := h
  have HX : Hid (∀ W0, Below W.heap.size W W0 → Calls Try.prog 21 #[.pointer (some ⟨xb, 0, none⟩), .int .i64 c] W0 fun e w' => e = .returned (.tuple #[.agg #[.int .i64 0, .int .i64 0, .slice none 0 0], .int .i64 1]) ∧ Below W0.heap.size W0 w') := fun W0 hb => devLook_arg (hx.below hb) c hc
  have r0 := (hr.pc 0 0 (fun _ => rfl)).1.1
  have HB0 : Hid (Below W.heap.size W W) := Below.refl _ _
  have hcc : c < 0 ∨ (m.n : Int) ≤ c := by
    unfold hasB at hc
    simp at hc
    omega
  clear hx hr
  go_enter Try.func56, Try.ntmps56
  go_wp2_with fail
  refine (HX.out _ (bel_alloc (Below.refl _ _) _)).mono ?_
  rintro e w1 ⟨rfl, hb1⟩
  have HB1 : Hid (Below W.heap.size W w1) := bel_trans (bel_alloc (Below.refl _ _) _) hb1
  have p1 : w1.cell? ⟨W.heap.size, 1, none⟩ = some (.pointer (some ⟨rb, 0, none⟩)) := (hb1.cell (p := ⟨W.heap.size, 1, none⟩) (by simp)).trans (by simp [go_sem])
  have lp : W.heap.size < w1.heap.size := Nat.lt_of_lt_of_le (by simp) hb1.size
  have r1 := belS HB1.out r0
  have lr := block_lt_of_cell r1
  simp only at lr
  clear hb1 HX r0
  rcases hcc with hcc | hcc
  all_goals
    go_wp2_with (go_at_call 52; refine (num_any _ _).mono ?_; rintro e w3 ⟨rfl, rfl⟩)
    all_goals go_ret
    all_goals exact ⟨rfl, by repeat (first | exact HB1.out | apply Below.drew | refine bel_alloc ?_ _)⟩
theorem rowq_op4 {w : World} {a : Option Addr} {n c k : Nat} {l : List Op4} {g : Option Nat} (h : RowQ w 4 (.slice a n c) (flat4 l) g) (hk : k < l.length) : ∃ gb off, a = some ⟨gb, off, none⟩ ∧ Op4At w gb (off + k * 4) l[k] := by
  rcases h with ⟨_, h2, _⟩ | ⟨gb, off, n', cap, h1, h2, h3, h4, h5, h6, h7, h8⟩
  · have := congrArg List.length h2
    rw [flat4_len] at this
    simp only [List.length_nil] at this
    omega
  · cases h2
    have f : ∀ i v, i < 4 → l[k].cells[i]? = some v → w.cell? ⟨gb, off + k * 4 + i, none⟩ = some v := fun i v hi hv => by
      rw [Nat.add_assoc]
      exact h7 _ v ((flat4_at l k i hk hi).trans hv)
    exact ⟨gb, off, rfl, f 0 _ (by omega) rfl, f 1 _ (by omega) rfl, f 2 _ (by omega) rfl, f 3 _ (by omega) rfl⟩
theorem OpenedAt.bel {B wb n : Nat} {vs : List Value} {g gl : Option Nat} {o : Op4} {W W3 w' : World} (h : OpenedAt B wb n vs g gl o W3 w') (hb : Below W.heap.size W W3) (hgl : ∀ k, gl = some k → W.heap.size ≤ k) (hw : wb < W.heap.size) : OpenedAt B wb n vs g none o W w' := by
  obtain ⟨v', g', L, h1, h2, h3, h4, h5, h6, h7, h8⟩ := h
  have hs := hb.size
  refine ⟨v', g', L, h1, h2, h3, fun k e => (h4 k e).imp id (fun x => by omega), h5, (KeptX.of_below hb).trans h6 (fun i hi e => ?_), fun j hj => (h7 j hj).trans (hb.cell (p := ⟨wb, j, none⟩) hw), fun j => (h8 j).trans (hb.frozen (p := ⟨wb, j, none⟩) hw)⟩
  rcases e with e | e | e
  · exact Or.inl e
  · exact Or.inr (Or.inl e)
  · have := hgl i e
    omega
set_option maxHeartbeats 2000000 in
theorem looked_ok (h : PairAt W xb m rb m own) (c : Nat) (hc : c < m.n) (hho : (m.cl c).ho.length ≤ 1000) {wb : Nat} {v : Value} {vs : List Value} {g : Option Nat} (hv : W.cell? ⟨wb, 1, none⟩ = some v) (hq : RowQ W 1 v vs g) (hvl : (vs.length + 4) * 24 ≤ 140737488355328) (hf : W.frozen? ⟨wb, 1, none⟩ = false) (hwb : wb < W.heap.size) (hgw : g ≠ some wb) :
    Calls Try.prog 56 #[.pointer (some ⟨wb, 0, none⟩), .agg #[.pointer (some ⟨xb, 0, none⟩), .pointer (some ⟨rb, 0, none⟩)], .int .i64 (c : Int)] W fun e w' => e = .returned (.bool true) ∧ Hid (OpenedAt W.heap.size wb (m.cl c).ho.length vs g none ⟨markN vs.length, 0, 0, 0⟩ W w') := by
  obtain ⟨Lx, ox, Lr, ow, hx, hr, _, _⟩ := h
  have HX : Hid (∀ W0, Below W.heap.size W W0 → Calls Try.prog 21 #[.pointer (some ⟨xb, 0, none⟩), .int .i64 (c : Int)] W0 fun e w' => ∃ a cc g', e = .returned (.tuple #[.agg #[.int .i64 ((m.cl c).up.length : Int), .int .i64 ((m.cl c).dn.length : Int), .slice a (m.cl c).ho.length cc], .int .i64 0]) ∧ Hid (RowQ w' 4 (.slice a (m.cl c).ho.length cc) (flat4 (m.cl c).ho) g' ∧ Below W0.heap.size W0 w' ∧ ∀ k, g' = some k → W0.heap.size ≤ k)) := fun W0 hb => devLook_ok (hx.below hb) c hc (by omega)
  obtain ⟨⟨a0, a1, a2, a3, a4, a5, a6⟩, _⟩ := hr.pc 0 0 (fun _ => rfl)
  obtain ⟨_, _, _, s3⟩ := (hr.pc 2 0 (fun _ => rfl)).1 c hc
  have u0 := (hr.pc 4 0 (fun _ => rfl)).1 c hc
  have d0 := (hr.pc 5 0 (fun _ => rfl)).1 c hc
  have qo : RowQ W 4 (Lr.ov c) (flat4 (m.cl c).ho) (Lr.og c) := hr.pc 7 c (fun e => absurd e (by omega)) hc
  have qu : RowQ W 6 (Lr.uv c) (flat6 (m.cl c).up) (Lr.ug c) := hr.pc 9 c (fun e => absurd e (by omega)) hc
  have qd : RowQ W 6 (Lr.dv c) (flat6 (m.cl c).dn) (Lr.dg c) := hr.pc 10 c (fun e => absurd e (by omega)) hc
  obtain ⟨ua, uc, hu⟩ := rowq6_len qu
  obtain ⟨da, dc, hd⟩ := rowq6_len qd
  obtain ⟨oa, oc, ho⟩ := rowq_len qo
  rw [hu] at u0
  rw [hd] at d0
  rw [ho] at s3 qo
  have hci : (c : Int) < (m.n : Int) := by omega
  have H0 : Hid (W.cell? ⟨rb, 0, none⟩ = some (.slice (some ⟨Lr.tb, 0, none⟩) m.n Lr.tcap) ∧ W.cell? ⟨rb, 2, none⟩ = some (.slice (some ⟨Lr.hb, 0, none⟩) m.n m.n) ∧ W.cell? ⟨rb, 4, none⟩ = some (.slice (some ⟨Lr.ub, 0, none⟩) m.n m.n) ∧ W.cell? ⟨rb, 5, none⟩ = some (.slice (some ⟨Lr.db, 0, none⟩) m.n m.n) ∧ W.cell? ⟨Lr.hb, c * 4 + 3, none⟩ = some (.slice oa (m.cl c).ho.length oc) ∧ W.cell? ⟨Lr.ub, c, none⟩ = some (.slice ua (m.cl c).up.length uc) ∧ W.cell? ⟨Lr.db, c, none⟩ = some (.slice da (m.cl c).dn.length dc)) := ⟨a0, a2, a4, a5, s3, u0, d0⟩
  have HQ : Hid _ := qo
  have HV : Hid (W.cell? ⟨wb, 1, none⟩ = some v ∧ RowQ W 1 v vs g ∧ W.frozen? ⟨wb, 1, none⟩ = false ∧ ∀ k, g = some k → k < W.heap.size) := ⟨hv, hq, hf, hq.lt⟩
  clear hx hr a0 a1 a2 a3 a4 a5 a6 u0 d0 qu qd s3 qo hu hd ho hv hq hf
  generalize (m.cl c).ho = ops at *
  generalize (m.cl c).up.length = nu at *
  generalize (m.cl c).dn.length = nd at *
  generalize m.n = mn at *
  go_enter Try.func56, Try.ntmps56
  go_wp2_with fail
  refine (HX.out _ (bel_alloc (Below.refl _ _) _)).mono ?_
  rintro e w1 ⟨a, cc, gl, rfl, hl⟩
  have HB1 : Hid (Below W.heap.size W w1) := bel_trans (bel_alloc (Below.refl _ _) _) hl.out.2.1
  have p1 : w1.cell? ⟨W.heap.size, 1, none⟩ = some (.pointer (some ⟨rb, 0, none⟩)) := (hl.out.2.1.cell (p := ⟨W.heap.size, 1, none⟩) (by simp)).trans (by simp [go_sem])
  have lp : W.heap.size < w1.heap.size := Nat.lt_of_lt_of_le (by simp) hl.out.2.1.size
  have hgl : ∀ k, gl = some k → W.heap.size < k := fun k e => by have := hl.out.2.2 k e; simp at this; omega
  have HL : Hid (RowQ w1 4 (.slice a ops.length cc) (flat4 ops) gl) := hl.out.1
  obtain ⟨b0, b2, b4, b5, b6, b7, b8⟩ := H0.out
  replace b0 := belS HB1.out b0
  replace b2 := belS HB1.out b2
  replace b4 := belS HB1.out b4
  replace b5 := belS HB1.out b5
  replace b6 := belS HB1.out b6
  replace b7 := belS HB1.out b7
  replace b8 := belS HB1.out b8
  have l0 := block_lt_of_cell b0
  have l6 := block_lt_of_cell b6
  have l7 := block_lt_of_cell b7
  have l8 := block_lt_of_cell b8
  simp only at l0 l6 l7 l8
  clear hl HX H0
  go_wp2_with (go_at_call 52; refine (num_any _ _).mono ?_; rintro e w3 ⟨rfl, rfl⟩)
  go_region_held3 (fun W' => W'.cell? ⟨w1.heap.size, 0, none⟩ = some (.int .i64 (nu : Int)) ∧ W'.cell? ⟨w1.heap.size, 1, none⟩ = some (.int .i64 (nd : Int)) ∧ W'.cell? ⟨w1.heap.size, 2, none⟩ = some (.slice a ops.length cc) ∧ W'.cell? ⟨W.heap.size, 1, none⟩ = some (.pointer (some ⟨rb, 0, none⟩)) ∧ W'.cell? ⟨rb, 4, none⟩ = some (.slice (some ⟨Lr.ub, 0, none⟩) mn mn) ∧ W'.cell? ⟨rb, 5, none⟩ = some (.slice (some ⟨Lr.db, 0, none⟩) mn mn) ∧ W'.cell? ⟨Lr.ub, c, none⟩ = some (.slice ua nu uc) ∧ W'.cell? ⟨Lr.db, c, none⟩ = some (.slice da nd dc)) (simp [go_sem, *]) ((go_at_call 52; refine (num_any _ _).mono ?_; rintro e w3 ⟨rfl, rfl⟩))
  have HB2 : Hid (Below w1.heap.size w1 (w1.alloc (Obj.cells #[Value.int IntKind.i64 ↑nu, Value.int IntKind.i64 ↑nd, Value.slice a ops.length cc] 51)).drew) := (bel_alloc (Below.refl _ _) _).drew
  have L2 : (w1.alloc (Obj.cells #[Value.int IntKind.i64 ↑nu, Value.int IntKind.i64 ↑nd, Value.slice a ops.length cc] 51)).drew.cell? ⟨w1.heap.size, 2, none⟩ = some (.slice a ops.length cc) := by simp [go_sem]
  generalize (w1.alloc (Obj.cells #[Value.int IntKind.i64 ↑nu, Value.int IntKind.i64 ↑nd, Value.slice a ops.length cc] 51)).drew = W3 at *
  have HE : Hid (∀ k, (hk : k < ops.length) → ∃ gb off gb2 off2, a = some ⟨gb, off, none⟩ ∧ oa = some ⟨gb2, off2, none⟩ ∧ Op4At W3 gb (off + k * 4) ops[k] ∧ Op4At W3 gb2 (off2 + k * 4) ops[k]) := fun k hk => by
    obtain ⟨gb, off, e1, o1⟩ := rowq_op4 HL.out hk
    obtain ⟨gb2, off2, e2, o2⟩ := rowq_op4 HQ.out hk
    exact ⟨gb, off, gb2, off2, e1, e2, op4at_bel HB2.out o1, op4at_bel (bel_trans HB1.out HB2.out) o2⟩
  clear b0 b2 b4 b5 b6 b7 b8
  have HO : Hid (∀ W4, Below W3.heap.size W3 W4 → Calls Try.prog 83 #[.pointer (some ⟨wb, 0, none⟩), .slice a ops.length cc] W4 fun e w' => e = .returned (.tuple #[]) ∧ Hid (OpenedAt W.heap.size wb ops.length vs g none ⟨markN vs.length, 0, 0, 0⟩ W w')) := fun W4 hb4 => by
    obtain ⟨v1, v2, v3, v4⟩ := HV.out
    have hb3 : Below W.heap.size W W4 := bel_trans (bel_trans HB1.out HB2.out) hb4
    refine (opened_any (belS hb3 v1) (v2.keep (KeptX.of_below (F := fun _ => False) hb3) (fun _ _ e => e)) hvl ((hb3.frozen (p := ⟨wb, 1, none⟩) hwb).trans v3) (HL.out.keep (KeptX.of_below (F := fun _ => False) (bel_trans HB2.out hb4)) (fun _ _ e => e)) rfl hho hb3.size (fun k e => Nat.le_of_lt (hgl k e)) v4 hwb hgw).mono ?_
    rintro e w' ⟨rfl, ho⟩
    exact ⟨rfl, ho.out.bel hb3 (fun k e => Nat.le_of_lt (hgl k e)) hwb⟩
  have HL2 : Hid _ := L2
  clear HL HQ HV HB1 HB2 hgl p1 lp l0 l6 l7 l8 L2
  go_wp2
  go_loopw [10, 11] (fun sm i wr => ∃ k : Nat, k ≤ ops.length ∧ i = .int .i64 k ∧ sm = .bool true ∧ Hid (Below W3.heap.size W3 wr)) (fun _ i _ => ops.length - (RowKit.intOf i).toNat)
  case atStart => exact ⟨0, Nat.zero_le _, rfl, rfl, Below.refl _ _⟩
  case round =>
    obtain ⟨k, hk, rfl, rfl, hb⟩ := hrel
    have L2 := belS hb.out HL2.out
    by_cases hlt : k < ops.length
    · have hki : (k : Int) < (ops.length : Int) := by omega
      obtain ⟨gb, off, gb2, off2, ha, hoa, h1, h2⟩ := HE.out k hlt
      obtain ⟨o0, o1, o2, o3⟩ := op4at_bel hb.out h1
      obtain ⟨p0, p1, p2, p3⟩ := op4at_bel hb.out h2
      subst ha
      subst hoa
      generalize ops[k] = q at *
      clear h1 h2
      go_wp2_with fail
      go_region
      all_goals go_wp2
      all_goals exact ⟨⟨k + 1, by omega, by go_num, by first | trivial | rfl, hb.out.drew⟩, by simp [RowKit.intOf]; omega⟩
    · have e : k = ops.length := by omega
      subst e
      go_wp2_with (go_at_call 83; refine (HO.out _ hb.out).mono ?_; rintro e w5 ⟨rfl, hw5⟩)
      all_goals go_ret
      all_goals exact ⟨rfl, hw5⟩
end
end Go.Proofs.Ytabahmcbhapbiaa

namespace Go.Proofs.Ytabahmcbhapbiaa
open Go.RowKit Go.Lib Go.Shelf
set_option linter.unusedVariables false
/-- Two boxes, nb and ob, alone are turned since W7; T: what the range has laid. -/
structure TdI (W7 : World) (nb ob : Nat) (T : Nat → Prop) (q : Int) (b : Bool) (W : World) : Prop where
  os : W.os = W7.os
  tape : W.tape = W7.tape
  output : W.output = W7.output
  sz : W7.heap.size ≤ W.heap.size
  blk : ∀ k, k < W7.heap.size → k ≠ nb → k ≠ ob → W.heap[k]? = W7.heap[k]?
  n0 : W.cell? ⟨nb, 0, none⟩ = some (.int .i64 q)
  o0 : W.cell? ⟨ob, 0, none⟩ = some (.bool b)
  nf : W.frozen? ⟨nb, 0, none⟩ = false
  of : W.frozen? ⟨ob, 0, none⟩ = false
  tt : ∀ k, T k → W7.heap.size ≤ k
  nl : nb < W7.heap.size
  ol : ob < W7.heap.size
  ne : nb ≠ ob
section
variable {W7 W W' : World} {nb ob : Nat} {T T' : Nat → Prop} {q : Int} {b : Bool}
theorem TdI.cell (h : TdI W7 nb ob T q b W) {p : Addr} (hl : p.block < W7.heap.size) (h1 : p.block ≠ nb) (h2 : p.block ≠ ob) : W.cell? p = W7.cell? p := World.cell?_of_block (w := W7) (h.blk p.block hl h1 h2)
theorem TdI.frz (h : TdI W7 nb ob T q b W) {p : Addr} (hl : p.block < W7.heap.size) (h1 : p.block ≠ nb) (h2 : p.block ≠ ob) : W.frozen? p = W7.frozen? p := World.frozen?_of_block (w := W7) (h.blk p.block hl h1 h2)
theorem TdI.turn (h : TdI W7 nb ob T q b W) (ht : TurnT T W W') (hT : ∀ k, T' k → T k ∨ (W.heap.size ≤ k ∧ k < W'.heap.size)) : TdI W7 nb ob T' q b W' := by
  have nT : ∀ k, k < W7.heap.size → ¬ T k := fun k hk e => by have := h.tt k e; omega
  have hb : ∀ k, k < W7.heap.size → W'.heap[k]? = W.heap[k]? := fun k hk => ht.block k (Nat.lt_of_lt_of_le hk h.sz) (nT k hk)
  refine ⟨ht.os.trans h.os, ht.tape.trans h.tape, ht.output.trans h.output, Nat.le_trans h.sz ht.size, fun k hk h1 h2 => (hb k hk).trans (h.blk k hk h1 h2), (World.cell?_of_block (w := W) (a := ⟨nb, 0, none⟩) (hb nb h.nl)).trans h.n0, (World.cell?_of_block (w := W) (a := ⟨ob, 0, none⟩) (hb ob h.ol)).trans h.o0, (World.frozen?_of_block (w := W) (a := ⟨nb, 0, none⟩) (hb nb h.nl)).trans h.nf, (World.frozen?_of_block (w := W) (a := ⟨ob, 0, none⟩) (hb ob h.ol)).trans h.of, fun k e => ?_, h.nl, h.ol, h.ne⟩
  rcases hT k e with x | x
  · exact h.tt k x
  · exact Nat.le_trans h.sz x.1
theorem TdI.below (h : TdI W7 nb ob T q b W) (hb : Below W.heap.size W W') : TdI W7 nb ob T q b W' := h.turn (TurnT.of_below hb) (fun k e => Or.inl e)
theorem TdI.setN (h : TdI W7 nb ob T q b W) (q' : Int) : TdI W7 nb ob T q' b (W.setCell ⟨nb, 0, none⟩ (.int .i64 q')) :=
  ⟨h.os, h.tape, h.output, by simpa [World.setCell] using h.sz, fun k hk h1 h2 => (Below.heap_setCell _ _ _ _ h1).trans (h.blk k hk h1 h2), World.cell?_setCell_same _ _ _ h.n0, (World.cell?_setCell_other _ _ _ _ (fun e => h.ne (by cases e; rfl))).trans h.o0, by rw [World.frozen?_setCell]; exact h.nf, by rw [World.frozen?_setCell]; exact h.of, h.tt, h.nl, h.ol, h.ne⟩
theorem TdI.setO (h : TdI W7 nb ob T q b W) (b' : Bool) : TdI W7 nb ob T q b' (W.setCell ⟨ob, 0, none⟩ (.bool b')) :=
  ⟨h.os, h.tape, h.output, by simpa [World.setCell] using h.sz, fun k hk h1 h2 => (Below.heap_setCell _ _ _ _ h2).trans (h.blk k hk h1 h2), (World.cell?_setCell_other _ _ _ _ (fun e => h.ne (by cases e; rfl))).trans h.n0, World.cell?_setCell_same _ _ _ h.o0, by rw [World.frozen?_setCell]; exact h.nf, by rw [World.frozen?_setCell]; exact h.of, h.tt, h.nl, h.ol, h.ne⟩
theorem TdI.op4 (h : TdI W7 nb ob T q b W) {gb o : Nat} {u : Op4} (hu : Op4At W7 gb o u) (hl : gb < W7.heap.size) (h1 : gb ≠ nb) (h2 : gb ≠ ob) : Op4At W gb o u := by
  obtain ⟨x0, x1, x2, x3⟩ := hu
  exact ⟨(h.cell (p := ⟨gb, _, none⟩) hl h1 h2).trans x0, (h.cell (p := ⟨gb, _, none⟩) hl h1 h2).trans x1, (h.cell (p := ⟨gb, _, none⟩) hl h1 h2).trans x2, (h.cell (p := ⟨gb, _, none⟩) hl h1 h2).trans x3⟩
theorem TdI.keepN (h : TdI W7 nb ob T q b W) (v : Value) : KeepT T W (W.setCell ⟨nb, 0, none⟩ v) := ⟨by simp [World.setCell], fun k e _ => Below.heap_setCell _ _ _ _ (fun e2 => by have := h.tt k e; have := h.nl; have e3 : k = nb := e2; omega)⟩
theorem TdI.keepO (h : TdI W7 nb ob T q b W) (v : Value) : KeepT T W (W.setCell ⟨ob, 0, none⟩ v) := ⟨by simp [World.setCell], fun k e _ => Below.heap_setCell _ _ _ _ (fun e2 => by have := h.tt k e; have := h.ol; have e3 : k = ob := e2; omega)⟩
/-- The later of two ranges: over the world that the first one left. -/
theorem TdI.trans {W9 : World} {T2 : Nat → Prop} {q2 : Int} {b2 : Bool} (h : TdI W7 nb ob T q b W9) (k : TdI W9 nb ob T2 q2 b2 W) : TdI W7 nb ob T2 q2 b2 W :=
  ⟨k.os.trans h.os, k.tape.trans h.tape, k.output.trans h.output, Nat.le_trans h.sz k.sz, fun i hi h1 h2 => (k.blk i (Nat.lt_of_lt_of_le hi h.sz) h1 h2).trans (h.blk i hi h1 h2), k.n0, k.o0, k.nf, k.of, fun i e => Nat.le_trans h.sz (k.tt i e), h.nl, h.ol, h.ne⟩
theorem TdI.here (h : TdI W7 nb ob T q b W) : TdI W nb ob (fun _ => False) q b W :=
  ⟨rfl, rfl, rfl, Nat.le_refl _, fun _ _ _ _ => rfl, h.n0, h.o0, h.nf, h.of, fun _ e => e.elim, Nat.lt_of_lt_of_le h.nl h.sz, Nat.lt_of_lt_of_le h.ol h.sz, h.ne⟩
end
/-- All that is read of the history, in W7. -/
structure TdR (W7 : World) (pb rb mo : Nat) (most : Int) (ha : Option Addr) (hc : Nat) (h : List Op4) (B : Nat) : Prop where
  p1 : W7.cell? ⟨pb, 1, none⟩ = some (.pointer (some ⟨rb, 0, none⟩))
  r6 : W7.cell? ⟨rb, 6, none⟩ = some (.slice ha h.length hc)
  mo : W7.cell? ⟨mo, 0, none⟩ = some (.int .i64 most)
  el : ∀ k (hk : k < h.length), ∃ gb off, ha = some ⟨gb, off, none⟩ ∧ gb < B ∧ Op4At W7 gb (off + k * 4) h[k]
  rl : rb < B
  rc : W7.cell? ⟨B + 1, 0, none⟩ = some (.bool false)
  rf : W7.frozen? ⟨B + 1, 0, none⟩ = false
theorem told_start {W W7 : World} {xb rb : Nat} {m : Moo} {own : Nat → Prop} (h : PairAt W xb m rb m own) (hF : m.hist.length ≤ 1000000000000000) (most : Int)
    (hW7 : W7 = (((((W.alloc (.cells #[.pointer (some ⟨xb, 0, none⟩), .pointer (some ⟨rb, 0, none⟩)] 104)).alloc (.cells #[.bool false] 4)).alloc (.cells #[.int .i64 most] 3)).alloc (.cells #[.int .i64 0] 3)).alloc (.cells #[.bool true] 4)).alloc (.cells #[.pointer (some ⟨xb, 0, none⟩)] 44)) :
    ∃ vd ha hc, TdR W7 W.heap.size rb (W.heap.size + 1 + 1) most ha hc m.hist W.heap.size ∧ TdI W7 (W.heap.size + 1 + 1 + 1) (W.heap.size + 1 + 1 + 1 + 1) (fun _ => False) 0 true W7 ∧ W7.heap.size = W.heap.size + 6 ∧ Below W.heap.size W W7 ∧
      ∀ T q b W1, TdI W7 (W.heap.size + 1 + 1 + 1) (W.heap.size + 1 + 1 + 1 + 1) T q b W1 → HistW vd m.hist W1 ∧ SeqT Try.prog 41 #[.pointer (some ⟨W.heap.size + 1 + 1 + 1 + 1 + 1, 0, none⟩)] enc4 (HistW vd m.hist) (fun xs => xs = m.hist) (fun pre => pre <+: m.hist) m.hist.length W1 := by
  have hb7 : Below W.heap.size W W7 := by rw [hW7]; exact bel_alloc (bel_alloc (bel_alloc (bel_alloc (bel_alloc (bel_alloc (Below.refl _ _) _) _) _) _) _) _
  have hz : W7.heap.size = W.heap.size + 6 := by rw [hW7]; simp
  have c1 : W7.cell? ⟨W.heap.size, 1, none⟩ = some (.pointer (some ⟨rb, 0, none⟩)) := by rw [hW7]; simp [go_sem]
  have c2 : W7.cell? ⟨W.heap.size + 1 + 1, 0, none⟩ = some (.int .i64 most) := by rw [hW7]; simp [go_sem]
  have c3 : W7.cell? ⟨W.heap.size + 1 + 1 + 1, 0, none⟩ = some (.int .i64 0) := by rw [hW7]; simp [go_sem]
  have c4 : W7.cell? ⟨W.heap.size + 1 + 1 + 1 + 1, 0, none⟩ = some (.bool true) := by rw [hW7]; simp [go_sem]
  have c5 : W7.cell? ⟨W.heap.size + 1 + 1 + 1 + 1 + 1, 0, none⟩ = some (.pointer (some ⟨xb, 0, none⟩)) := by rw [hW7]; simp [go_sem]
  have c9 : W7.cell? ⟨W.heap.size + 1, 0, none⟩ = some (.bool false) := by rw [hW7]; simp [go_sem]
  have f9 : W7.frozen? ⟨W.heap.size + 1, 0, none⟩ = false := by rw [hW7]; simp [go_sem]
  have f3 : W7.frozen? ⟨W.heap.size + 1 + 1 + 1, 0, none⟩ = false := by rw [hW7]; simp [go_sem]
  have f4 : W7.frozen? ⟨W.heap.size + 1 + 1 + 1 + 1, 0, none⟩ = false := by rw [hW7]; simp [go_sem]
  obtain ⟨Lx, ox, Lr, ow, hx, hr, _, _⟩ := h
  obtain ⟨vd, v1, v2, _⟩ := hx.histW
  obtain ⟨⟨_, _, _, _, _, _, a6⟩, _⟩ := hr.pc 0 0 (fun _ => rfl)
  have qh : RowQ W 4 Lr.hv (flat4 m.hist) Lr.hg := hr.pc 6 0 (fun _ => rfl)
  obtain ⟨ha, hc, hhv⟩ := rowq_len qh
  rw [hhv] at qh a6
  have lx := hx.lto hx.o0
  have lv := hx.lto hx.o1
  have lr : rb < W.heap.size := block_lt_of_cell a6
  refine ⟨vd, ha, hc, ⟨c1, belS hb7 a6, c2, fun k hk => ?_, lr, c9, f9⟩, ⟨rfl, rfl, rfl, Nat.le_refl _, fun _ _ _ _ => rfl, c3, c4, f3, f4, fun _ e => e.elim, by omega, by omega, by omega⟩, hz, hb7, fun T q b W1 hi => ⟨?_, ?_⟩⟩
  · obtain ⟨gb, off, e, o⟩ := rowq_op4 qh hk
    exact ⟨gb, off, e, block_lt_of_cell o.1, op4at_bel hb7 o⟩
  · rcases v2 with v2 | ⟨b0, cap, e, hl, hcs⟩
    · exact Or.inl v2
    · refine Or.inr ⟨b0, cap, e, by have := hi.sz; omega, fun j y hj => ?_⟩
      rw [hi.cell (p := ⟨b0, j, none⟩) (by show b0 < _; omega) (by show b0 ≠ _; omega) (by show b0 ≠ _; omega), hb7.cell (p := ⟨b0, j, none⟩) hl]
      exact hcs j y hj
  · have sz := hi.sz
    refine history_stops (W.heap.size + 1 + 1 + 1 + 1 + 1) xb Lx.vb vd m.hist hF W1 (by omega) (by omega) (by omega) ?_ ?_ ?_
    · exact (hi.cell (p := ⟨W.heap.size + 1 + 1 + 1 + 1 + 1, 0, none⟩) (by show W.heap.size + 1 + 1 + 1 + 1 + 1 < _; omega) (by show W.heap.size + 1 + 1 + 1 + 1 + 1 ≠ _; omega) (by show W.heap.size + 1 + 1 + 1 + 1 + 1 ≠ _; omega)).trans c5
    · exact (hi.cell (p := ⟨xb, 0, none⟩) (by show xb < _; omega) (by show xb ≠ _; omega) (by show xb ≠ _; omega)).trans (belS hb7 hx.m0)
    · exact (hi.cell (p := ⟨Lx.vb, 1, none⟩) (by show Lx.vb < _; omega) (by show Lx.vb ≠ _; omega) (by show Lx.vb ≠ _; omega)).trans (belS hb7 v1)
end Go.Proofs.Ytabahmcbhapbiaa

namespace Go.Proofs.Ytabahmcbhapbiaa
open Go.RowKit Go.Lib Go.Shelf
set_option linter.unusedVariables false
/-- Are two ops the same? -/
def sameB (x y : Op4) : Bool := x.k == y.k && (x.p == y.p && (x.b == y.b && x.s == y.s))
theorem sameB_iff (x y : Op4) : sameB x y = true ↔ x = y := by
  cases x
  cases y
  simp [sameB]
theorem sameB_res (x y : Op4) (w : World) : (if x.k = y.k then if x.p = y.p then if x.b = y.b then if x.s = y.s then Result.ok (Next.value (Value.bool true)) w else Result.ok (Next.value (Value.bool false)) w else Result.ok (Next.value (Value.bool false)) w else Result.ok (Next.value (Value.bool false)) w else Result.ok (Next.value (Value.bool false)) w) = Result.ok (Next.value (Value.bool (sameB x y))) w := by
  simp only [sameB]
  by_cases e1 : x.k = y.k
  · by_cases e2 : x.p = y.p
    · by_cases e3 : x.b = y.b
      · by_cases e4 : x.s = y.s
        · simp [e1, e2, e3, e4]
        · simp [e1, e2, e3, e4]
      · simp [e1, e2, e3]
    · simp [e1, e2]
  · simp [e1]
theorem sameB_not (x y : Op4) (w : World) : (if x.k = y.k then if x.p = y.p then if x.b = y.b then if x.s = y.s then Result.ok (Next.value (Value.bool false)) w else Result.ok (Next.value (Value.bool true)) w else Result.ok (Next.value (Value.bool true)) w else Result.ok (Next.value (Value.bool true)) w else Result.ok (Next.value (Value.bool true)) w) = Result.ok (Next.value (Value.bool (!sameB x y))) w := by
  simp only [sameB]
  by_cases e1 : x.k = y.k
  · by_cases e2 : x.p = y.p
    · by_cases e3 : x.b = y.b
      · by_cases e4 : x.s = y.s
        · simp [e1, e2, e3, e4]
        · simp [e1, e2, e3, e4]
      · simp [e1, e2, e3]
    · simp [e1, e2]
  · simp [e1]
end Go.Proofs.Ytabahmcbhapbiaa

namespace Go.Proofs.Ytabahmcbhapbiaa
open Go.RowKit Go.Lib Go.Shelf
set_option linter.unusedVariables false
/-- A region whose order is drawn, by a word on what has been done. -/
theorem anyIn_walk2 {F : Fence} {n : Nat} {P : Program} {md : Region.Mode} {ops : Array Oper} {Q : Exit → Act → World → Prop} {I : Nat → Array Bool → Act → World → Prop} (h0 : ∀ listed a w, ¬ I 0 listed a w) (hne : ∀ f listed a w, I (f + 1) listed a w → Region.ready md ops listed ≠ [])
    (hs : ∀ f listed a w i, I (f + 1) listed a w → i ∈ Region.ready md ops listed → ∀ K : Act → World → Prop, (∀ a' w', (I f (listed.setIfInBounds i true) a' w' ∨ (Region.ready md ops (listed.setIfInBounds i true) = [] ∧ Q .normal a' w')) → K a' w') → wpOpIn F n P ops Q i K a w) :
    ∀ f listed a w, I f listed a w → wpAnyIn F n P md ops Q f listed a w
  | 0, listed, a, w, h => (h0 _ _ _ h).elim
  | f + 1, listed, a, w, h => ⟨fun e => (hne _ _ _ _ h e).elim, fun i hi => hs f listed a w i h hi _ (fun a' w' h' => h'.elim (anyIn_walk2 h0 hne hs f _ a' w') (fun x => wpAnyIn_done x.1 x.2 f))⟩
/-- Each op waits for elder ones alone. -/
def eldersB (ops : Array Oper) : Bool := (List.range ops.size).all fun i => ((ops[i]?).map (fun o => o.after.all fun e => decide (e.on < i))).getD true
/-- What is not done yet, the first of it, is ready. -/
theorem ready_ne {md : Region.Mode} {ops : Array Oper} {listed : Array Bool} (hd : eldersB ops = true) (h : ∃ i, i < ops.size ∧ listed.getD i true = false) (hs : ops.size ≤ listed.size) : Region.ready md ops listed ≠ [] := by
  have key : ∀ n, ∀ i, i ≤ n → i < ops.size → listed.getD i true = false → Region.ready md ops listed ≠ [] := by
    intro n
    induction n with
    | zero =>
      intro i hi hlt hf he
      have e0 : i = 0 := by omega
      subst e0
      have hm : 0 ∈ Region.ready md ops listed := by
        rw [Region.ready, List.mem_filter, List.mem_range]
        refine ⟨hlt, ?_⟩
        rw [eldersB, List.all_eq_true] at hd
        have := hd 0 (List.mem_range.2 hlt)
        rw [Array.getElem?_eq_getElem hlt] at this ⊢
        simp only [Option.map_some, Option.getD_some] at this ⊢
        rw [hf, Bool.not_false, Bool.true_and, Array.all_eq_true]
        rw [Array.all_eq_true] at this
        intro k hk
        have := this k hk
        simp at this
      rw [he] at hm
      cases hm
    | succ n ih =>
      intro i hi hlt hf he
      by_cases hex : ∃ j, j < i ∧ listed.getD j true = false
      · obtain ⟨j, hj, hjf⟩ := hex
        exact ih j (by omega) (by omega) hjf he
      · have hall : ∀ j, j < i → listed.getD j false = true := fun j hj => by
          cases e : listed.getD j true with
          | false => exact absurd ⟨j, hj, e⟩ hex
          | true =>
            rw [Array.getD_eq_getD_getElem?, Array.getElem?_eq_getElem (by omega)] at e ⊢
            exact e
        have hm : i ∈ Region.ready md ops listed := by
          rw [Region.ready, List.mem_filter, List.mem_range]
          refine ⟨hlt, ?_⟩
          rw [eldersB, List.all_eq_true] at hd
          have := hd i (List.mem_range.2 hlt)
          rw [Array.getElem?_eq_getElem hlt] at this ⊢
          simp only [Option.map_some, Option.getD_some] at this ⊢
          rw [hf, Bool.not_false, Bool.true_and, Array.all_eq_true]
          rw [Array.all_eq_true] at this
          intro k hk
          have := this k hk
          rw [hall _ (of_decide_eq_true this), Bool.or_true]
        rw [he] at hm
        cases hm
  obtain ⟨i, h1, h2⟩ := h
  exact key i i (Nat.le_refl _) h1 h2
theorem hmx : Try.prog.follows .mixedOrders = true := by kernel_rfl

theorem ready_nil {md : Region.Mode} {ops : Array Oper} {listed : Array Bool} (h : ∀ i, i < ops.size → listed.getD i true = true) : Region.ready md ops listed = [] := by
  rw [Region.ready, List.filter_eq_nil_iff]
  intro i hi
  rw [h i (List.mem_range.1 hi)]
  simp
theorem getD_set (listed : Array Bool) {i : Nat} (hi : i < listed.size) (j : Nat) (b : Bool) : (listed.setIfInBounds i true).getD j b = if j = i then true else listed.getD j b := by
  rw [Array.getD_eq_getD_getElem?, Array.getD_eq_getD_getElem?, Array.getElem?_setIfInBounds]
  by_cases e : i = j
  · subst e
    simp [hi]
  · rw [if_neg e, if_neg (fun x => e x.symm)]
/-- Which ops an op waits for. -/
def waitsB (ops : Array Oper) (i j : Nat) : Bool := ((ops[i]?).map (fun o => o.after.any fun e => e.on == j && Region.binds .any e)).getD false
theorem waits_of {ops : Array Oper} {listed : Array Bool} {i j : Nat} (hi : i ∈ Region.ready .any ops listed) (hw : waitsB ops i j = true) : listed.getD j false = true := by
  rw [Region.ready, List.mem_filter, List.mem_range] at hi
  obtain ⟨h1, h2⟩ := hi
  unfold waitsB at hw
  rw [Array.getElem?_eq_getElem h1] at h2 hw
  simp only [Option.map_some, Option.getD_some] at h2 hw
  rw [Bool.and_eq_true, Array.all_eq_true] at h2
  rw [Array.any_eq_true] at hw
  obtain ⟨k, hk, hw⟩ := hw
  have := h2.2 k hk
  rw [Bool.and_eq_true] at hw
  rw [hw.2, Bool.not_true, Bool.false_or] at this
  rw [← eq_of_beq hw.1]
  exact this
section
variable {F : Fence} {n : Nat} {P : Program} {ops : Array Oper} {Q : Exit → Act → World → Prop} {base : Act} {w : World} {ps : List (Nat × Value)}
/-- What a frame holds when some of the reads are done. -/
structure CalmI (ops : Array Oper) (base : Act) (ps : List (Nat × Value)) (listed : Array Bool) (a : Act) : Prop where
  df : a.defers = base.defers
  sz : a.tmps.size = base.tmps.size
  ls : listed.size = ops.size
  yes : ∀ j d v, ps[j]? = some (d, v) → listed.getD j false = true → a.tmps[d]? = some v
  no : ∀ t, (∀ j d v, ps[j]? = some (d, v) → listed.getD j false = true → d ≠ t) → a.tmps[t]? = base.tmps[t]?
theorem keys_inj (hnd : (ps.map (·.1)).Nodup) {i j d : Nat} {u v : Value} (h1 : ps[i]? = some (d, u)) (h2 : ps[j]? = some (d, v)) : i = j := by
  have e1 : (ps.map (·.1))[i]? = some d := by rw [List.getElem?_map, h1]; rfl
  have e2 : (ps.map (·.1))[j]? = some d := by rw [List.getElem?_map, h2]; rfl
  exact (List.getElem?_inj (List.getElem?_eq_some_iff.1 e1).1 hnd).1 (e1.trans e2.symm)
theorem CalmI.put {listed : Array Bool} {a : Act} (h : CalmI ops base ps listed a) (hnd : (ps.map (·.1)).Nodup) {i d : Nat} {v : Value} (hi : ps[i]? = some (d, v)) (hil : i < ops.size) (hd : d < base.tmps.size) : CalmI ops base ps (listed.setIfInBounds i true) (a.put (some d) v) := by
  have hl : i < listed.size := by rw [h.ls]; exact hil
  have hda : d < a.tmps.size := by rw [h.sz]; exact hd
  refine ⟨h.df, by show (a.tmps.setIfInBounds d v).size = _; rw [Array.size_setIfInBounds]; exact h.sz, by rw [Array.size_setIfInBounds]; exact h.ls, fun j d2 v2 hj hlj => ?_, fun t ht => ?_⟩
  · show (a.tmps.setIfInBounds d v)[d2]? = _
    rw [Array.getElem?_setIfInBounds]
    by_cases e : d = d2
    · subst e
      have := keys_inj hnd hi hj
      subst this
      rw [hi] at hj
      cases hj
      simp [hda]
    · rw [if_neg e]
      have hji : j ≠ i := by
        rintro rfl
        rw [hi] at hj
        cases hj
        exact e rfl
      rw [getD_set _ hl, if_neg hji] at hlj
      exact h.yes j d2 v2 hj hlj
  · show (a.tmps.setIfInBounds d v)[t]? = _
    have hdt : d ≠ t := ht i d v hi (by rw [getD_set _ hl, if_pos rfl])
    rw [Array.getElem?_setIfInBounds, if_neg hdt]
    refine h.no t (fun j d2 v2 hj hlj => ht j d2 v2 hj ?_)
    rw [getD_set _ hl]
    by_cases e : j = i
    · rw [if_pos e]
    · rw [if_neg e]; exact hlj
/-- All reads done, in their order. -/
def doneT (ps : List (Nat × Value)) (t : Array Value) : Array Value := ps.foldl (fun t p => t.setIfInBounds p.1 p.2) t
theorem doneT_no : ∀ (ps : List (Nat × Value)) (b : Array Value) (t : Nat), (∀ p ∈ ps, p.1 ≠ t) → (doneT ps b)[t]? = b[t]?
  | [], b, t, h => rfl
  | p :: ps, b, t, h => by
    show (doneT ps (b.setIfInBounds p.1 p.2))[t]? = _
    rw [doneT_no ps _ t (fun q hq => h q (List.mem_cons_of_mem _ hq)), Array.getElem?_setIfInBounds, if_neg (h p List.mem_cons_self)]
theorem doneT_size : ∀ (ps : List (Nat × Value)) (b : Array Value), (doneT ps b).size = b.size
  | [], b => rfl
  | p :: ps, b => by
    show (doneT ps (b.setIfInBounds p.1 p.2)).size = _
    rw [doneT_size ps, Array.size_setIfInBounds]
theorem doneT_yes : ∀ (ps : List (Nat × Value)) (b : Array Value) (j d : Nat) (v : Value), (ps.map (·.1)).Nodup → ps[j]? = some (d, v) → d < b.size → (doneT ps b)[d]? = some v
  | p :: ps, b, 0, d, v, hnd, hj, hd => by
    simp at hj
    subst hj
    show (doneT ps (b.setIfInBounds d v))[d]? = _
    rw [doneT_no ps _ d (fun q hq e => (List.nodup_cons.1 hnd).1 (List.mem_map.2 ⟨q, hq, e⟩)), Array.getElem?_setIfInBounds]
    simp [hd]
  | p :: ps, b, j + 1, d, v, hnd, hj, hd => by
    show (doneT ps (b.setIfInBounds p.1 p.2))[d]? = _
    exact doneT_yes ps _ j d v (List.nodup_cons.1 hnd).2 (by simpa using hj) (by rw [Array.size_setIfInBounds]; exact hd)
theorem CalmI.fin {listed : Array Bool} {a : Act} (h : CalmI ops base ps listed a) (hnd : (ps.map (·.1)).Nodup) (hk : ∀ (j d : Nat) (v : Value), ps[j]? = some (d, v) → d < base.tmps.size) (hall : ∀ j, j < ps.length → listed.getD j false = true) : a = { tmps := doneT ps base.tmps, defers := base.defers } := by
  obtain ⟨at1, ad⟩ := a
  obtain rfl : ad = base.defers := h.df
  congr 1
  apply Array.ext_getElem?
  intro t
  by_cases e : ∃ (j : Nat) (v : Value), ps[j]? = some (t, v)
  · obtain ⟨j, v, hj⟩ := e
    rw [doneT_yes ps _ j t v hnd hj (hk j t v hj)]
    exact h.yes j t v hj (hall j (List.getElem?_eq_some_iff.1 hj).1)
  · rw [doneT_no ps _ t (fun p hp ep => ?_)]
    · exact h.no t (fun j d v hj _ ed => e ⟨j, v, by rw [hj, ed]⟩)
    · obtain ⟨j, hj, hp⟩ := List.mem_iff_getElem.1 hp
      refine e ⟨j, p.2, ?_⟩
      rw [List.getElem?_eq_getElem hj, hp, ← ep]
theorem count_drop {listed : Array Bool} {i : Nat} (hi : i < listed.size) (hf : listed.getD i true = false) : (listed.setIfInBounds i true).toList.count false + 1 = listed.toList.count false := by
  have e : listed[i] = false := by
    rw [Array.getD_eq_getD_getElem?, Array.getElem?_eq_getElem hi] at hf
    exact hf
  have hl : i < listed.toList.length := by simpa using hi
  have e2 : listed.toList[i] = false := by simpa using e
  rw [Array.toList_setIfInBounds, List.count_set hl]
  have hm : false ∈ listed.toList := by rw [← e2]; exact List.getElem_mem hl
  have := List.count_pos_iff.2 hm
  rw [e2, show (false == false) = true from rfl, if_pos rfl, show (true == false) = false from rfl, if_neg (by simp)]
  omega
theorem calm_zero {listed0 : Array Bool} (hs : listed0 = Array.replicate ops.size false) : CalmI ops base ps listed0 base := by
  subst hs
  refine ⟨rfl, rfl, by simp, fun j d v hj hl => ?_, fun t _ => rfl⟩
  rw [Array.getD_eq_getD_getElem?, Array.getElem?_replicate] at hl
  split at hl <;> simp at hl
/-- What an op of a calm region must do. -/
def CalmOp (F : Fence) (n : Nat) (P : Program) (ops : Array Oper) (Q : Exit → Act → World → Prop) (base : Act) (ps : List (Nat × Value)) (w : World) (i d : Nat) (v : Value) : Prop :=
  ∀ (a : Act) (K : Act → World → Prop), (∀ t, (∀ p ∈ ps, p.1 ≠ t) → a.tmps[t]? = base.tmps[t]?) → (∀ j, waitsB ops i j = true → ∀ d' v', ps[j]? = some (d', v') → a.tmps[d']? = some v') → K (a.put (some d) v) w → wpOpIn F n P ops Q i K a w
/-- A region of reads whose order is drawn. -/
theorem calm_reads (hN : ops.size = ps.length) (hel : eldersB ops = true) (hnd : (ps.map (·.1)).Nodup) (hk : ∀ (j d : Nat) (v : Value), ps[j]? = some (d, v) → d < base.tmps.size) (hop : ∀ (i d : Nat) (v : Value), ps[i]? = some (d, v) → CalmOp F n P ops Q base ps w i d v) (h1 : 0 < ops.size)
    (hfin : Q .normal { tmps := doneT ps base.tmps, defers := base.defers } w) : wpAnyIn F n P .any ops Q ops.size (Array.replicate ops.size false) base w := by
  refine anyIn_walk2 (I := fun f listed a v => v = w ∧ CalmI ops base ps listed a ∧ f = listed.toList.count false ∧ 1 ≤ f) ?_ ?_ ?_ _ _ _ _ ⟨rfl, calm_zero rfl, by simp, h1⟩
  · rintro listed a v ⟨_, _, _, h⟩
    omega
  · rintro f listed a v ⟨_, hc, hf, h⟩
    have hm := List.count_pos_iff.1 (show 0 < listed.toList.count false by omega)
    obtain ⟨i, hi, e⟩ := List.mem_iff_getElem.1 hm
    have hi' : i < listed.size := by simpa using hi
    refine ready_ne hel ⟨i, by rw [← hc.ls]; exact hi', ?_⟩ (by rw [hc.ls]; exact Nat.le_refl _)
    rw [Array.getD_eq_getD_getElem?, Array.getElem?_eq_getElem hi']
    simpa using e
  · rintro f listed a v i ⟨rfl, hc, hf, h⟩ hi K hK
    have hr := hi
    rw [Region.ready, List.mem_filter, List.mem_range, Bool.and_eq_true] at hr
    have hil := hr.1
    have hif : listed.getD i true = false := by simpa using hr.2.1
    obtain ⟨⟨d, v2⟩, hp⟩ : ∃ p, ps[i]? = some p := ⟨_, List.getElem?_eq_getElem (by omega)⟩
    have hc2 := hc.put hnd hp hil (hk _ _ _ hp)
    have hcd := count_drop (by rw [hc.ls]; exact hil) hif
    refine hop i d v2 hp a K (fun t ht => hc.no t (fun j d' v' hj _ => ht (d', v') (List.mem_of_getElem? hj))) (fun j hj d' v' hp' => hc.yes j d' v' hp' (waits_of hi hj)) ?_
    by_cases hz : f = 0
    · have hall : ∀ j, j < ops.size → (listed.setIfInBounds i true).getD j true = true := fun j hj => by
        cases e : (listed.setIfInBounds i true).getD j true with
        | true => rfl
        | false =>
          have hj2 : j < (listed.setIfInBounds i true).size := by rw [Array.size_setIfInBounds, hc.ls]; exact hj
          rw [Array.getD_eq_getD_getElem?, Array.getElem?_eq_getElem hj2] at e
          have : false ∈ (listed.setIfInBounds i true).toList := by
            rw [← (show (listed.setIfInBounds i true)[j] = false from e)]
            exact Array.mem_toList_iff.2 (Array.getElem_mem hj2)
          have := List.count_pos_iff.2 this
          omega
      have hall2 : ∀ j, j < ps.length → (listed.setIfInBounds i true).getD j false = true := fun j hj => by
        have hj2 : j < (listed.setIfInBounds i true).size := by rw [Array.size_setIfInBounds, hc.ls, hN]; exact hj
        have := hall j (by omega)
        rw [Array.getD_eq_getD_getElem?, Array.getElem?_eq_getElem hj2] at this ⊢
        exact this
      refine hK _ _ (Or.inr ⟨ready_nil hall, ?_⟩)
      rw [hc2.fin hnd hk hall2]
      exact hfin
    · exact hK _ _ (Or.inl ⟨rfl, hc2, by omega, by omega⟩)
/-- .. with one op more, which waits for all of them. -/
theorem calm_store (hN : ops.size = ps.length + 1) (hel : eldersB ops = true) (hnd : (ps.map (·.1)).Nodup) (hk : ∀ (j d : Nat) (v : Value), ps[j]? = some (d, v) → d < base.tmps.size) (hop : ∀ (i d : Nat) (v : Value), ps[i]? = some (d, v) → CalmOp F n P ops Q base ps w i d v)
    (hw : (List.range ps.length).all (fun j => waitsB ops ps.length j) = true)
    (hlast : ∀ K : Act → World → Prop, (∀ a' w', Q .normal a' w' → K a' w') → wpOpIn F n P ops Q ps.length K { tmps := doneT ps base.tmps, defers := base.defers } w) : wpAnyIn F n P .any ops Q ops.size (Array.replicate ops.size false) base w := by
  refine anyIn_walk2 (I := fun f listed a v => v = w ∧ CalmI ops base ps listed a ∧ f = listed.toList.count false ∧ listed.getD ps.length true = false) ?_ ?_ ?_ _ _ _ _ ⟨rfl, calm_zero rfl, by simp, by rw [Array.getD_eq_getD_getElem?, Array.getElem?_replicate, if_pos (by omega)]; rfl⟩
  · rintro listed a v ⟨_, hc, hf, h⟩
    have hl : ps.length < listed.size := by rw [hc.ls]; omega
    have := count_drop hl h
    omega
  · rintro f listed a v ⟨_, hc, hf, h⟩
    exact ready_ne hel ⟨ps.length, by omega, h⟩ (by rw [hc.ls]; exact Nat.le_refl _)
  · rintro f listed a v i ⟨rfl, hc, hf, h⟩ hi K hK
    have hr := hi
    rw [Region.ready, List.mem_filter, List.mem_range, Bool.and_eq_true] at hr
    have hil := hr.1
    have hif : listed.getD i true = false := by simpa using hr.2.1
    have hls : i < listed.size := by rw [hc.ls]; exact hil
    have hcd := count_drop hls hif
    by_cases hie : i = ps.length
    · subst hie
      have hall2 : ∀ j, j < ps.length → listed.getD j false = true := fun j hj => waits_of hi (List.all_eq_true.1 hw j (List.mem_range.2 hj))
      rw [hc.fin hnd hk hall2]
      refine hlast K (fun a' w' hq => hK _ _ (Or.inr ⟨ready_nil (fun j hj => ?_), hq⟩))
      rw [getD_set _ hls]
      by_cases e : j = ps.length
      · rw [if_pos e]
      · rw [if_neg e]
        have := hall2 j (by omega)
        have hj2 : j < listed.size := by rw [hc.ls]; exact hj
        rw [Array.getD_eq_getD_getElem?, Array.getElem?_eq_getElem hj2] at this ⊢
        exact this
    · obtain ⟨⟨d, v2⟩, hp⟩ : ∃ p, ps[i]? = some p := ⟨_, List.getElem?_eq_getElem (by omega)⟩
      refine hop i d v2 hp a K (fun t ht => hc.no t (fun j d' v' hj _ => ht (d', v') (List.mem_of_getElem? hj))) (fun j hj d' v' hp' => hc.yes j d' v' hp' (waits_of hi hj)) (hK _ _ (Or.inl ⟨rfl, hc.put hnd hp hil (hk _ _ _ hp), by omega, ?_⟩))
      rw [getD_set _ hls, if_neg (fun e => hie e.symm)]
      exact h
end
end Go.Proofs.Ytabahmcbhapbiaa

namespace Go.Proofs.Ytabahmcbhapbiaa
open Go.RowKit Go.Lib Go.Shelf
set_option linter.unusedVariables false
attribute [local go_sem] Oper.semAt_some
/-- What a body must achieve that never panics. -/
def postN (fn : Func) (R : Ending → World → Prop) : Exit → Act → World → Prop
  | .normal, a, w | .ret, a, w => LeavesInM Fence.wide 0 Try.prog fn a.tmps R a.defers .returning w
  | _, _, _ => False
theorem postN_body {fn : Func} {R : Ending → World → Prop} : ∀ e a w, postN fn R e a w → bodyPostM Fence.wide 0 Try.prog fn R e a w
  | .normal, _, _, h | .ret, _, _, h => h
  | .panic _, _, _, h => h.elim
  | .outgrown, _, _, h => h.elim
  | .exit _, _, _, h => h.elim
  | .goto _, _, _, h => h.elim
/-- The first range: all that came is the history's, and not more than is wanted. -/
def TdJ (W7 : World) (nb ob : Nat) (h : List Op4) (most : Nat) (T : Nat → Prop) (pre : List Op4) (W : World) : Prop := TdI W7 nb ob T (pre.length : Int) true W ∧ pre <+: h ∧ pre.length ≤ most
theorem TdJ.stable {W7 : World} {nb ob : Nat} {h : List Op4} {most : Nat} : Stable (TdJ W7 nb ob h most) := fun T T' s W W' hi ht hT => ⟨hi.1.turn ht hT, hi.2⟩
/-- How it is left: enough has come; or an alien op came. -/
def TdX (W7 : World) (nb ob : Nat) (h : List Op4) (most : Nat) (c : Code) (T : Nat → Prop) (pre : List Op4) (W : World) : Prop := (c = .exit 0 ∧ TdI W7 nb ob T (most : Int) true W) ∨ ¬ pre <+: h
theorem TdX.stable {W7 : World} {nb ob : Nat} {h : List Op4} {most : Nat} (c : Code) : Stable (TdX W7 nb ob h most c) := fun T T' s W W' hi ht hT => hi.imp (fun x => ⟨x.1, x.2.turn ht hT⟩) id
theorem pre_next {pre h : List Op4} {x : Op4} (hp : pre <+: h) (hl : pre.length < h.length) : (x = h[pre.length] ∧ pre ++ [x] <+: h) ∨ (x ≠ h[pre.length] ∧ ¬ pre ++ [x] <+: h) := by
  obtain ⟨r, rfl⟩ := hp
  cases r with
  | nil => simp at hl
  | cons y r =>
    by_cases e : x = y
    · subst e
      exact Or.inl ⟨by simp, ⟨r, by simp⟩⟩
    · refine Or.inr ⟨by simpa using e, fun ⟨s, hs⟩ => e ?_⟩
      have := congrArg (fun l => l[pre.length]?) hs
      simpa using this
set_option maxRecDepth 100000 in
set_option maxHeartbeats 8000000 in
theorem told_any {W : World} {xb rb : Nat} {m : Moo} {own : Nat → Prop} (h : PairAt W xb m rb m own) (hF : FewL m) (raw : Int) (hraw : I64 raw) :
    Calls Try.prog 57 #[.agg #[.pointer (some ⟨xb, 0, none⟩), .pointer (some ⟨rb, 0, none⟩)], .int .i64 raw] W fun e w' => e = .returned (.bool true) ∧ Below W.heap.size W w' := by
  have hlen : m.hist.length ≤ 1500000000000 := hF
  have HP : Hid (∀ W, Calls Try.prog 50 #[.int .i64 raw, .int .i64 ((m.hist.length + 1 : Nat) : Int)] W fun e w' => e = .returned (.int .i64 (pickN raw (m.hist.length + 1) : Int)) ∧ W = w') := fun W => lpick_any raw hraw _ (by omega) (by omega) W
  have hmost := pickN_lt raw (n := m.hist.length + 1) (by omega)
  generalize pickN raw (m.hist.length + 1) = most at *
  have HS : Hid (∀ W7, W7 = _ → _) := fun W7 hW7 => told_start (W7 := W7) h (by omega) (most : Int) hW7
  have HHis := hidP (fun Wx => history_any (some ⟨xb, 0, none⟩) Wx)
  obtain ⟨ha0, hc0, hr6, lrb⟩ : ∃ ha hc, W.cell? ⟨rb, 6, none⟩ = some (.slice ha m.hist.length hc) ∧ rb < W.heap.size := by
    obtain ⟨_, _, Lr, ow, _, hr, _, _⟩ := h
    obtain ⟨⟨_, _, _, _, _, _, a6⟩, _⟩ := hr.pc 0 0 (fun _ => rfl)
    obtain ⟨ha, hc, hhv⟩ := rowq_len (show RowQ W 4 Lr.hv (flat4 m.hist) Lr.hg from hr.pc 6 0 (fun _ => rfl))
    rw [hhv] at a6
    exact ⟨ha, hc, a6, block_lt_of_cell a6⟩
  have hfn := func_nil
  rw [Int.natCast_add] at HP
  clear h hF hraw
  refine (callsIn_wide (n := 0)).1 (callsIn_of_wp_marks Try.func57 rfl trivial (wpIn_wide.2 (Code.wp_mono postN_body ?_)) rfl)
  simp only [Try.ntmps57, List.size_toArray, List.length_cons, List.length_nil, Nat.reduceAdd, Nat.reduceSub, Array.replicate_succ, Array.replicate_zero, List.push_toArray, List.append_toArray, List.nil_append, List.cons_append]
  go_wp2_with (first | (go_at_call 50; refine (HP.out _).mono ?_; rintro e w1 ⟨rfl, rfl⟩) | (go_at_call 24; refine (HHis.out _).mono ?_; rintro e w4 ⟨rfl, rfl⟩))
  obtain ⟨vd, ha, hc, hR, hI0, hz, hb7, hseq⟩ := HS.out _ rfl
  generalize hW7 : World.alloc _ _ = W7 at *
  generalize hA0 : (Act.mk _ _) = A0
  rename_i K hKK
  have HK : ∀ (D : Nat) (T : Nat → Prop) (W9 : World), W7.heap.size ≤ D → TdI W7 (W.heap.size + 1 + 1 + 1) (W.heap.size + 1 + 1 + 1 + 1) T (most : Int) true W9 → W9.heap[D]? = some (.deferred (some [])) → K { A0 with defers := { target := .collected D, args := #[] } :: A0.defers } W9 := by
    intro D T W9 hD hi9 hDd
    refine hKK _ _ ?_
    subst hA0
    have n0 := hi9.n0
    have nf := hi9.nf
    have o0 := hi9.o0
    have mo := (hi9.cell (p := ⟨W.heap.size + 1 + 1, 0, none⟩) (by show W.heap.size + 1 + 1 < _; omega) (by show W.heap.size + 1 + 1 ≠ _; omega) (by show W.heap.size + 1 + 1 ≠ _; omega)).trans hR.mo
    have hi10 := hi9.setN 0
    have hD10 : (W9.setCell ⟨W.heap.size + 1 + 1 + 1, 0, none⟩ (.int .i64 0)).heap[D]? = some (.deferred (some [])) := (Below.heap_setCell _ _ _ _ (by show D ≠ W.heap.size + 1 + 1 + 1; omega)).trans hDd
    go_wp2_with fail
    generalize W9.setCell ⟨W.heap.size + 1 + 1 + 1, 0, none⟩ (.int .i64 0) = W10 at *
    have hz10 := hi10.sz
    have hDl : D < W10.heap.size := (Array.getElem?_eq_some_iff.1 hD10).1
    clear n0 nf o0 mo hDd
    generalize hA2 : (Act.mk _ _) = A2
    refine (wpIn_wide (n := 0)).1 ?_
    refine range_T (P := Try.prog) (gf := 41) (lb := #[.pointer (some ⟨W.heap.size + 1 + 1 + 1 + 1 + 1, 0, none⟩)]) (by rw [← hA2]; rfl) (enters_of Try.func41 (by kernel_rfl) rfl) (hseq _ _ _ _ hi10).2 (Below.refl _ _) (fun _ => rfl) (fun T2 pre W1 => TdI W10 (W.heap.size + 1 + 1 + 1) (W.heap.size + 1 + 1 + 1 + 1) T2 (pre.length : Int) true W1 ∧ pre <+: m.hist) (fun _ _ pre _ => ¬ pre <+: m.hist) (fun T T' s A B hi ht hT => ⟨hi.1.turn ht hT, hi.2⟩) (fun _ _ _ _ _ _ h _ _ => h) (fun T2 pre W1 hi => (hseq _ _ _ _ (hi10.trans hi.1)).1) ⟨hi10.here, List.nil_prefix⟩
      (fun x a' T W => ∃ bx, a' = { tmps := (A2.tmps.setIfInBounds 65 (.agg #[.int .i64 x.k, .int .i64 x.p, .int .i64 x.b, .int .i64 x.s])).setIfInBounds 10 (.pointer (some ⟨bx, 0, none⟩)), defers := [] } ∧ Op4At W bx 0 x ∧ bx < W.heap.size ∧ ¬ T bx) (fun x a' T A B hx ht => ?_) ?assign ?body ?done ?stop
    · obtain ⟨bx, e, h1, h2, h3⟩ := hx
      exact ⟨bx, e, op4at_turnT ht h2 h3 h1, Nat.lt_of_lt_of_le h2 ht.size, h3⟩
    case stop => exact fun D2 c T2 pre A hD2 tD hT hp hx hK => absurd hp hx
    case assign =>
      intro l2 T2 pre x A K hi hl hT hK
      subst hA2
      dsimp only [enc4]
      gi_wp2
      refine hK _ _ (bel_alloc (Below.refl _ _) _) ⟨A.heap.size, ?_, op4at_new A x _, by simp, fun e => by have := hT _ e; omega⟩
      first | rfl | simp
    case body =>
      intro l2 T2 pre x a' A hl hT hi hx hlt8
      obtain ⟨bx, rfl, ⟨z0, z1, z2, z3⟩, h2, h3⟩ := hx
      subst hA2
      obtain ⟨hi, hpre⟩ := hi
      have hi7 := hi10.trans hi
      have n0 := hi7.n0
      have nf := hi7.nf
      have p1 := (hi7.cell (p := ⟨W.heap.size, 1, none⟩) (by show W.heap.size < _; omega) (by show W.heap.size ≠ _; omega) (by show W.heap.size ≠ _; omega)).trans hR.p1
      have lrb2 := hR.rl
      have r6 := (hi7.cell (p := ⟨rb, 6, none⟩) (by show rb < _; omega) (by show rb ≠ _; omega) (by show rb ≠ _; omega)).trans hR.r6
      have rc1 := (hi7.cell (p := ⟨W.heap.size + 1, 0, none⟩) (by show W.heap.size + 1 < _; omega) (by show W.heap.size + 1 ≠ _; omega) (by show W.heap.size + 1 ≠ _; omega)).trans hR.rc
      have rf1 := (hi7.frz (p := ⟨W.heap.size + 1, 0, none⟩) (by show W.heap.size + 1 < _; omega) (by show W.heap.size + 1 ≠ _; omega) (by show W.heap.size + 1 ≠ _; omega)).trans hR.rf
      obtain ⟨gb, off, hha, hgb, hop⟩ := hR.el pre.length hlt8
      have hop2 := hi7.op4 hop (by omega) (by omega) (by omega)
      subst hha
      have hli : (pre.length : Int) < (m.hist.length : Int) := by omega
      have hlg : ¬ m.hist.length ≤ pre.length := by omega
      have hnx := pre_next (x := x) hpre hlt8
      generalize m.hist[pre.length] = y at *
      obtain ⟨y0, y1, y2, y3⟩ := hop2
      gi_wp2
      generalize hA1 : (Act.mk _ _) = A1
      refine wpIn_region_any hmx ?_
      refine calm_reads (ps := [(66, .int .i64 (pre.length : Int)), (67, .pointer (some ⟨W.heap.size, 1, none⟩)), (68, .pointer (some ⟨rb, 0, none⟩)), (69, .pointer (some ⟨rb, 0, none⟩)), (70, .pointer (some ⟨rb, 6, none⟩)), (71, .slice (some ⟨gb, off, none⟩) m.hist.length hc), (72, .int .i64 (m.hist.length : Int)), (73, .bool false), (74, .bool false), (75, .agg #[.int .i64 x.k, .int .i64 x.p, .int .i64 x.b, .int .i64 x.s]), (76, .pointer (some ⟨W.heap.size, 1, none⟩)), (77, .pointer (some ⟨rb, 0, none⟩)), (78, .pointer (some ⟨rb, 0, none⟩)), (79, .pointer (some ⟨rb, 6, none⟩)), (80, .slice (some ⟨gb, off, none⟩) m.hist.length hc), (81, .int .i64 (pre.length : Int)), (82, .pointer (some ⟨gb, off + pre.length * 4, none⟩)), (83, .agg #[.int .i64 y.k, .int .i64 y.p, .int .i64 y.b, .int .i64 y.s]), (84, .bool (!sameB x y)), (85, .bool (!sameB x y))]) rfl (by kernel_rfl) (by simp) ?hk ?hop (by decide) ?hfin
      case hk =>
        intro j d v hj
        have hmem := List.mem_of_getElem? hj
        subst hA1
        simp at hmem ⊢
        rcases hmem with ⟨rfl, _⟩ | ⟨rfl, _⟩ | ⟨rfl, _⟩ | ⟨rfl, _⟩ | ⟨rfl, _⟩ | ⟨rfl, _⟩ | ⟨rfl, _⟩ | ⟨rfl, _⟩ | ⟨rfl, _⟩ | ⟨rfl, _⟩ | ⟨rfl, _⟩ | ⟨rfl, _⟩ | ⟨rfl, _⟩ | ⟨rfl, _⟩ | ⟨rfl, _⟩ | ⟨rfl, _⟩ | ⟨rfl, _⟩ | ⟨rfl, _⟩ | ⟨rfl, _⟩ | ⟨rfl, _⟩
        all_goals omega
      case hop =>
        intro i d v hj
        have hin : i < 20 := (List.getElem?_eq_some_iff.1 hj).1
        have hi11 : i = 0 ∨ i = 1 ∨ i = 2 ∨ i = 3 ∨ i = 4 ∨ i = 5 ∨ i = 6 ∨ i = 7 ∨ i = 8 ∨ i = 9 ∨ i = 10 ∨ i = 11 ∨ i = 12 ∨ i = 13 ∨ i = 14 ∨ i = 15 ∨ i = 16 ∨ i = 17 ∨ i = 18 ∨ i = 19 := by omega
        clear hin
        rcases hi11 with rfl | rfl | rfl | rfl | rfl | rfl | rfl | rfl | rfl | rfl | rfl | rfl | rfl | rfl | rfl | rfl | rfl | rfl | rfl | rfl
        · cases hj
          intro a K hs1 hs2 hK
          have h6 : a.tmps[6]? = some (.pointer (some ⟨W.heap.size + 1 + 1 + 1, 0, none⟩)) := (hs1 6 (by simp)).trans (by subst hA1; rfl)
          clear hs1 hs2
          refine wpOpIn_step rfl (fun K2 hK2 => ?_)
          simp [go_sem, Region.wanted, Oper.wpIn, Oper.about, Act.eval, Array.getD_eq_getD_getElem?, h6, n0]
          exact hK2 _ _ hK
        · cases hj
          intro a K hs1 hs2 hK
          have h2 : a.tmps[2]? = some (.pointer (some ⟨W.heap.size, 0, none⟩)) := (hs1 2 (by simp)).trans (by subst hA1; rfl)
          clear hs1 hs2
          refine wpOpIn_step rfl (fun K2 hK2 => ?_)
          simp [go_sem, Region.wanted, Oper.wpIn, Oper.about, Act.eval, Array.getD_eq_getD_getElem?, h2]
          exact hK2 _ _ hK
        · cases hj
          intro a K hs1 hs2 hK
          have h67 : a.tmps[67]? = some (.pointer (some ⟨W.heap.size, 1, none⟩)) := hs2 1 (by kernel_rfl) 67 _ rfl
          clear hs1 hs2
          refine wpOpIn_step rfl (fun K2 hK2 => ?_)
          simp [go_sem, Region.wanted, Oper.wpIn, Oper.about, Act.eval, Array.getD_eq_getD_getElem?, h67, p1]
          exact hK2 _ _ hK
        · cases hj
          intro a K hs1 hs2 hK
          have h68 : a.tmps[68]? = some (.pointer (some ⟨rb, 0, none⟩)) := hs2 2 (by kernel_rfl) 68 _ rfl
          clear hs1 hs2
          refine wpOpIn_step rfl (fun K2 hK2 => ?_)
          simp [go_sem, Region.wanted, Oper.wpIn, Oper.about, Act.eval, Array.getD_eq_getD_getElem?, h68]
          exact hK2 _ _ hK
        · cases hj
          intro a K hs1 hs2 hK
          have h69 : a.tmps[69]? = some (.pointer (some ⟨rb, 0, none⟩)) := hs2 3 (by kernel_rfl) 69 _ rfl
          clear hs1 hs2
          refine wpOpIn_step rfl (fun K2 hK2 => ?_)
          simp [go_sem, Region.wanted, Oper.wpIn, Oper.about, Act.eval, Array.getD_eq_getD_getElem?, h69]
          exact hK2 _ _ hK
        · cases hj
          intro a K hs1 hs2 hK
          have h70 : a.tmps[70]? = some (.pointer (some ⟨rb, 6, none⟩)) := hs2 4 (by kernel_rfl) 70 _ rfl
          clear hs1 hs2
          refine wpOpIn_step rfl (fun K2 hK2 => ?_)
          simp [go_sem, Region.wanted, Oper.wpIn, Oper.about, Act.eval, Array.getD_eq_getD_getElem?, h70, r6]
          exact hK2 _ _ hK
        · cases hj
          intro a K hs1 hs2 hK
          have h71 : a.tmps[71]? = some (.slice (some ⟨gb, off, none⟩) m.hist.length hc) := hs2 5 (by kernel_rfl) 71 _ rfl
          clear hs1 hs2
          refine wpOpIn_step rfl (fun K2 hK2 => ?_)
          simp [go_sem, Region.wanted, Oper.wpIn, Oper.about, Act.eval, Array.getD_eq_getD_getElem?, h71]
          exact hK2 _ _ hK
        · cases hj
          intro a K hs1 hs2 hK
          have h66 : a.tmps[66]? = some (.int .i64 (pre.length : Int)) := hs2 0 (by kernel_rfl) 66 _ rfl
          have h72 : a.tmps[72]? = some (.int .i64 (m.hist.length : Int)) := hs2 6 (by kernel_rfl) 72 _ rfl
          clear hs1 hs2
          refine wpOpIn_step rfl (fun K2 hK2 => ?_)
          simp [go_sem, Region.wanted, Oper.wpIn, Oper.about, Act.eval, Array.getD_eq_getD_getElem?, h66, h72, hlg]
          exact hK2 _ _ hK
        · cases hj
          intro a K hs1 hs2 hK
          have h73 : a.tmps[73]? = some (.bool false) := hs2 7 (by kernel_rfl) 73 _ rfl
          clear hs1 hs2
          refine wpOpIn_step rfl (fun K2 hK2 => ?_)
          simp [go_sem, Region.wanted, Oper.wpIn, Oper.about, Act.eval, Array.getD_eq_getD_getElem?, h73]
          exact hK2 _ _ hK
        · cases hj
          intro a K hs1 hs2 hK
          have h10 : a.tmps[10]? = some (.pointer (some ⟨bx, 0, none⟩)) := (hs1 10 (by simp)).trans (by subst hA1; rfl)
          have h74 : a.tmps[74]? = some (.bool false) := hs2 8 (by kernel_rfl) 74 _ rfl
          clear hs1 hs2
          refine wpOpIn_step rfl (fun K2 hK2 => ?_)
          simp [go_sem, Region.wanted, yielded, Oper.wpIn, Oper.about, Act.eval, Array.getD_eq_getD_getElem?, h10, h74, z0, z1, z2, z3]
          exact hK2 _ _ hK
        · cases hj
          intro a K hs1 hs2 hK
          have h2 : a.tmps[2]? = some (.pointer (some ⟨W.heap.size, 0, none⟩)) := (hs1 2 (by simp)).trans (by subst hA1; rfl)
          have h74 : a.tmps[74]? = some (.bool false) := hs2 8 (by kernel_rfl) 74 _ rfl
          clear hs1 hs2
          refine wpOpIn_step rfl (fun K2 hK2 => ?_)
          simp [go_sem, Region.wanted, yielded, Oper.wpIn, Oper.about, Act.eval, Array.getD_eq_getD_getElem?, h2, h74]
          exact hK2 _ _ hK
        · cases hj
          intro a K hs1 hs2 hK
          have h74 : a.tmps[74]? = some (.bool false) := hs2 8 (by kernel_rfl) 74 _ rfl
          have h76 : a.tmps[76]? = some (.pointer (some ⟨W.heap.size, 1, none⟩)) := hs2 10 (by kernel_rfl) 76 _ rfl
          clear hs1 hs2
          refine wpOpIn_step rfl (fun K2 hK2 => ?_)
          simp [go_sem, Region.wanted, yielded, Oper.wpIn, Oper.about, Act.eval, Array.getD_eq_getD_getElem?, h74, h76, p1]
          exact hK2 _ _ hK
        · cases hj
          intro a K hs1 hs2 hK
          have h74 : a.tmps[74]? = some (.bool false) := hs2 8 (by kernel_rfl) 74 _ rfl
          have h77 : a.tmps[77]? = some (.pointer (some ⟨rb, 0, none⟩)) := hs2 11 (by kernel_rfl) 77 _ rfl
          clear hs1 hs2
          refine wpOpIn_step rfl (fun K2 hK2 => ?_)
          simp [go_sem, Region.wanted, yielded, Oper.wpIn, Oper.about, Act.eval, Array.getD_eq_getD_getElem?, h74, h77]
          exact hK2 _ _ hK
        · cases hj
          intro a K hs1 hs2 hK
          have h74 : a.tmps[74]? = some (.bool false) := hs2 8 (by kernel_rfl) 74 _ rfl
          have h78 : a.tmps[78]? = some (.pointer (some ⟨rb, 0, none⟩)) := hs2 12 (by kernel_rfl) 78 _ rfl
          clear hs1 hs2
          refine wpOpIn_step rfl (fun K2 hK2 => ?_)
          simp [go_sem, Region.wanted, yielded, Oper.wpIn, Oper.about, Act.eval, Array.getD_eq_getD_getElem?, h74, h78]
          exact hK2 _ _ hK
        · cases hj
          intro a K hs1 hs2 hK
          have h74 : a.tmps[74]? = some (.bool false) := hs2 8 (by kernel_rfl) 74 _ rfl
          have h79 : a.tmps[79]? = some (.pointer (some ⟨rb, 6, none⟩)) := hs2 13 (by kernel_rfl) 79 _ rfl
          clear hs1 hs2
          refine wpOpIn_step rfl (fun K2 hK2 => ?_)
          simp [go_sem, Region.wanted, yielded, Oper.wpIn, Oper.about, Act.eval, Array.getD_eq_getD_getElem?, h74, h79, r6]
          exact hK2 _ _ hK
        · cases hj
          intro a K hs1 hs2 hK
          have h6 : a.tmps[6]? = some (.pointer (some ⟨W.heap.size + 1 + 1 + 1, 0, none⟩)) := (hs1 6 (by simp)).trans (by subst hA1; rfl)
          have h74 : a.tmps[74]? = some (.bool false) := hs2 8 (by kernel_rfl) 74 _ rfl
          clear hs1 hs2
          refine wpOpIn_step rfl (fun K2 hK2 => ?_)
          simp [go_sem, Region.wanted, yielded, Oper.wpIn, Oper.about, Act.eval, Array.getD_eq_getD_getElem?, h6, h74, n0]
          exact hK2 _ _ hK
        · cases hj
          intro a K hs1 hs2 hK
          have h74 : a.tmps[74]? = some (.bool false) := hs2 8 (by kernel_rfl) 74 _ rfl
          have h80 : a.tmps[80]? = some (.slice (some ⟨gb, off, none⟩) m.hist.length hc) := hs2 14 (by kernel_rfl) 80 _ rfl
          have h81 : a.tmps[81]? = some (.int .i64 (pre.length : Int)) := hs2 15 (by kernel_rfl) 81 _ rfl
          clear hs1 hs2
          refine wpOpIn_step rfl (fun K2 hK2 => ?_)
          simp [go_sem, Region.wanted, yielded, Oper.wpIn, Oper.about, Act.eval, Array.getD_eq_getD_getElem?, h74, h80, h81, hli]
          exact hK2 _ _ hK
        · cases hj
          intro a K hs1 hs2 hK
          have h74 : a.tmps[74]? = some (.bool false) := hs2 8 (by kernel_rfl) 74 _ rfl
          have h82 : a.tmps[82]? = some (.pointer (some ⟨gb, off + pre.length * 4, none⟩)) := hs2 16 (by kernel_rfl) 82 _ rfl
          clear hs1 hs2
          refine wpOpIn_step rfl (fun K2 hK2 => ?_)
          simp [go_sem, Region.wanted, yielded, Oper.wpIn, Oper.about, Act.eval, Array.getD_eq_getD_getElem?, h74, h82, y0, y1, y2, y3]
          exact hK2 _ _ hK
        · cases hj
          intro a K hs1 hs2 hK
          have h74 : a.tmps[74]? = some (.bool false) := hs2 8 (by kernel_rfl) 74 _ rfl
          have h75 : a.tmps[75]? = some (.agg #[.int .i64 x.k, .int .i64 x.p, .int .i64 x.b, .int .i64 x.s]) := hs2 9 (by kernel_rfl) 75 _ rfl
          have h83 : a.tmps[83]? = some (.agg #[.int .i64 y.k, .int .i64 y.p, .int .i64 y.b, .int .i64 y.s]) := hs2 17 (by kernel_rfl) 83 _ rfl
          clear hs1 hs2
          refine wpOpIn_step rfl (fun K2 hK2 => ?_)
          simp [go_sem, Region.wanted, yielded, Oper.wpIn, Oper.about, Act.eval, Array.getD_eq_getD_getElem?, h74, h75, h83]
          rw [sameB_not]
          exact hK2 _ _ hK
        · cases hj
          intro a K hs1 hs2 hK
          have h74 : a.tmps[74]? = some (.bool false) := hs2 8 (by kernel_rfl) 74 _ rfl
          have h84 : a.tmps[84]? = some (.bool (!sameB x y)) := hs2 18 (by kernel_rfl) 84 _ rfl
          clear hs1 hs2
          refine wpOpIn_step rfl (fun K2 hK2 => ?_)
          simp [go_sem, Region.wanted, Oper.wpIn, Oper.about, Act.eval, Array.getD_eq_getD_getElem?, h74, h84]
          exact hK2 _ _ hK
      case hfin =>
        subst hA1
        simp only [doneT, List.foldl, List.setIfInBounds_toArray, List.set_cons_zero, List.set_cons_succ]
        have hi2 := hi.below (Below.refl _ A).drew
        have hk2 : KeepT T2 A A.drew := KeepT.of_below (Below.refl _ A).drew
        obtain ⟨V, hV⟩ : ∃ V, V = A.drew := ⟨_, rfl⟩
        have n2 := hi2.n0
        have nf2 := hi2.nf
        have rc2 : A.drew.cell? ⟨W.heap.size + 1, 0, none⟩ = some (.bool false) := rc1
        have rf2 : A.drew.frozen? ⟨W.heap.size + 1, 0, none⟩ = false := rf1
        change Exit.then _ _ _ _ A.drew
        rw [← hV] at hi2 hk2 n2 nf2 rc2 rf2 ⊢
        have hi3 := hi2.setN ((pre.length : Int) + 1)
        have hk3 := hk2.trans (hi2.keepN (.int .i64 ((pre.length : Int) + 1)))
        have hk4 : KeepT T2 A (V.setCell ⟨W.heap.size + 1, 0, none⟩ (.bool false)) := hk2.trans ⟨by simp [World.setCell], fun k e _ => Below.heap_setCell _ _ _ _ (fun e2 => by have := hi.tt k e; have e3 : k = W.heap.size + 1 := e2; omega)⟩
        clear hV n0 nf p1 r6 y0 y1 y2 y3 z0 z1 z2 z3 hop rc1 rf1
        have hlen2 : (pre.length : Int) ≤ 1500000000000 := by omega
        have hcx : sameB x y = true → pre ++ [x] <+: m.hist := fun e => hnx.elim (fun h => h.2) (fun h => absurd ((sameB_iff x y).1 e) h.1)
        have hcy : sameB x y = false → ¬ pre ++ [x] <+: m.hist := fun e => hnx.elim (fun h => by rw [(sameB_iff x y).2 h.1] at e; cases e) (fun h => h.2)
        clear hnx
        generalize sameB x y = cb at *
        cases cb
        · gi_wp2
          exact ⟨hk4, hcy trivial⟩
        · gi_wp2
          refine ⟨hk3, ?_, hcx trivial⟩
          rw [List.length_append, List.length_singleton]
          exact hi3
    case done =>
      rintro D2 T2 xs A hD2 tD2 hT rfl hi hK2
      subst hA2
      obtain ⟨hi, _⟩ := hi
      have hi7 := hi10.trans hi
      have n0 := hi7.n0
      have p1 := (hi7.cell (p := ⟨W.heap.size, 1, none⟩) (by show W.heap.size < _; omega) (by show W.heap.size ≠ _; omega) (by show W.heap.size ≠ _; omega)).trans hR.p1
      have lrb2 := hR.rl
      have r6 := (hi7.cell (p := ⟨rb, 6, none⟩) (by show rb < _; omega) (by show rb ≠ _; omega) (by show rb ≠ _; omega)).trans hR.r6
      have rc1 := (hi7.cell (p := ⟨W.heap.size + 1, 0, none⟩) (by show W.heap.size + 1 < _; omega) (by show W.heap.size + 1 ≠ _; omega) (by show W.heap.size + 1 ≠ _; omega)).trans hR.rc
      have rf1 := (hi7.frz (p := ⟨W.heap.size + 1, 0, none⟩) (by show W.heap.size + 1 < _; omega) (by show W.heap.size + 1 ≠ _; omega) (by show W.heap.size + 1 ≠ _; omega)).trans hR.rf
      have hD9 : A.heap[D]? = some (.deferred (some [])) := (hi.blk D hDl (by omega) (by omega)).trans hD10
      go_wp2_with fail
      go_region
      all_goals go_wp2
      all_goals
        have hrs : ∀ k, k ≠ W.heap.size + 1 → ((A.setCell ⟨W.heap.size + 1, 0, none⟩ (.bool true)).drew).heap[k]? = A.heap[k]? := fun k hk => Below.heap_setCell _ _ _ _ hk
        have hxc : ((A.setCell ⟨W.heap.size + 1, 0, none⟩ (.bool true)).drew).cell? ⟨W.heap.size + 1, 0, none⟩ = some (.bool true) := World.cell?_setCell_same _ _ _ rc1
        have hxs : A.heap.size ≤ ((A.setCell ⟨W.heap.size + 1, 0, none⟩ (.bool true)).drew).heap.size := by show A.heap.size ≤ (A.setCell ⟨W.heap.size + 1, 0, none⟩ (.bool true)).heap.size; simp [World.setCell]
        have hx2 := (hrs D2 (by omega)).trans hK2
        have hx1 := (hrs D (by omega)).trans hD9
        have hdd : D ≠ D2 := by omega
        refine ⟨by simp, .inl ⟨_, _, rfl, run_takeDeferred hx2, ?_⟩⟩
        refine ⟨by simp, .inl ⟨_, _, rfl, run_takeDeferred ((World.putObj_heap_other hdd).trans hx1), ?_⟩⟩
        have hfh : ∀ k, k ≠ D → k ≠ D2 → ((((A.setCell ⟨W.heap.size + 1, 0, none⟩ (.bool true)).drew).putObj D2 (.deferred none)).putObj D (.deferred none)).heap[k]? = ((A.setCell ⟨W.heap.size + 1, 0, none⟩ (.bool true)).drew).heap[k]? := fun k h1 h2 => (World.putObj_heap_other h1).trans (World.putObj_heap_other h2)
        have hfc : ((((A.setCell ⟨W.heap.size + 1, 0, none⟩ (.bool true)).drew).putObj D2 (.deferred none)).putObj D (.deferred none)).cell? ⟨W.heap.size + 1, 0, none⟩ = some (.bool true) := (World.cell?_of_block (a := ⟨W.heap.size + 1, 0, none⟩) (hfh (W.heap.size + 1) (by omega) (by omega))).trans hxc
        refine ⟨.bool true, ?_, rfl, ?_⟩
        · simp [results, Try.results57, go_sem, hfc]
        · refine ⟨hi7.os.trans hb7.os, hi7.tape.trans hb7.tape, hi7.output.trans hb7.output, ?_, fun k hk => ?_⟩
          · rw [World.putObj_size, World.putObj_size]
            have := hi7.sz
            omega
          · exact ((hfh k (by omega) (by omega)).trans (hrs k (by omega))).trans ((hi7.blk k (by omega) (by omega) (by omega)).trans (hb7.block k hk))
  refine (wpIn_wide (n := 0)).1 ?_
  refine range_T (P := Try.prog) (gf := 41) (lb := #[.pointer (some ⟨W.heap.size + 1 + 1 + 1 + 1 + 1, 0, none⟩)]) (by rw [← hA0]; rfl) (enters_of Try.func41 (by kernel_rfl) rfl) (hseq _ _ _ _ hI0).2 (Below.refl _ _) (fun _ => rfl) (TdJ W7 (W.heap.size + 1 + 1 + 1) (W.heap.size + 1 + 1 + 1 + 1) m.hist most) (TdX W7 (W.heap.size + 1 + 1 + 1) (W.heap.size + 1 + 1 + 1 + 1) m.hist most) TdJ.stable TdX.stable (fun T pre W1 hi => (hseq _ _ _ _ hi.1).1) ⟨hI0, List.nil_prefix, Nat.zero_le _⟩
    (fun x a' T W => ∃ bx, a' = { tmps := (A0.tmps.setIfInBounds 26 (.agg #[.int .i64 x.k, .int .i64 x.p, .int .i64 x.b, .int .i64 x.s])).setIfInBounds 9 (.pointer (some ⟨bx, 0, none⟩)), defers := [] } ∧ Op4At W bx 0 x ∧ bx < W.heap.size ∧ ¬ T bx ∧ W7.heap.size ≤ bx) (fun x a' T A B hx ht => ?_) ?assign ?body ?done ?stop
  · obtain ⟨bx, e, h1, h2, h3, h4⟩ := hx
    exact ⟨bx, e, op4at_turnT ht h2 h3 h1, Nat.lt_of_lt_of_le h2 ht.size, h3, h4⟩
  case stop =>
    rintro D c T pre A hD tD hT hp (⟨rfl, hi⟩ | hx) hK
    · exact wpIn_exit (HK D T A hD hi hK)
    · exact absurd hp hx
  case done =>
    rintro D T xs A hD tD hT rfl hi hK
    have e : m.hist.length = most := by have := hi.2.2; omega
    have h1 := hi.1
    rw [e] at h1
    exact HK D T A hD h1 hK
  case assign =>
    intro l2 T pre x A K hi hl hT hK
    subst hA0
    dsimp only [enc4]
    gi_wp2
    refine hK _ _ (bel_alloc (Below.refl _ _) _) ⟨A.heap.size, ?_, op4at_new A x _, by simp, fun e => by have := hT _ e; omega, hi.1.sz⟩
    first | rfl | simp
  case body =>
    intro l2 T pre x a' A hl hT hi hx hlt8
    obtain ⟨bx, rfl, ⟨z0, z1, z2, z3⟩, h2, h3, h4⟩ := hx
    subst hA0
    obtain ⟨hi, hpre, hpm⟩ := hi
    have n0 := hi.n0
    have o0 := hi.o0
    have nf := hi.nf
    have of := hi.of
    have mo := (hi.cell (p := ⟨W.heap.size + 1 + 1, 0, none⟩) (by show W.heap.size + 1 + 1 < _; omega) (by show W.heap.size + 1 + 1 ≠ _; omega) (by show W.heap.size + 1 + 1 ≠ _; omega)).trans hR.mo
    by_cases hm : pre.length = most
    · have hmi : (pre.length : Int) = (most : Int) := by omega
      gi_wp2
      exact ⟨KeepT.refl _ _, Or.inl ⟨rfl, by rw [← hmi]; exact hi⟩⟩
    · have hmi : ¬ ((pre.length : Int) = (most : Int)) := by omega
      have p1 := (hi.cell (p := ⟨W.heap.size, 1, none⟩) (by show W.heap.size < _; omega) (by show W.heap.size ≠ _; omega) (by show W.heap.size ≠ _; omega)).trans hR.p1
      have lrb2 := hR.rl
      have r6 := (hi.cell (p := ⟨rb, 6, none⟩) (by show rb < _; omega) (by show rb ≠ _; omega) (by show rb ≠ _; omega)).trans hR.r6
      obtain ⟨gb, off, hha, hgb, hop⟩ := hR.el pre.length hlt8
      have hop2 := hi.op4 hop (by omega) (by omega) (by omega)
      subst hha
      have hli : (pre.length : Int) < (m.hist.length : Int) := by omega
      have hnx := pre_next (x := x) hpre hlt8
      generalize m.hist[pre.length] = y at *
      obtain ⟨y0, y1, y2, y3⟩ := hop2
      gi_wp2
      generalize hA1 : (Act.mk _ _) = A1
      refine wpIn_region_any hmx ?_
      refine calm_store (ps := [(30, .bool true), (31, .bool true), (32, .int .i64 (pre.length : Int)), (33, .pointer (some ⟨W.heap.size, 1, none⟩)), (34, .pointer (some ⟨rb, 0, none⟩)), (35, .pointer (some ⟨rb, 0, none⟩)), (36, .pointer (some ⟨rb, 6, none⟩)), (37, .slice (some ⟨gb, off, none⟩) m.hist.length hc), (38, .int .i64 (m.hist.length : Int)), (39, .bool true), (40, .bool true), (41, .bool true), (42, .agg #[.int .i64 x.k, .int .i64 x.p, .int .i64 x.b, .int .i64 x.s]), (43, .pointer (some ⟨W.heap.size, 1, none⟩)), (44, .pointer (some ⟨rb, 0, none⟩)), (45, .pointer (some ⟨rb, 0, none⟩)), (46, .pointer (some ⟨rb, 6, none⟩)), (47, .slice (some ⟨gb, off, none⟩) m.hist.length hc), (48, .int .i64 (pre.length : Int)), (49, .pointer (some ⟨gb, off + pre.length * 4, none⟩)), (50, .agg #[.int .i64 y.k, .int .i64 y.p, .int .i64 y.b, .int .i64 y.s]), (51, .bool (sameB x y)), (52, .bool (sameB x y))]) rfl (by kernel_rfl) (by simp) ?hk ?hop (by kernel_rfl) ?hlast
      case hk =>
        intro j d v hj
        have hmem := List.mem_of_getElem? hj
        subst hA1
        simp at hmem ⊢
        rcases hmem with ⟨rfl, _⟩ | ⟨rfl, _⟩ | ⟨rfl, _⟩ | ⟨rfl, _⟩ | ⟨rfl, _⟩ | ⟨rfl, _⟩ | ⟨rfl, _⟩ | ⟨rfl, _⟩ | ⟨rfl, _⟩ | ⟨rfl, _⟩ | ⟨rfl, _⟩ | ⟨rfl, _⟩ | ⟨rfl, _⟩ | ⟨rfl, _⟩ | ⟨rfl, _⟩ | ⟨rfl, _⟩ | ⟨rfl, _⟩ | ⟨rfl, _⟩ | ⟨rfl, _⟩ | ⟨rfl, _⟩ | ⟨rfl, _⟩ | ⟨rfl, _⟩ | ⟨rfl, _⟩
        all_goals omega
      case hop =>
        intro i d v hj
        have hin : i < 23 := (List.getElem?_eq_some_iff.1 hj).1
        have hi11 : i = 0 ∨ i = 1 ∨ i = 2 ∨ i = 3 ∨ i = 4 ∨ i = 5 ∨ i = 6 ∨ i = 7 ∨ i = 8 ∨ i = 9 ∨ i = 10 ∨ i = 11 ∨ i = 12 ∨ i = 13 ∨ i = 14 ∨ i = 15 ∨ i = 16 ∨ i = 17 ∨ i = 18 ∨ i = 19 ∨ i = 20 ∨ i = 21 ∨ i = 22 := by omega
        clear hin
        rcases hi11 with rfl | rfl | rfl | rfl | rfl | rfl | rfl | rfl | rfl | rfl | rfl | rfl | rfl | rfl | rfl | rfl | rfl | rfl | rfl | rfl | rfl | rfl | rfl
        · cases hj
          intro a K hs1 hs2 hK
          have h7 : a.tmps[7]? = some (.pointer (some ⟨W.heap.size + 1 + 1 + 1 + 1, 0, none⟩)) := (hs1 7 (by simp)).trans (by subst hA1; rfl)
          clear hs1 hs2
          refine wpOpIn_step rfl (fun K2 hK2 => ?_)
          simp [go_sem, Region.wanted, Oper.wpIn, Oper.about, Act.eval, Array.getD_eq_getD_getElem?, h7, o0]
          exact hK2 _ _ hK
        · cases hj
          intro a K hs1 hs2 hK
          have h30 : a.tmps[30]? = some (.bool true) := hs2 0 (by kernel_rfl) 30 _ rfl
          clear hs1 hs2
          refine wpOpIn_step rfl (fun K2 hK2 => ?_)
          simp [go_sem, Region.wanted, Oper.wpIn, Oper.about, Act.eval, Array.getD_eq_getD_getElem?, h30]
          exact hK2 _ _ hK
        · cases hj
          intro a K hs1 hs2 hK
          have h6 : a.tmps[6]? = some (.pointer (some ⟨W.heap.size + 1 + 1 + 1, 0, none⟩)) := (hs1 6 (by simp)).trans (by subst hA1; rfl)
          have h31 : a.tmps[31]? = some (.bool true) := hs2 1 (by kernel_rfl) 31 _ rfl
          clear hs1 hs2
          refine wpOpIn_step rfl (fun K2 hK2 => ?_)
          simp [go_sem, Region.wanted, yielded, Oper.wpIn, Oper.about, Act.eval, Array.getD_eq_getD_getElem?, h6, h31, n0]
          exact hK2 _ _ hK
        · cases hj
          intro a K hs1 hs2 hK
          have h2 : a.tmps[2]? = some (.pointer (some ⟨W.heap.size, 0, none⟩)) := (hs1 2 (by simp)).trans (by subst hA1; rfl)
          have h31 : a.tmps[31]? = some (.bool true) := hs2 1 (by kernel_rfl) 31 _ rfl
          clear hs1 hs2
          refine wpOpIn_step rfl (fun K2 hK2 => ?_)
          simp [go_sem, Region.wanted, yielded, Oper.wpIn, Oper.about, Act.eval, Array.getD_eq_getD_getElem?, h2, h31]
          exact hK2 _ _ hK
        · cases hj
          intro a K hs1 hs2 hK
          have h31 : a.tmps[31]? = some (.bool true) := hs2 1 (by kernel_rfl) 31 _ rfl
          have h33 : a.tmps[33]? = some (.pointer (some ⟨W.heap.size, 1, none⟩)) := hs2 3 (by kernel_rfl) 33 _ rfl
          clear hs1 hs2
          refine wpOpIn_step rfl (fun K2 hK2 => ?_)
          simp [go_sem, Region.wanted, yielded, Oper.wpIn, Oper.about, Act.eval, Array.getD_eq_getD_getElem?, h31, h33, p1]
          exact hK2 _ _ hK
        · cases hj
          intro a K hs1 hs2 hK
          have h31 : a.tmps[31]? = some (.bool true) := hs2 1 (by kernel_rfl) 31 _ rfl
          have h34 : a.tmps[34]? = some (.pointer (some ⟨rb, 0, none⟩)) := hs2 4 (by kernel_rfl) 34 _ rfl
          clear hs1 hs2
          refine wpOpIn_step rfl (fun K2 hK2 => ?_)
          simp [go_sem, Region.wanted, yielded, Oper.wpIn, Oper.about, Act.eval, Array.getD_eq_getD_getElem?, h31, h34]
          exact hK2 _ _ hK
        · cases hj
          intro a K hs1 hs2 hK
          have h31 : a.tmps[31]? = some (.bool true) := hs2 1 (by kernel_rfl) 31 _ rfl
          have h35 : a.tmps[35]? = some (.pointer (some ⟨rb, 0, none⟩)) := hs2 5 (by kernel_rfl) 35 _ rfl
          clear hs1 hs2
          refine wpOpIn_step rfl (fun K2 hK2 => ?_)
          simp [go_sem, Region.wanted, yielded, Oper.wpIn, Oper.about, Act.eval, Array.getD_eq_getD_getElem?, h31, h35]
          exact hK2 _ _ hK
        · cases hj
          intro a K hs1 hs2 hK
          have h31 : a.tmps[31]? = some (.bool true) := hs2 1 (by kernel_rfl) 31 _ rfl
          have h36 : a.tmps[36]? = some (.pointer (some ⟨rb, 6, none⟩)) := hs2 6 (by kernel_rfl) 36 _ rfl
          clear hs1 hs2
          refine wpOpIn_step rfl (fun K2 hK2 => ?_)
          simp [go_sem, Region.wanted, yielded, Oper.wpIn, Oper.about, Act.eval, Array.getD_eq_getD_getElem?, h31, h36, r6]
          exact hK2 _ _ hK
        · cases hj
          intro a K hs1 hs2 hK
          have h31 : a.tmps[31]? = some (.bool true) := hs2 1 (by kernel_rfl) 31 _ rfl
          have h37 : a.tmps[37]? = some (.slice (some ⟨gb, off, none⟩) m.hist.length hc) := hs2 7 (by kernel_rfl) 37 _ rfl
          clear hs1 hs2
          refine wpOpIn_step rfl (fun K2 hK2 => ?_)
          simp [go_sem, Region.wanted, yielded, Oper.wpIn, Oper.about, Act.eval, Array.getD_eq_getD_getElem?, h31, h37]
          exact hK2 _ _ hK
        · cases hj
          intro a K hs1 hs2 hK
          have h31 : a.tmps[31]? = some (.bool true) := hs2 1 (by kernel_rfl) 31 _ rfl
          have h32 : a.tmps[32]? = some (.int .i64 (pre.length : Int)) := hs2 2 (by kernel_rfl) 32 _ rfl
          have h38 : a.tmps[38]? = some (.int .i64 (m.hist.length : Int)) := hs2 8 (by kernel_rfl) 38 _ rfl
          clear hs1 hs2
          refine wpOpIn_step rfl (fun K2 hK2 => ?_)
          simp [go_sem, Region.wanted, yielded, Oper.wpIn, Oper.about, Act.eval, Array.getD_eq_getD_getElem?, h31, h32, h38, hli]
          exact hK2 _ _ hK
        · cases hj
          intro a K hs1 hs2 hK
          have h31 : a.tmps[31]? = some (.bool true) := hs2 1 (by kernel_rfl) 31 _ rfl
          have h39 : a.tmps[39]? = some (.bool true) := hs2 9 (by kernel_rfl) 39 _ rfl
          clear hs1 hs2
          refine wpOpIn_step rfl (fun K2 hK2 => ?_)
          simp [go_sem, Region.wanted, Oper.wpIn, Oper.about, Act.eval, Array.getD_eq_getD_getElem?, h31, h39]
          exact hK2 _ _ hK
        · cases hj
          intro a K hs1 hs2 hK
          have h40 : a.tmps[40]? = some (.bool true) := hs2 10 (by kernel_rfl) 40 _ rfl
          clear hs1 hs2
          refine wpOpIn_step rfl (fun K2 hK2 => ?_)
          simp [go_sem, Region.wanted, Oper.wpIn, Oper.about, Act.eval, Array.getD_eq_getD_getElem?, h40]
          exact hK2 _ _ hK
        · cases hj
          intro a K hs1 hs2 hK
          have h9 : a.tmps[9]? = some (.pointer (some ⟨bx, 0, none⟩)) := (hs1 9 (by simp)).trans (by subst hA1; rfl)
          have h41 : a.tmps[41]? = some (.bool true) := hs2 11 (by kernel_rfl) 41 _ rfl
          clear hs1 hs2
          refine wpOpIn_step rfl (fun K2 hK2 => ?_)
          simp [go_sem, Region.wanted, yielded, Oper.wpIn, Oper.about, Act.eval, Array.getD_eq_getD_getElem?, h9, h41, z0, z1, z2, z3]
          exact hK2 _ _ hK
        · cases hj
          intro a K hs1 hs2 hK
          have h2 : a.tmps[2]? = some (.pointer (some ⟨W.heap.size, 0, none⟩)) := (hs1 2 (by simp)).trans (by subst hA1; rfl)
          have h41 : a.tmps[41]? = some (.bool true) := hs2 11 (by kernel_rfl) 41 _ rfl
          clear hs1 hs2
          refine wpOpIn_step rfl (fun K2 hK2 => ?_)
          simp [go_sem, Region.wanted, yielded, Oper.wpIn, Oper.about, Act.eval, Array.getD_eq_getD_getElem?, h2, h41]
          exact hK2 _ _ hK
        · cases hj
          intro a K hs1 hs2 hK
          have h41 : a.tmps[41]? = some (.bool true) := hs2 11 (by kernel_rfl) 41 _ rfl
          have h43 : a.tmps[43]? = some (.pointer (some ⟨W.heap.size, 1, none⟩)) := hs2 13 (by kernel_rfl) 43 _ rfl
          clear hs1 hs2
          refine wpOpIn_step rfl (fun K2 hK2 => ?_)
          simp [go_sem, Region.wanted, yielded, Oper.wpIn, Oper.about, Act.eval, Array.getD_eq_getD_getElem?, h41, h43, p1]
          exact hK2 _ _ hK
        · cases hj
          intro a K hs1 hs2 hK
          have h41 : a.tmps[41]? = some (.bool true) := hs2 11 (by kernel_rfl) 41 _ rfl
          have h44 : a.tmps[44]? = some (.pointer (some ⟨rb, 0, none⟩)) := hs2 14 (by kernel_rfl) 44 _ rfl
          clear hs1 hs2
          refine wpOpIn_step rfl (fun K2 hK2 => ?_)
          simp [go_sem, Region.wanted, yielded, Oper.wpIn, Oper.about, Act.eval, Array.getD_eq_getD_getElem?, h41, h44]
          exact hK2 _ _ hK
        · cases hj
          intro a K hs1 hs2 hK
          have h41 : a.tmps[41]? = some (.bool true) := hs2 11 (by kernel_rfl) 41 _ rfl
          have h45 : a.tmps[45]? = some (.pointer (some ⟨rb, 0, none⟩)) := hs2 15 (by kernel_rfl) 45 _ rfl
          clear hs1 hs2
          refine wpOpIn_step rfl (fun K2 hK2 => ?_)
          simp [go_sem, Region.wanted, yielded, Oper.wpIn, Oper.about, Act.eval, Array.getD_eq_getD_getElem?, h41, h45]
          exact hK2 _ _ hK
        · cases hj
          intro a K hs1 hs2 hK
          have h41 : a.tmps[41]? = some (.bool true) := hs2 11 (by kernel_rfl) 41 _ rfl
          have h46 : a.tmps[46]? = some (.pointer (some ⟨rb, 6, none⟩)) := hs2 16 (by kernel_rfl) 46 _ rfl
          clear hs1 hs2
          refine wpOpIn_step rfl (fun K2 hK2 => ?_)
          simp [go_sem, Region.wanted, yielded, Oper.wpIn, Oper.about, Act.eval, Array.getD_eq_getD_getElem?, h41, h46, r6]
          exact hK2 _ _ hK
        · cases hj
          intro a K hs1 hs2 hK
          have h6 : a.tmps[6]? = some (.pointer (some ⟨W.heap.size + 1 + 1 + 1, 0, none⟩)) := (hs1 6 (by simp)).trans (by subst hA1; rfl)
          have h41 : a.tmps[41]? = some (.bool true) := hs2 11 (by kernel_rfl) 41 _ rfl
          clear hs1 hs2
          refine wpOpIn_step rfl (fun K2 hK2 => ?_)
          simp [go_sem, Region.wanted, yielded, Oper.wpIn, Oper.about, Act.eval, Array.getD_eq_getD_getElem?, h6, h41, n0]
          exact hK2 _ _ hK
        · cases hj
          intro a K hs1 hs2 hK
          have h41 : a.tmps[41]? = some (.bool true) := hs2 11 (by kernel_rfl) 41 _ rfl
          have h47 : a.tmps[47]? = some (.slice (some ⟨gb, off, none⟩) m.hist.length hc) := hs2 17 (by kernel_rfl) 47 _ rfl
          have h48 : a.tmps[48]? = some (.int .i64 (pre.length : Int)) := hs2 18 (by kernel_rfl) 48 _ rfl
          clear hs1 hs2
          refine wpOpIn_step rfl (fun K2 hK2 => ?_)
          simp [go_sem, Region.wanted, yielded, Oper.wpIn, Oper.about, Act.eval, Array.getD_eq_getD_getElem?, h41, h47, h48, hli]
          exact hK2 _ _ hK
        · cases hj
          intro a K hs1 hs2 hK
          have h41 : a.tmps[41]? = some (.bool true) := hs2 11 (by kernel_rfl) 41 _ rfl
          have h49 : a.tmps[49]? = some (.pointer (some ⟨gb, off + pre.length * 4, none⟩)) := hs2 19 (by kernel_rfl) 49 _ rfl
          clear hs1 hs2
          refine wpOpIn_step rfl (fun K2 hK2 => ?_)
          simp [go_sem, Region.wanted, yielded, Oper.wpIn, Oper.about, Act.eval, Array.getD_eq_getD_getElem?, h41, h49, y0, y1, y2, y3]
          exact hK2 _ _ hK
        · cases hj
          intro a K hs1 hs2 hK
          have h41 : a.tmps[41]? = some (.bool true) := hs2 11 (by kernel_rfl) 41 _ rfl
          have h42 : a.tmps[42]? = some (.agg #[.int .i64 x.k, .int .i64 x.p, .int .i64 x.b, .int .i64 x.s]) := hs2 12 (by kernel_rfl) 42 _ rfl
          have h50 : a.tmps[50]? = some (.agg #[.int .i64 y.k, .int .i64 y.p, .int .i64 y.b, .int .i64 y.s]) := hs2 20 (by kernel_rfl) 50 _ rfl
          clear hs1 hs2
          refine wpOpIn_step rfl (fun K2 hK2 => ?_)
          simp [go_sem, Region.wanted, yielded, Oper.wpIn, Oper.about, Act.eval, Array.getD_eq_getD_getElem?, h41, h42, h50]
          rw [sameB_res]
          exact hK2 _ _ hK
        · cases hj
          intro a K hs1 hs2 hK
          have h41 : a.tmps[41]? = some (.bool true) := hs2 11 (by kernel_rfl) 41 _ rfl
          have h51 : a.tmps[51]? = some (.bool (sameB x y)) := hs2 21 (by kernel_rfl) 51 _ rfl
          clear hs1 hs2
          refine wpOpIn_step rfl (fun K2 hK2 => ?_)
          simp [go_sem, Region.wanted, Oper.wpIn, Oper.about, Act.eval, Array.getD_eq_getD_getElem?, h41, h51]
          exact hK2 _ _ hK
      case hlast =>
        intro K hK
        subst hA1
        simp only [doneT, List.foldl, List.setIfInBounds_toArray, List.set_cons_zero, List.set_cons_succ]
        refine wpOpIn_step rfl (fun K2 hK2 => ?_)
        go_simp
        refine hK2 _ _ (hK _ _ ?_)
        have hi2 := (hi.setO (sameB x y)).below (Below.refl _ _).drew
        have hk2 := (hi.keepO (.bool (sameB x y))).trans (KeepT.of_below (T := T) (Below.refl _ _).drew)
        obtain ⟨V, hV⟩ : ∃ V, V = (A.setCell ⟨W.heap.size + 1 + 1 + 1 + 1, 0, none⟩ (.bool (sameB x y))).drew := ⟨_, rfl⟩
        rw [← hV] at hi2 hk2 ⊢
        have n2 := hi2.n0
        have nf2 := hi2.nf
        have o2 := (hi2.setN ((pre.length : Int) + 1)).o0
        have hi3 := hi2.setN ((pre.length : Int) + 1)
        have hk3 := hk2.trans (hi2.keepN (.int .i64 ((pre.length : Int) + 1)))
        clear hV n0 o0 nf of mo p1 r6 y0 y1 y2 y3 z0 z1 z2 z3 hop
        have hlen2 : (pre.length : Int) ≤ 1500000000000 := by omega
        have hcx : sameB x y = true → pre ++ [x] <+: m.hist := fun e => hnx.elim (fun h => h.2) (fun h => absurd ((sameB_iff x y).1 e) h.1)
        have hcy : sameB x y = false → ¬ pre ++ [x] <+: m.hist := fun e => hnx.elim (fun h => by rw [(sameB_iff x y).2 h.1] at e; cases e) (fun h => h.2)
        clear hnx
        generalize sameB x y = cb at *
        cases cb
        · gi_wp2
          exact ⟨hk3, Or.inr (hcy trivial)⟩
        · gi_wp2
          refine ⟨hk3, ?_, hcx trivial, by rw [List.length_append, List.length_singleton]; omega⟩
          rw [List.length_append, List.length_singleton]
          exact hi3
end Go.Proofs.Ytabahmcbhapbiaa

namespace Go.Proofs.Ytabahmcbhapbiaa
open Go.RowKit Go.Lib
set_option linter.unusedVariables false
section
variable {w W : World} {wb n : Nat} {p : Nat → Pr} {own : Nat → Nat → Prop} {Z : Nat → Prop}
set_option maxHeartbeats 2000000 in
/-- A step that asks for the history. -/
theorem step_told (h : LawW w wb n p own Z W) {N : Nat} (hN : ∀ i, i < n → (p i).m.hist.length ≤ N) (hNB : N ≤ 1500000000000) (hn0 : 0 < n) (hn2 : n ≤ 1000000000000000) (on aa : Int) (hon : I64 on) (haa : I64 aa) (t : ByteArray) (xk xp xb xs yk yp yb ys : Int) :
    Calls Try.prog 28 #[.pointer (some ⟨wb, 0, none⟩), .agg #[.int .i64 10, .int .i64 on, .int .i64 aa, .string t, .int .i64 xk, .int .i64 xp, .int .i64 xb, .int .i64 xs, .int .i64 yk, .int .i64 yp, .int .i64 yb, .int .i64 ys]] W fun e w' => e = .returned (.bool true) ∧ Hid (LawGoes w wb n Z N W w') := by
  obtain ⟨tb, tcap, c0, tl, hc⟩ := h.open hn0
  have hi := pickN_lt on hn0
  obtain ⟨c1, c2⟩ := hc _ hi
  have HP : Hid (∀ W, Calls Try.prog 50 #[.int .i64 on, .int .i64 (n : Int)] W fun e w' => e = .returned (.int .i64 (pickN on n : Int)) ∧ W = w') := fun W => lpick_any on hon n hn0 hn2 W
  generalize pickN on n = i at *
  have HF : Hid (∀ W', Below W.heap.size W W' → LawGoes w wb n Z N W W') := fun W' hb => h.stay hN hb
  have HX : Hid (∀ W0, Below W.heap.size W W0 → Calls Try.prog 57 #[.agg #[.pointer (some ⟨(p i).xb, 0, none⟩), .pointer (some ⟨(p i).rb, 0, none⟩)], .int .i64 aa] W0 fun e w' => e = .returned (.bool true) ∧ Below W0.heap.size W0 w') := fun W0 hb => told_any ((h.ps.pa i hi).below hb) (show (p i).m.hist.length ≤ _ by have := hN i hi; omega) aa haa
  have lw := h.lt
  have hni : (0 : Int) < (n : Int) := by omega
  have hii : (i : Int) < (n : Int) := by omega
  clear h hN hc hon
  go_enter Try.func28, Try.ntmps28
  go_wp2_with fail
  go_region_held3 (fun W' => W'.cell? ⟨wb, 0, none⟩ = some (.slice (some ⟨tb, 0, none⟩) n tcap) ∧ W'.cell? ⟨tb, i * 2, none⟩ = some (.pointer (some ⟨(p i).xb, 0, none⟩)) ∧ W'.cell? ⟨tb, i * 2 + 1, none⟩ = some (.pointer (some ⟨(p i).rb, 0, none⟩)) ∧ W'.cell? ⟨W.heap.size, 1, none⟩ = some (.int .i64 on)) (simp [go_sem, *]) ((go_at_call 50; refine (HP.out _).mono ?_; rintro e w1 ⟨rfl, rfl⟩))
  all_goals
    go_wp2_with fail
    refine (HX.out _ (by repeat (first | exact Below.refl _ _ | apply Below.drew | refine bel_alloc ?_ _))).mono ?_
    rintro e w1 ⟨rfl, hb1⟩
    have HB : Hid (Below W.heap.size W w1) := bel_trans (by repeat (first | exact Below.refl _ _ | apply Below.drew | refine bel_alloc ?_ _)) hb1
    clear hb1 HX
    go_wp2_with fail
    all_goals go_ret
    all_goals exact ⟨rfl, HF.out _ HB.out⟩
set_option maxHeartbeats 2000000 in
/-- A step that looks. -/
theorem step_look (h : LawW w wb n p own Z W) (hn0 : 0 < n) (hn2 : n ≤ 1000000000000000) (on aa : Int) (hon : I64 on) (t : ByteArray) (xk xp xb xs yk yp yb ys : Int) {R : World → Prop}
    (hL : ∀ i, i < n → ∀ W0, Below W.heap.size W W0 → Calls Try.prog 56 #[.pointer (some ⟨wb, 0, none⟩), .agg #[.pointer (some ⟨(p i).xb, 0, none⟩), .pointer (some ⟨(p i).rb, 0, none⟩)], .int .i64 aa] W0 fun e w' => e = .returned (.bool true) ∧ Hid (R w')) :
    Calls Try.prog 28 #[.pointer (some ⟨wb, 0, none⟩), .agg #[.int .i64 9, .int .i64 on, .int .i64 aa, .string t, .int .i64 xk, .int .i64 xp, .int .i64 xb, .int .i64 xs, .int .i64 yk, .int .i64 yp, .int .i64 yb, .int .i64 ys]] W fun e w' => e = .returned (.bool true) ∧ Hid (R w') := by
  obtain ⟨tb, tcap, c0, tl, hc⟩ := h.open hn0
  have hi := pickN_lt on hn0
  obtain ⟨c1, c2⟩ := hc _ hi
  have HP : Hid (∀ W, Calls Try.prog 50 #[.int .i64 on, .int .i64 (n : Int)] W fun e w' => e = .returned (.int .i64 (pickN on n : Int)) ∧ W = w') := fun W => lpick_any on hon n hn0 hn2 W
  generalize pickN on n = i at *
  have HX := hidP (hL i hi)
  have lw := h.lt
  have hni : (0 : Int) < (n : Int) := by omega
  have hii : (i : Int) < (n : Int) := by omega
  clear h hc hon hL
  go_enter Try.func28, Try.ntmps28
  go_wp2_with fail
  go_region_held3 (fun W' => W'.cell? ⟨wb, 0, none⟩ = some (.slice (some ⟨tb, 0, none⟩) n tcap) ∧ W'.cell? ⟨tb, i * 2, none⟩ = some (.pointer (some ⟨(p i).xb, 0, none⟩)) ∧ W'.cell? ⟨tb, i * 2 + 1, none⟩ = some (.pointer (some ⟨(p i).rb, 0, none⟩)) ∧ W'.cell? ⟨W.heap.size, 1, none⟩ = some (.int .i64 on)) (simp [go_sem, *]) ((go_at_call 50; refine (HP.out _).mono ?_; rintro e w1 ⟨rfl, rfl⟩))
  all_goals
    go_wp2_with fail
    refine (HX.out _ (by repeat (first | exact Below.refl _ _ | apply Below.drew | refine bel_alloc ?_ _))).mono ?_
    rintro e w1 ⟨rfl, hb1⟩
    clear HX
    go_wp2_with fail
    all_goals go_ret
    all_goals exact ⟨rfl, hb1⟩
end
end Go.Proofs.Ytabahmcbhapbiaa
