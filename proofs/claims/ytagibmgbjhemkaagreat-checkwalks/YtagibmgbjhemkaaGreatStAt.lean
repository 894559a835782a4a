/- A store in memory: its box, the table of edges, the map of vertices, the boxes of their ends, and the rows of numbers; each block is held by one of them. -/
import Derived.Test.YtagibmgbjhemkaaGreatStRow
import Derived.Lib.AppendZeros
import Derived.Sort.OwnSorted
import Derived.Sort.OwnSortedInts
import Derived.Sort.Walk0
import Derived.LaidEql
import Derived.Shelf.Abstract
import Derived.Maps.OwnSet
import Derived.Maps.OwnOps
namespace Go.Proofs.YtagibmgbjhemkaaGreat

section
open Go.RowKit Go.Maps Go.Sort
theorem info3 : (Tryz.prog.info? 3).map (fun i => (i.zero, i.size, i.bytes)) = some (some (.int .i64 0), 1, 8) := by kernel_rfl
abbrev BRow (B : Nat) (w : World) (v : Value) (ks : List Int) : Prop := w.ownsRow B 3 1 v ks.length (ks.map (Value.int .i64))
theorem brow_shape {B : Nat} {w : World} {v : Value} {ks : List Int} (h : BRow B w v ks) : ∃ a c, v = .slice a ks.length c ∧ ks.length ≤ c := by
  rcases h.2 with ⟨e, h0⟩ | ⟨g', cap, cur, e, -, -, hc, -⟩
  · exact ⟨none, 0, by rw [e, h0], by omega⟩
  · exact ⟨_, _, e, hc⟩
theorem brow_kept {B : Nat} {w w' : World} {v : Value} {ks : List Int} (h : BRow B w v ks) (hk : ∀ b, v.ownBlock = some b → w'.heap[b]? = w.heap[b]?) : BRow B w' v ks := by
  refine ⟨h.1, ?_⟩; rcases h.2 with hn | ⟨g, cap, cur, e, hb, hgg, rest⟩
  · exact .inl hn
  · exact .inr ⟨g, cap, cur, e, hb, (hk g (by rw [e]; rfl)).trans hgg, rest⟩
theorem run_append_nil (w : World) (base : Option Addr) (l c : Nat) (hlc : l ≤ c) (ty : TypeId) : (Builtin.append_ #[25, 25] ty #[.slice base l c, .slice none 0 0]).run Tryz.prog w = .ok (.slice base l c) w := by
  obtain ⟨i, hi, hz, hs, hb⟩ := info_parts info3
  cases base <;> simp [Builtin.append_, run_underlying Tryz.underlying25, sizeOf, typeInfo, hi, Builtin.lenOf, Builtin.firstCells, hlc, storeCells]
theorem run_appN {B : Nat} {w : World} (hB : B ≤ w.heap.size) {v v2 : Value} {a b : List Int} (h1 : BRow B w v a) (h2 : NRow w v2 b) (hl : a.length + b.length ≤ 4000000) :
    ∃ v' w', (∀ ty, (Builtin.append_ #[25, 25] ty #[v, v2]).run Tryz.prog w = .ok v' w') ∧ BRow B w' v' (a ++ b) ∧ w.grownBy w' v.ownBlock := by
  obtain ⟨i, hi, hz, hs, hb⟩ := info_parts info3; rcases nrow_shape h2 with ⟨rfl, rfl⟩ | ⟨g, c, rfl⟩
  · obtain ⟨x, c, rfl, hc⟩ := brow_shape h1; exact ⟨_, w, fun ty => run_append_nil w x a.length c hc ty, by rw [List.append_nil]; exact h1, ⟨rfl, rfl, rfl, Nat.le_refl _, fun _ _ _ => rfl⟩⟩
  · obtain ⟨v', w', hr, g1, g2, -, -⟩ := run_append_own_at (P := Tryz.prog) w B 25 0 3 i _ 1 8 Tryz.underlying25 hi hz hs hb rfl (by omega) v a.length (a.map (Value.int .i64)) h1 ⟨g, 0, none⟩ b.length c (b.map (Value.int .i64)) (by simp)
      (h2.cells (g := g) rfl) (ints_one b) (by unfold maxLen; omega) (by omega) hB
    refine ⟨v', w', fun ty => hr, ?_, g2⟩
    have e1 : a.map (Value.int .i64) ++ b.map (Value.int .i64) = (a ++ b).map (Value.int .i64) := by simp
    have e2 : a.length + b.length = (a ++ b).length := by simp
    rw [e1, e2] at g1; exact g1
theorem growN (n : Nat) (w : World) (hn : n ≤ 4000000) :
    Calls Tryz.prog 129 #[.slice none 0 0, .int .i64 n] w fun e w' => ∃ v', e = .returned v' ∧ Hid (BRow w.heap.size w' v' [] ∧ Below w.heap.size w w') := by
  obtain ⟨i, hi, hz, hs, hb⟩ := info_parts info3; rcases Nat.eq_zero_or_pos n with rfl | h0
  · refine (Any8.slices_Grow_room Tryz.laysGrow none 0 0 0 w (by omega) (by omega) (by omega) (by omega)).mono ?_
    rintro e w' ⟨rfl, rfl⟩
    exact ⟨_, rfl, ⟨rfl, .inl ⟨rfl, rfl⟩⟩, Below.refl _ _⟩
  · refine (Any8.slices_Grow_grow Tryz.laysGrow i _ hi hz (by omega) none 0 0 n [] w (by omega) (by omega) (by rw [hb]; omega) (by omega) (by simp) (fun _ => rfl) (fun _ h => by cases h)).mono ?_
    rintro e w' ⟨rfl, rfl⟩
    have hge : 0 + n ≤ grownCap w (0 + n) 0 3 := grownCap_ge w (0 + n) 0 3; refine ⟨_, rfl, ⟨rfl, .inr ⟨w.heap.size, grownCap w (0 + n) 0 3, _, rfl, Nat.le_refl _, heap_alloc_new _ _, Nat.zero_le _, grownCap_le_maxLen _ _ _ _ (by unfold maxLen; omega), ?_, rfl⟩⟩, ?_⟩
    · simp only [Array.size_append, zeroCells_size, List.size_toArray, List.length_nil]; show 0 + (0 + n - 0) + (grownCap w (0 + n) 0 3 - (0 + n)) = _; omega
    · exact (below_drewN (Below.refl w.heap.size w) 1).alloc (Nat.le_refl _) _
def CRel (la lab : Nat) (s3 s11 : Value) : Prop := (s3 = .int .i64 0 ∧ s11 = .int .i64 0) ∨ (s3 = .int .i64 la ∧ s11 = .int .i64 1) ∨ (s3 = .int .i64 lab ∧ s11 = .int .i64 2)
def CRel2 (w : World) (a b : List Int) (s6 s27 : Value) (wr : World) : Prop := Below w.heap.size w wr ∧ ((s27 = .int .i64 0 ∧ BRow w.heap.size wr s6 []) ∨ (s27 = .int .i64 1 ∧ BRow w.heap.size wr s6 a) ∨ (s27 = .int .i64 2 ∧ BRow w.heap.size wr s6 (a ++ b)))
set_option maxHeartbeats 2000000 in
set_option maxRecDepth 100000 in
theorem concatN (vb : Nat) (v1 v2 : Value) (a b : List Int) (w : World) (hvb : w.heap[vb]? = some (.cells #[v1, v2] 25 (0, 0))) (h1 : NRow w v1 a) (h2 : NRow w v2 b) (ha : a.length ≤ 1000000) (hb : b.length ≤ 1000000) :
    Calls Tryz.prog 116 #[.slice (some ⟨vb, 0, none⟩) 2 2] w fun e w' => ∃ v', e = .returned v' ∧ Hid (BRow w.heap.size w' v' (a ++ b) ∧ Below w.heap.size w w') := by
  have c0 : w.cell? ⟨vb, 0, none⟩ = some v1 := (cell_of_row _ _ 0 _ _ (0, 0) hvb).trans rfl; have c1 : w.cell? ⟨vb, 1, none⟩ = some v2 := (cell_of_row _ _ 1 _ _ (0, 0) hvb).trans rfl; have hvl : vb < w.heap.size := (Array.getElem?_eq_some_iff.1 hvb).1; obtain ⟨a1, k1, rfl, -⟩ := brow_shape h1; obtain ⟨a2, k2, rfl, -⟩ := brow_shape h2; have CG := hide (growN (a.length + b.length) w (by omega))
  have HC : Hid (∀ wr, Below w.heap.size w wr → wr.cell? ⟨vb, 0, none⟩ = some (.slice a1 a.length k1) ∧ wr.cell? ⟨vb, 1, none⟩ = some (.slice a2 b.length k2) ∧ NRow wr (.slice a1 a.length k1) a ∧ NRow wr (.slice a2 b.length k2) b) := fun wr hB =>
    ⟨(cell_of_heap (hB.block vb hvl)).trans c0, (cell_of_heap (hB.block vb hvl)).trans c1, nrow_kept h1 (fun x hx => hB.block x (h1.lt x hx).2), nrow_kept h2 (fun x hx => hB.block x (h2.lt x hx).2)⟩
  have HA : Hid (∀ wr v pre nxt x, wr.ownsRow w.heap.size 3 1 v pre.length (pre.map (Value.int .i64)) → Below w.heap.size w wr → NRow wr x nxt → pre.length + nxt.length ≤ 4000000 → ∃ v' w', (∀ ty, (Builtin.append_ #[25, 25] ty #[v, x]).run Tryz.prog wr = .ok v' w') ∧ Hid (BRow w.heap.size w' v' (pre ++ nxt) ∧ Below w.heap.size w w')) := fun wr v pre nxt x g1 g2 g3 g4 => by
    obtain ⟨v', w', hr, g5, g6⟩ := run_appN g2.size g1 g3 g4; refine ⟨v', w', hr, g5, g2.trans ⟨g6.os, g6.tape, g6.output, g6.size, fun k hk => g6.block k (Nat.lt_of_lt_of_le hk g2.size) (fun e => ?_)⟩⟩
    have := (g1.lt k e.symm).1; omega
  have HL : Hid (a.length ≤ 1000000 ∧ b.length ≤ 1000000) := ⟨ha, hb⟩; obtain ⟨la, hla⟩ : ∃ la, la = a.length := ⟨_, rfl⟩; obtain ⟨lb, hlb⟩ : ∃ lb, lb = b.length := ⟨_, rfl⟩; rw [← hla] at c0 HC CG; rw [← hlb] at c1 HC CG; have hw1 : wrap64 (la : Int) = (la : Int) := by unfold wrap64; omega
  have hw2 : wrap64 ((la : Int) + (lb : Int)) = ((la + lb : Nat) : Int) := by unfold wrap64; omega
  have hp1 : ¬ (la : Int) < 0 := by omega
  have hp2 : ¬ ((la + lb : Nat) : Int) < 0 := by omega
  have HLA : Hid (la = a.length ∧ lb = b.length) := ⟨hla, hlb⟩; generalize hab : la + lb = lab at *; clear h1 h2 hvb ha hb hla hlb hvl hab
  go_enter Tryz.func116, Tryz.ntmps116
  go_wp2_with fail
  go_loopw [3, 11] (fun s3 s11 wr => CRel la lab s3 s11 ∧ wr = w) (fun _ s11 _ => 2 - (intOf s11).toNat)
  case atStart => exact ⟨.inl ⟨rfl, rfl⟩, rfl⟩
  case round =>
    obtain ⟨hrel, rfl⟩ := hrel; rcases hrel with ⟨rfl, rfl⟩ | ⟨rfl, rfl⟩ | ⟨rfl, rfl⟩
    · go_wp2_with fail
      exact ⟨⟨.inr (.inl ⟨by rw [hw1], rfl⟩), trivial⟩, by simp [intOf]⟩
    · go_wp2_with fail
      exact ⟨⟨.inr (.inr ⟨by rw [hw2], rfl⟩), trivial⟩, by simp [intOf]⟩
    · go_wp2_with fail
      refine (unhide CG).mono ?_
      rintro e w1 ⟨v0, rfl, hv0⟩
      clear CG c0 c1; obtain ⟨w0, hw0⟩ : ∃ w0, w0 = wr := ⟨_, rfl⟩; rw [← hw0] at HC HA hv0
      go_wp2_with fail
      go_loopw [6, 27] (fun s6 s27 wr => CRel2 w0 a b s6 s27 wr) (fun _ s27 _ => 2 - (intOf s27).toNat)
      case atStart => exact ⟨(unhide hv0).2, .inl ⟨rfl, (unhide hv0).1⟩⟩
      case round =>
        obtain ⟨hB, ⟨rfl, hR⟩ | ⟨rfl, hR⟩ | ⟨rfl, hR⟩⟩ := hrel
        · obtain ⟨d0, d1, n1, n2⟩ := unhide HC wr hB; obtain ⟨v', w', hr, hX⟩ := unhide HA wr _ [] a _ hR hB n1 (by have := unhide HL; simp; omega)
          obtain ⟨x0, y0, z0, rfl⟩ : ∃ x0 y0 z0, v' = .slice x0 y0 z0 := by obtain ⟨x, y, e, -⟩ := brow_shape (unhide hX).1; exact ⟨_, _, _, e⟩
          have HR := hide hr; have HB := hide hB; obtain ⟨x, y, e, -⟩ := brow_shape hR; clear hr hB n1 n2 hR; subst e
          go_wp2_with (at_builtin; refine Lib.wpList_append_run _ rfl _ _ 25 25 rfl _ _ rfl rfl _ _ (unhide HR _) ?_)
          exact ⟨⟨(unhide hX).2, .inr (.inl ⟨rfl, (unhide hX).1⟩)⟩, by simp [intOf]⟩
        · obtain ⟨d0, d1, n1, n2⟩ := unhide HC wr hB; obtain ⟨v', w', hr, hX⟩ := unhide HA wr _ a b _ hR hB n2 (by have := unhide HL; omega)
          obtain ⟨x0, y0, z0, rfl⟩ : ∃ x0 y0 z0, v' = .slice x0 y0 z0 := by obtain ⟨x, y, e, -⟩ := brow_shape (unhide hX).1; exact ⟨_, _, _, e⟩
          have HR := hide hr; have HB := hide hB; obtain ⟨x, y, e, -⟩ := brow_shape hR; clear hr hB n1 n2 hR; subst e
          go_wp2_with (at_builtin; refine Lib.wpList_append_run _ rfl _ _ 25 25 rfl _ _ rfl rfl _ _ (unhide HR _) ?_)
          exact ⟨⟨(unhide hX).2, .inr (.inr ⟨rfl, (unhide hX).1⟩)⟩, by simp [intOf]⟩
        · have HR := hide (And.intro hR hB); obtain ⟨x, y, e, -⟩ := brow_shape hR; clear hR hB; subst e
          go_wp2_with fail
          go_ret
          subst hw0; exact ⟨_, rfl, HR⟩
theorem sortN (B : Nat) (v : Value) (ks : List Int) (w : World) (hb : ks.length ≤ 4000000) (h : BRow B w v ks) :
    Calls Tryz.prog 110 #[v] w fun e w' => e = .returned (.tuple #[]) ∧ Hid (∃ ys, ys.Perm ks ∧ ys.Pairwise (· ≤ ·) ∧ BRow B w' v ys ∧ w.grownBy w' v.ownBlock) := by
  rcases h.2 with ⟨rfl, h0⟩ | ⟨g, c, cur, rfl, hb0, hg, hn0, hm0, hs0, -⟩
  · obtain rfl : ks = [] := List.eq_nil_of_length_eq_zero h0; refine (Any.slices_Sort_int_none Tryz.lays189 none 0 w).mono ?_
    rintro e w' ⟨rfl, rfl⟩
    exact ⟨rfl, [], List.Perm.refl _, List.Pairwise.nil, h, ⟨rfl, rfl, rfl, Nat.le_refl _, fun _ _ _ => rfl⟩⟩
  · obtain ⟨g', c', e, -, hlt, hcap, hm, -, hH⟩ := Lib.holds_of_ownsRow h (by simp)
    injection e with e1 e2 e3
    injection e1 with e1
    injection e1 with e1
    subst e1 e3; refine (Any.slices_Sort_int Tryz.lays189 g 0 c ks w hH hlt (by omega)).mono ?_
    rintro e w' ⟨he, n, os, rfl⟩
    have hp : (ks.mergeSort fun x y => decide (x ≤ y)).Perm ks := List.mergeSort_perm _ _
    refine ⟨he, _, hp, ?_, ?_, grownBy_sortedI _⟩
    · have h1 : (ks.mergeSort fun x y => decide (x ≤ y)).Pairwise (fun x y => decide (x ≤ y) = true) := List.pairwise_mergeSort (fun a b c h1 h2 => by simp at *; omega) (fun a b => by simp; omega) _
      exact h1.imp (fun {a b} hab => by simpa using hab)
    · have := ownsRow_sortedI (n := n) (os := os) hp.length_eq hb0 hg hn0 hm0 hs0; unfold BRow; rw [hp.length_eq]; exact this
theorem compact_len (ks : List Int) : (Lib.compact ks).length ≤ ks.length := by
  unfold Lib.compact Lib.compactUpTo; rw [List.length_map]; exact Nat.le_trans (List.length_filter_le _ _) (by simp)
theorem compact_upto (ks : List Int) (hs : ks.Pairwise (· ≤ ·)) : ∀ m, m ≤ ks.length → Rising ltN (Lib.compactUpTo ks.toArray m) ∧ ∀ x, x ∈ Lib.compactUpTo ks.toArray m ↔ ∃ j, j < m ∧ ks.getD j 0 = x
  | 0, _ => ⟨List.Pairwise.nil, fun x => by simp [Lib.compactUpTo]⟩
  | m + 1, hm => by
    obtain ⟨h1, h2⟩ := compact_upto ks hs m (by omega)
    have hd : ∀ j, j < ks.length → ks.toArray[j]! = ks.getD j 0 := fun j hj => by simp [hj, List.getD]
    have hle : ∀ i j, i ≤ j → j < ks.length → ks.getD i 0 ≤ ks.getD j 0 := fun i j hij hj => by
      rcases Nat.eq_or_lt_of_le hij with rfl | hlt
      · exact Int.le_refl _
      · have := List.pairwise_iff_getElem.1 hs i j (by omega) hj hlt
        simpa [List.getD, hj, show i < ks.length by omega] using this
    rw [Lib.compactUpTo_succ]
    by_cases hk : Lib.keeps ks.toArray m = true
    · rw [if_pos hk, hd m (by omega)]
      refine ⟨List.pairwise_append.2 ⟨h1, List.pairwise_singleton _ _, fun a ha b hb => ?_⟩, fun x => ?_⟩
      · rw [List.mem_singleton.1 hb]; obtain ⟨j, hj, rfl⟩ := (h2 a).1 ha; have hne : ks.getD (m - 1) 0 ≠ ks.getD m 0 := fun e => by
          simp [Lib.keeps, show m ≠ 0 by omega] at hk
          have a1 := hd m (by omega)
          have a2 := hd (m - 1) (by omega)
          simp only [List.getD] at e a1 a2; simp_all
        have l1 := hle j (m - 1) (by omega) (by omega)
        have l2 := hle (m - 1) m (by omega) (by omega)
        simp only [ltN, decide_eq_true_eq]; omega
      · rw [List.mem_append, h2, List.mem_singleton]; constructor
        · rintro (⟨j, hj, e⟩ | e)
          · exact ⟨j, by omega, e⟩
          · exact ⟨m, by omega, e.symm⟩
        · rintro ⟨j, hj, e⟩
          by_cases hjm : j = m
          · subst hjm; exact .inr e.symm
          · exact .inl ⟨j, by omega, e⟩
    · rw [if_neg hk, List.append_nil]; refine ⟨h1, fun x => ?_⟩
      rw [h2]; have hm0 : m ≠ 0 := fun e => hk (by simp [Lib.keeps, e])
      have heq : ks.getD (m - 1) 0 = ks.getD m 0 := by
        have a1 := hd m (by omega)
        have a2 := hd (m - 1) (by omega)
        simp [Lib.keeps, hm0] at hk; rw [← a1, ← a2]
        first | exact hk | exact hk.symm | simp_all
      constructor
      · rintro ⟨j, hj, e⟩; exact ⟨j, by omega, e⟩
      · rintro ⟨j, hj, e⟩
        by_cases hjm : j = m
        · subst hjm; exact ⟨j - 1, by omega, heq.trans e⟩
        · exact ⟨j, by omega, e⟩
theorem compact_sorted (ks : List Int) (hs : ks.Pairwise (· ≤ ·)) : Rising ltN (Lib.compact ks) ∧ ∀ x, x ∈ Lib.compact ks ↔ x ∈ ks := by
  obtain ⟨h1, h2⟩ := compact_upto ks hs ks.length (Nat.le_refl _); refine ⟨h1, fun x => ?_⟩
  unfold Lib.compact; rw [h2, List.mem_iff_getElem]; constructor
  · rintro ⟨j, hj, e⟩; exact ⟨j, hj, by simpa [List.getD, hj] using e⟩
  · rintro ⟨j, hj, e⟩; exact ⟨j, hj, by simpa [List.getD, hj] using e⟩
theorem compactN (B : Nat) (v : Value) (ks : List Int) (w : World) (hb : ks.length ≤ 4000000) (h : BRow B w v ks) :
    Calls Tryz.prog 117 #[v] w fun e w' => ∃ v', e = .returned v' ∧ Hid (BRow B w' v' (Lib.compact ks) ∧ w.grownBy w' v.ownBlock) := by
  rcases nrow_shape (w := w) (v := v) (ks := ks) ⟨h.1, h.2.imp id (fun ⟨g, cap, cur, e, _, r⟩ => ⟨g, cap, cur, e, Nat.zero_le _, r⟩)⟩ with ⟨rfl, rfl⟩ | ⟨g, c, rfl⟩
  · refine (Any.slices_Compact_int_empty Tryz.laysNm220 none 0 w).mono ?_
    rintro e w' ⟨rfl, rfl⟩
    exact ⟨_, rfl, h, ⟨rfl, rfl, rfl, Nat.le_refl _, fun _ _ _ => rfl⟩⟩
  · obtain ⟨g', c', e, -, hlt, hcap, hm, -, hH⟩ := Lib.holds_of_ownsRow h (by simp)
    injection e with e1 e2 e3
    injection e1 with e1
    injection e1 with e1
    subst e1 e3; refine (Any.slices_Compact_int Tryz.laysNm220 g 0 c ks w hH (by omega) hcap).mono ?_
    rintro e w' ⟨he, q, rfl⟩
    have hcl : (Lib.compact ks).length ≤ ks.length := compact_len ks; refine ⟨_, he, ?_, ⟨rfl, rfl, rfl, by simp [putRow, mapBlock, Sort.ahead], fun k _ hk => ?_⟩⟩
    · have hy := Lib.ownsRow_putRow (q := q) (k := (Lib.compact ks).length) (ys := Lib.compact ks ++ List.replicate (ks.length - (Lib.compact ks).length) 0) h (by simp; omega) hcl
      have ht : (Lib.compact ks ++ List.replicate (ks.length - (Lib.compact ks).length) 0).take (Lib.compact ks).length = Lib.compact ks := by
        rw [List.take_append_of_le_length (Nat.le_refl _), List.take_length]
      rw [ht] at hy; exact hy
    · have hk' : g ≠ k := fun e => hk (by simp [Value.ownBlock, e])
      simp [putRow, mapBlock, Sort.ahead, Array.getElem?_modify, hk']
end

section
open Go.RowKit Go.Maps
theorem turned_map {S : Nat → Prop} {w w' : World} {b : Nat} (h : w.mapTurned w' b) (hs : S b) : Turned S w w' := turned_grown h.grown hs
/-! ### pointers as a map's elements -/
def ptr : Option Nat → Value
  | none => .pointer none
  | some q => .pointer (some ⟨q, 0, none⟩)
def dat : Option Nat → DataW Unit
  | none => .lit (.bool false)
  | some q => .lit (.int .i64 q)
def ptrElem : Value → Option (DataW Unit × List MemPlace)
  | .pointer none => some (.lit (.bool false), [])
  | .pointer (some ⟨q, 0, none⟩) => some (.lit (.int .i64 q), [])
  | _ => none
theorem ptrElem_ptr (o : Option Nat) : ptrElem (ptr o) = some (dat o, []) := by cases o <;> rfl
theorem ptrElem_inv {v : Value} {z : DataW Unit × List MemPlace} (h : ptrElem v = some z) : ∃ o, v = ptr o ∧ z = (dat o, []) := by
  unfold ptrElem at h; split at h
  · exact ⟨none, rfl, (Option.some.inj h).symm⟩
  · rename_i q; exact ⟨some q, rfl, (Option.some.inj h).symm⟩
  · cases h
theorem dat_inj {a b : Option Nat} (h : dat a = dat b) : a = b := by
  match a, b, h with
  | none, none, _ => rfl
  | some x, some y, h =>
    simp [dat] at h; rw [show x = y by omega]
structure KeyKit (K : Type) (kt : TypeId) (kv : K → Value) (kl : K → Lit) (ok : K → Prop) : Prop where
  law : Keyed Tryz.prog kt
  key : ∀ k, ok k → keyOf Tryz.prog kt (kv k) = some (kl k)
  lit : ∀ k, WideAt.IsKeyLit (kl k)
  inj : ∀ a b, kl a = kl b → a = b
def MapFn {K : Type} (kt : TypeId) (kl : K → Lit) (ok : K → Prop) (w : World) (m : Nat) (f : K → Option Nat) (N : Nat) : Prop :=
  ∃ D, w.ownsMap Tryz.prog kt ptrElem m N D ∧ Maps.Tidy D ∧ Maps.size D = N ∧ ∀ k, ok k → D.atKey (kl k) (dat none) = dat (f k) ∧ Maps.has D (kl k) = (f k).isSome
section
variable {K : Type} {kt t e : TypeId} {kv : K → Value} {kl : K → Lit} {ok : K → Prop} {w w' : World} {m N : Nat} {f : K → Option Nat}
theorem MapFn.lt (h : MapFn kt kl ok w m f N) : m < w.heap.size := by
  obtain ⟨D, h1, -⟩ := h; exact h1.lt
theorem MapFn.kept (h : MapFn kt kl ok w m f N) (hk : w'.heap[m]? = w.heap[m]?) : MapFn kt kl ok w' m f N := by
  obtain ⟨D, ⟨es, clock, h1, h2⟩, h3⟩ := h; exact ⟨D, ⟨es, clock, hk.trans h1, h2⟩, h3⟩
theorem MapFn.congr {g : K → Option Nat} (h : MapFn kt kl ok w m f N) (hg : ∀ k, ok k → g k = f k) : MapFn kt kl ok w m g N := by
  obtain ⟨D, h1, h2, h3, h4⟩ := h; exact ⟨D, h1, h2, h3, fun k hk => by rw [hg k hk]; exact h4 k hk⟩
theorem MapFn.look (h : MapFn kt kl ok w m f N) (kk : KeyKit K kt kv kl ok) (ht : Tryz.prog.underlying t = some (.map kt e)) (hz : ∀ w, (zeroValue e).run Tryz.prog w = .ok (.pointer none) w) (k : K) (hk : ok k) :
    (Instr.lookup t (.map (some m)) (kv k) false).run Tryz.prog w = .ok (ptr (f k)) w := by
  obtain ⟨D, h1, h2, h3, h4⟩ := h; obtain ⟨v, ps, hrun, hv⟩ := h1.lookup kk.law ht (hz w) (ptrElem_ptr none) (kk.key k hk); obtain ⟨o, rfl, ho⟩ := ptrElem_inv hv; have h5 : dat (f k) = dat o := by rw [← (h4 k hk).1]; exact congrArg Prod.fst ho
  rw [dat_inj h5]; exact hrun
theorem MapFn.look2 (h : MapFn kt kl ok w m f N) (kk : KeyKit K kt kv kl ok) (ht : Tryz.prog.underlying t = some (.map kt e)) (hz : ∀ w, (zeroValue e).run Tryz.prog w = .ok (.pointer none) w) (k : K) (hk : ok k) :
    (Instr.lookup t (.map (some m)) (kv k) true).run Tryz.prog w = .ok (.tuple #[ptr (f k), .bool (f k).isSome]) w := by
  obtain ⟨D, h1, h2, h3, h4⟩ := h; obtain ⟨v, ps, hrun, hv⟩ := h1.look_ok kk.law ht (hz w) (ptrElem_ptr none) (kk.key k hk); obtain ⟨o, rfl, ho⟩ := ptrElem_inv hv; have h5 : dat (f k) = dat o := by rw [← (h4 k hk).1]; exact congrArg Prod.fst ho
  rw [← (h4 k hk).2, dat_inj h5]; exact hrun
def putK [DecidableEq K] (f : K → Option Nat) (k : K) (o : Option Nat) : K → Option Nat := fun x => if x = k then o else f x
theorem MapFn.put_ [DecidableEq K] (h : MapFn kt kl ok w m f N) (kk : KeyKit K kt kv kl ok) (ht : Tryz.prog.underlying t = some (.map kt e)) (hn : N < maxLen) (k : K) (hk : ok k) (q : Nat) :
    ∃ w', (Instr.mapUpdate t (.map (some m)) (kv k) (ptr (some q))).run Tryz.prog w = .ok () w' ∧ MapFn kt kl ok w' m (putK f k (some q)) (if (f k).isSome then N else N + 1) ∧ w.mapTurned w' m := by
  obtain ⟨D, h1, h2, h3, h4⟩ := h; obtain ⟨w', hrun, g1, g2⟩ := h1.store kk.law ht hn (kk.key k hk) (ptrElem_ptr (some q)); have hs : Maps.size (D.put (kl k) (dat (some q))) = if (f k).isSome then N else N + 1 := by rw [size_put h2, h3, (h4 k hk).2]
  refine ⟨w', hrun, ⟨_, hs ▸ ownsMap_size g1, h2.put (kk.lit k) _, hs, fun x hx => ?_⟩, g2⟩
  by_cases e : x = k
  · subst e; rw [atKey_put_same h2.isMap (kk.lit x), has_put_same h2.isMap (kk.lit x)]; simp [putK]
  · have hne : kl x ≠ kl k := fun he => e (kk.inj _ _ he)
    rw [atKey_put_other hne, has_put_other hne]; simp only [putK, if_neg e]; exact h4 x hx
theorem MapFn.del_ [DecidableEq K] (h : MapFn kt kl ok w m f (N + 1)) (kk : KeyKit K kt kv kl ok) (ht : Tryz.prog.underlying t = some (.map kt e)) (k : K) (hk : ok k) (hs : (f k).isSome = true) (ty : TypeId) :
    ∃ w', (Builtin.delete_ #[t, kt] ty #[.map (some m), kv k]).run Tryz.prog w = .ok (.tuple #[]) w' ∧ MapFn kt kl ok w' m (putK f k none) N ∧ w.mapTurned w' m := by
  obtain ⟨D, h1, h2, h3, h4⟩ := h; obtain ⟨w', hrun, g1, g2⟩ := h1.drop kk.law ht (kk.key k hk) ty; have hsz : Maps.size (D.del (kl k)) = N := by
    have := size_del (k := kl k) h2; rw [(h4 k hk).2, hs, h3] at this; simpa using this
  refine ⟨w', hrun, ⟨_, hsz ▸ ownsMap_size g1, h2.del _, hsz, fun x hx => ?_⟩, g2⟩
  by_cases e : x = k
  · subst e; rw [atKey_del_same, has_del_same]; simp [putK]
  · have hne : kl x ≠ kl k := fun he => e (kk.inj _ _ he)
    rw [atKey_del_other hne, has_del_other hne]; simp only [putK, if_neg e]; exact h4 x hx
theorem MapFn.len_ (h : MapFn kt kl ok w m f N) (ht : Tryz.prog.underlying t = some (.map kt e)) (ty : TypeId) : (Builtin.len_ #[t] ty #[.map (some m)]).run Tryz.prog w = .ok (.int .i64 N) w := by
  obtain ⟨D, h1, -, h3, -⟩ := h; rw [← h3]; exact h1.len ht ty
theorem mapFn_made (w : World) : MapFn kt kl ok (w.alloc (.map #[] 0)) w.heap.size (fun _ => none) 0 :=
  ⟨.map [], World.ownsMap_made w _ _ _, tidy_empty, rfl, fun _ _ => ⟨rfl, rfl⟩⟩
end
def klN : Int → Lit := fun k => Lit.int .i64 k
def okN : Int → Prop := fun k => (Lit.int .i64 k).wf = true
theorem kitN : KeyKit Int 3 (Value.int .i64) klN okN := ⟨int_keyed Tryz.underlying3, fun _ hk => keyOf_int_mk Tryz.underlying3 hk, fun k => by simp [klN, WideAt.IsKeyLit], fun a b h => by simpa [klN] using h⟩
theorem zeroENP (w : World) : (zeroValue 88).run Tryz.prog w = .ok (.pointer none) w := by kernel_rfl
theorem okN_of {k : Int} (h0 : 0 ≤ k) (h1 : k ≤ 2147483647) : okN k := WalkArith.wf_i64 (by omega)
end

section
open Go.RowKit Go.Maps
structure Who where
  t : Nat
  k : Int
abbrev Who.box : Who := ⟨0, 0⟩
abbrev Who.tab : Who := ⟨1, 0⟩
abbrev Who.map : Who := ⟨2, 0⟩
abbrev Who.pair (k : Int) : Who := ⟨3, k⟩
abbrev Who.out (k : Int) : Who := ⟨4, k⟩
abbrev Who.inn (k : Int) : Who := ⟨5, k⟩
structure Sto where
  s : Nat
  t : Nat
  hp : Nat
  m : Nat
  v : Value
  ps : List (EdgeV × Bool)
  ms : List EntI
  n : Nat
  G : Nat → Prop
  f : Int → Option Nat
  N : Nat
  ro : Int → Value
  ri : Int → Value
  rd : Int
  wr : Int
  L : Nat → Option Who
structure StMid [Inhabited EntI] (w : World) (X : Sto) (lo li : Int → List Int) : Prop where
  box : w.heap[X.s]? = some (.cells #[.pointer (some ⟨X.t, 0, none⟩), .map (some X.m), .int .i64 X.rd, .int .i64 X.wr] 81 (0, 0))
  tab : TAtE w X.t X.hp X.v 1024 X.ps X.ms X.n X.G
  map : MapFn 3 klN okN w X.m X.f X.N
  keys : ∀ k, X.f k ≠ none → 0 ≤ k ∧ k ≤ 2147483647
  pair : ∀ k q, X.f k = some q → w.heap[q]? = some (.cells #[X.ro k, X.ri k] 134 (0, 0))
  out : ∀ k q, X.f k = some q → NRow w (X.ro k) (lo k)
  inn : ∀ k q, X.f k = some q → NRow w (X.ri k) (li k)
  lbox : X.L X.s = some .box
  ltab : ∀ b, Feet X.t X.v X.G b → X.L b = some .tab
  lmap : X.L X.m = some .map
  lpair : ∀ k q, X.f k = some q → X.L q = some (.pair k)
  lout : ∀ k q b, X.f k = some q → (X.ro k).ownBlock = some b → X.L b = some (.out k)
  linn : ∀ k q b, X.f k = some q → (X.ri k).ownBlock = some b → X.L b = some (.inn k)
  lt : ∀ b, X.L b ≠ none → b < w.heap.size
structure StAt [Inhabited EntI] (w : World) (X : Sto) : Prop where
  mem : StMid w X (outs X.ps) (inns X.ps)
  edge : ∀ (i : Nat) (x : EdgeV), X.ps[i]? = some (x, true) → x.1 = (i : Int) + 1 ∧ X.f x.2.1 ≠ none ∧ X.f x.2.2.1 ≠ none
  size : X.N ≤ 256
def Foots (w : World) (L : Nat → Option Who) (w' : World) (L' : Nat → Option Who) : Prop := Turned (fun b => L b ≠ none) w w' ∧ ∀ b, L' b ≠ none → L b ≠ none ∨ w.heap.size ≤ b
theorem Foots.refl (w : World) (L : Nat → Option Who) : Foots w L w L := ⟨Turned.refl _ _, fun _ hb => .inl hb⟩
theorem Foots.below {w w' : World} (L : Nat → Option Who) (hb : Below w.heap.size w w') : Foots w L w' L := ⟨turned_of_below hb, fun _ hb => .inl hb⟩
theorem Foots.trans {w1 w2 w3 : World} {L1 L2 L3 : Nat → Option Who} (h : Foots w1 L1 w2 L2) (k : Foots w2 L2 w3 L3) : Foots w1 L1 w3 L3 := by
  obtain ⟨h3, h4⟩ := h; obtain ⟨k3, k4⟩ := k; refine ⟨?_, fun b hb => ?_⟩
  · exact h3.then_ k3 (fun i hi hs => (h4 i hs).elim id (fun e => absurd hi (by omega)))
  · rcases k4 b hb with e | e
    · exact h4 b e
    · exact .inr (Nat.le_trans h3.size e)
theorem Foots.old {w w' : World} {L L' : Nat → Option Who} (h : Foots w L w' L') {b : Nat} (hb : b < w.heap.size) (hn : L b = none) : w'.heap[b]? = w.heap[b]? ∧ L' b = none := by
  refine ⟨h.1.block b hb (fun e => e hn), ?_⟩
  cases e : L' b with
  | none => rfl
  | some l => exact ((h.2 b (by rw [e]; simp)).elim (fun e => absurd hn e) (fun e => absurd hb (by omega)))
section
variable [Inhabited EntI] {w w' : World} {X X' : Sto} {lo li : Int → List Int}
theorem StMid.ok (h : StMid w X lo li) {k : Int} {q : Nat} (hk : X.f k = some q) : okN k := by
  have := h.keys k (by rw [hk]; simp)
  exact okN_of this.1 this.2
theorem StMid.kept (h : StMid w X lo li) (hk : ∀ b, X.L b ≠ none → w'.heap[b]? = w.heap[b]?) (hs : w.heap.size ≤ w'.heap.size) : StMid w' X lo li := by
  have k1 : ∀ b l, X.L b = some l → w'.heap[b]? = w.heap[b]? := fun b l e => hk b (by rw [e]; simp)
  exact ⟨(k1 _ _ h.lbox).trans h.box, h.tab.kept (fun b hb => k1 _ _ (h.ltab b hb)), h.map.kept (k1 _ _ h.lmap), h.keys, fun k q e => (k1 _ _ (h.lpair k q e)).trans (h.pair k q e),
    fun k q e => nrow_kept (h.out k q e) (fun b hb => k1 _ _ (h.lout k q b e hb)), fun k q e => nrow_kept (h.inn k q e) (fun b hb => k1 _ _ (h.linn k q b e hb)),
    h.lbox, h.ltab, h.lmap, h.lpair, h.lout, h.linn, fun b hb => Nat.lt_of_lt_of_le (h.lt b hb) hs⟩
theorem StMid.below (h : StMid w X lo li) (hb : Below w.heap.size w w') : StMid w' X lo li := h.kept (fun b hb' => hb.block b (h.lt b hb')) hb.size
theorem StMid.draw (h : StMid w X lo li) (q : Nat) : StMid (w.drewN q) X lo li := h.below (below_drewN (Below.refl _ _) q)
theorem StMid.cells (h : StMid w X lo li) : w.cell? ⟨X.s, 0, none⟩ = some (.pointer (some ⟨X.t, 0, none⟩)) ∧ w.cell? ⟨X.s, 1, none⟩ = some (.map (some X.m)) ∧ w.cell? ⟨X.s, 2, none⟩ = some (.int .i64 X.rd) ∧ w.cell? ⟨X.s, 3, none⟩ = some (.int .i64 X.wr) ∧ ∀ o, w.frozen? ⟨X.s, o, none⟩ = false := by
  refine ⟨?_, ?_, ?_, ?_, fun o => frozen_of_row w _ o _ _ h.box⟩ <;> rw [cell_of_row w _ _ _ _ _ h.box] <;> rfl
theorem StMid.ends (h : StMid w X lo li) {k : Int} {q : Nat} (hk : X.f k = some q) : w.cell? ⟨q, 0, none⟩ = some (X.ro k) ∧ w.cell? ⟨q, 1, none⟩ = some (X.ri k) ∧ ∀ o, w.frozen? ⟨q, o, none⟩ = false := by
  refine ⟨?_, ?_, fun o => frozen_of_row w _ o _ _ (h.pair k q hk)⟩ <;> rw [cell_of_row w _ _ _ _ _ (h.pair k q hk)] <;> rfl
theorem StMid.look (h : StMid w X lo li) (k : Int) (hk : okN k) : (Instr.lookup 79 (.map (some X.m)) (.int .i64 k) false).run Tryz.prog w = .ok (ptr (X.f k)) w := h.map.look kitN Tryz.underlying79 zeroENP k hk
theorem StMid.look2 (h : StMid w X lo li) (k : Int) (hk : okN k) : (Instr.lookup 79 (.map (some X.m)) (.int .i64 k) true).run Tryz.prog w = .ok (.tuple #[ptr (X.f k), .bool (X.f k).isSome]) w := h.map.look2 kitN Tryz.underlying79 zeroENP k hk
theorem StAt.ok (h : StAt w X) {k : Int} {q : Nat} (hk : X.f k = some q) : okN k := h.mem.ok hk
theorem StAt.below (h : StAt w X) (hb : Below w.heap.size w w') : StAt w' X := ⟨h.mem.below hb, h.edge, h.size⟩
theorem StAt.kept (h : StAt w X) (hk : ∀ b, X.L b ≠ none → w'.heap[b]? = w.heap[b]?) (hs : w.heap.size ≤ w'.heap.size) : StAt w' X := ⟨h.mem.kept hk hs, h.edge, h.size⟩
theorem StAt.cells (h : StAt w X) : w.cell? ⟨X.s, 0, none⟩ = some (.pointer (some ⟨X.t, 0, none⟩)) ∧ w.cell? ⟨X.s, 1, none⟩ = some (.map (some X.m)) ∧ w.cell? ⟨X.s, 2, none⟩ = some (.int .i64 X.rd) ∧ w.cell? ⟨X.s, 3, none⟩ = some (.int .i64 X.wr) ∧ ∀ o, w.frozen? ⟨X.s, o, none⟩ = false := h.mem.cells
theorem StAt.look2 (h : StAt w X) (k : Int) (hk : okN k) : (Instr.lookup 79 (.map (some X.m)) (.int .i64 k) true).run Tryz.prog w = .ok (.tuple #[ptr (X.f k), .bool (X.f k).isSome]) w := h.mem.look2 k hk
theorem StAt.tab (h : StAt w X) : TAtE w X.t X.hp X.v 1024 X.ps X.ms X.n X.G := h.mem.tab
def Step (w : World) (X : Sto) (w' : World) (X' : Sto) : Prop := StAt w' X' ∧ X'.s = X.s ∧ Foots w X.L w' X'.L
theorem Step.refl (h : StAt w X) : Step w X w X := ⟨h, rfl, Foots.refl _ _⟩
theorem Step.below (h : StAt w X) (hb : Below w.heap.size w w') : Step w X w' X := ⟨h.below hb, rfl, Foots.below _ hb⟩
theorem Step.trans {w1 w2 w3 : World} {X1 X2 X3 : Sto} (h : Step w1 X1 w2 X2) (k : Step w2 X2 w3 X3) : Step w1 X1 w3 X3 := ⟨k.1, k.2.1.trans h.2.1, h.2.2.trans k.2.2⟩
end
def upd {α β : Type} [DecidableEq α] (f : α → β) (k : α) (y : β) : α → β := fun x => if x = k then y else f x
theorem upd_self {α β : Type} [DecidableEq α] (f : α → β) (k : α) (y : β) : upd f k y k = y := if_pos rfl
theorem upd_ne {α β : Type} [DecidableEq α] (f : α → β) {k x : α} (y : β) (h : x ≠ k) : upd f k y x = f x := if_neg h
end

end Go.Proofs.YtagibmgbjhemkaaGreat
