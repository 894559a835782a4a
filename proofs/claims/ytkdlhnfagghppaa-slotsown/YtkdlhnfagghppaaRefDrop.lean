/- The reference's Drop. -/
import Derived.Test.YtkdlhnfagghppaaRefLook
import Derived.Lib.AppendZeros
import Derived.Laws.ResultCell
import Derived.Deep.MidRow
import Derived.Deep.CutRange
namespace Go.Proofs.Ytkdlhnfagghppaa

section
open Go.RowKit Go.Maps
/-- A table's two cells, as a value. -/
theorem load27 (w : World) (g : Nat) (x y : Value) (c0 : w.cell? ⟨g, 0, none⟩ = some x) (c1 : w.cell? ⟨g, 1, none⟩ = some y) : (loadVar 27 ⟨g, 0, none⟩).run Try.prog w = .ok (.agg #[x, y]) w :=
  run_loadVar_mid (P := Try.prog) w g 0 27 [x, y] _ (fun j v hj => by
    match j with
    | 0 => simp at hj; subst hj; exact c0
    | 1 => simp at hj; subst hj; exact c1
    | j + 2 => simp at hj) Try.underlying27 rfl (by kernel_rfl)
theorem res2 {fn : Func} {p u : Tmp} (h : fn.results = #[.cell p 27, .tmp u]) (tmps : Array Value) (w : World) (g : Nat) (x y : Value) (hp : tmps.getD p undef = .pointer (some ⟨g, 0, none⟩)) (c0 : w.cell? ⟨g, 0, none⟩ = some x) (c1 : w.cell? ⟨g, 1, none⟩ = some y) :
    (results fn tmps).run Try.prog w = .ok (.tuple #[.agg #[x, y], tmps.getD u undef]) w := by
  rw [results_cell_tmp h, hp]
  simp only [asAddr, Sem.run_pure, Result.andThen_ok, load27 w g x y c0 c1]

/-- A box and a result's block. -/
theorem boxes (w : World) (x y x' y' : Value) : (((w.alloc (.cells #[x, y] 27)).alloc (.cells #[x', y'] 27)).cell? ⟨w.heap.size, 0, none⟩ = some x ∧ ((w.alloc (.cells #[x, y] 27)).alloc (.cells #[x', y'] 27)).cell? ⟨w.heap.size, 1, none⟩ = some y) ∧
    (((w.alloc (.cells #[x, y] 27)).alloc (.cells #[x', y'] 27)).cell? ⟨w.heap.size + 1, 0, none⟩ = some x' ∧ ((w.alloc (.cells #[x, y] 27)).alloc (.cells #[x', y'] 27)).cell? ⟨w.heap.size + 1, 1, none⟩ = some y') ∧
    (∀ o, ((w.alloc (.cells #[x, y] 27)).alloc (.cells #[x', y'] 27)).frozen? ⟨w.heap.size, o, none⟩ = false) ∧ (∀ o, ((w.alloc (.cells #[x, y] 27)).alloc (.cells #[x', y'] 27)).frozen? ⟨w.heap.size + 1, o, none⟩ = false) ∧
    ((w.alloc (.cells #[x, y] 27)).alloc (.cells #[x', y'] 27)).heap.size = w.heap.size + 2 ∧ Below w.heap.size w ((w.alloc (.cells #[x, y] 27)).alloc (.cells #[x', y'] 27)) := by
  have h1 := heap_alloc2_old w (.cells #[x, y] 27) (.cells #[x', y'] 27)
  have h2 := heap_alloc2_new w (.cells #[x, y] 27) (.cells #[x', y'] 27)
  refine ⟨⟨?_, ?_⟩, ⟨?_, ?_⟩, fun o => frozen_of_row _ _ o _ _ h1, fun o => frozen_of_row _ _ o _ _ h2, by simp, ((Below.refl _ _).alloc (Nat.le_refl _) _).alloc (by simp) _⟩
  · rw [cell_of_row _ _ _ _ _ _ h1]; rfl
  · rw [cell_of_row _ _ _ _ _ _ h1]; rfl
  · rw [cell_of_row _ _ _ _ _ _ h2]; rfl
  · rw [cell_of_row _ _ _ _ _ _ h2]; rfl

/-- Two cells are stored. -/
theorem stored2 {w : World} {g : Nat} {x0 y0 : Value} (c0 : w.cell? ⟨g, 0, none⟩ = some x0) (c1 : w.cell? ⟨g, 1, none⟩ = some y0) (x y : Value) :
    ((w.setCell ⟨g, 0, none⟩ x).setCell ⟨g, 1, none⟩ y).cell? ⟨g, 0, none⟩ = some x ∧ ((w.setCell ⟨g, 0, none⟩ x).setCell ⟨g, 1, none⟩ y).cell? ⟨g, 1, none⟩ = some y := by
  constructor
  · rw [World.cell?_setCell_other _ _ _ _ (by simp)]
    exact World.cell?_setCell_same _ _ _ c0
  · exact World.cell?_setCell_same _ _ _ ((World.cell?_setCell_other _ _ _ _ (by simp)).trans c1)
theorem below2 {B : Nat} {w w3 : World} {g : Nat} (h : Below B w w3) (hg : B ≤ g) (x y : Value) : Below B w ((w3.setCell ⟨g, 0, none⟩ x).setCell ⟨g, 1, none⟩ y) := (h.setCell (p := ⟨g, 0, none⟩) hg _).setCell (p := ⟨g, 1, none⟩) hg _

/-- What a call leaves of the two. -/
theorem boxes_kept {w W w3 : World} {x y x' y' : Value} (hs : W.heap.size = w.heap.size + 2) (hb : Below W.heap.size W w3) (a0 : W.cell? ⟨w.heap.size, 0, none⟩ = some x) (a1 : W.cell? ⟨w.heap.size, 1, none⟩ = some y) (r0 : W.cell? ⟨w.heap.size + 1, 0, none⟩ = some x') (r1 : W.cell? ⟨w.heap.size + 1, 1, none⟩ = some y')
    (fa : ∀ o, W.frozen? ⟨w.heap.size, o, none⟩ = false) (fr : ∀ o, W.frozen? ⟨w.heap.size + 1, o, none⟩ = false) :
    (w3.cell? ⟨w.heap.size, 0, none⟩ = some x ∧ w3.cell? ⟨w.heap.size, 1, none⟩ = some y) ∧ (w3.cell? ⟨w.heap.size + 1, 0, none⟩ = some x' ∧ w3.cell? ⟨w.heap.size + 1, 1, none⟩ = some y') ∧ (∀ o, w3.frozen? ⟨w.heap.size, o, none⟩ = false) ∧ ∀ o, w3.frozen? ⟨w.heap.size + 1, o, none⟩ = false := by
  have l1 : w.heap.size < W.heap.size := by omega
  have l2 : w.heap.size + 1 < W.heap.size := by omega
  exact ⟨⟨(hb.cell (p := ⟨w.heap.size, 0, none⟩) l1).trans a0, (hb.cell (p := ⟨w.heap.size, 1, none⟩) l1).trans a1⟩, ⟨(hb.cell (p := ⟨w.heap.size + 1, 0, none⟩) l2).trans r0, (hb.cell (p := ⟨w.heap.size + 1, 1, none⟩) l2).trans r1⟩,
    fun o => (hb.frozen (p := ⟨w.heap.size, o, none⟩) l1).trans (fa o), fun o => (hb.frozen (p := ⟨w.heap.size + 1, o, none⟩) l2).trans (fr o)⟩

set_option maxHeartbeats 1000000 in
set_option maxRecDepth 100000 in
theorem refPutNo {v : Value} {its : List (Int × Int)} (most i x : Int) (w : World) (h : w.ownsRow 0 47 2 v its.length (enc .i64 its)) (hn : its.length ≤ 1000000) (hi : i < 1 ∨ most < i ∨ ¬ Out its i) :
    Calls Try.prog 32 #[.agg #[.int .i64 most, v], .int .i64 i, .int .i64 x] w fun e w' => e = .returned (.tuple #[.agg #[.int .i64 most, v], .bool false]) ∧ Hid (Below w.heap.size w w') := by
  obtain ⟨⟨a0, a1⟩, ⟨r0, r1⟩, fa, fr, hsz, hb⟩ := boxes w (.int .i64 most) v (.int .i64 0) (.slice none 0 0)
  have H2 := hide (items_below h hb)
  obtain ⟨a, c, rfl⟩ := item_shape h
  have HI := hide hi
  have HN := hide hn
  have HB := hide hb
  have HSZ := hide hsz
  generalize hL : its.length = L at *
  have HL := hide hL
  clear h hi hn hb hsz hL
  go_enter Try.func32, Try.ntmps32
  go_upto_region 1 with fail
  generalize ((w.alloc (.cells #[.int .i64 most, .slice a L c] 27)).alloc (.cells #[.int .i64 0, .slice none 0 0] 27)) = W at *
  have HR := hide (stored2 r0 r1 (.int .i64 most) (.slice a L c))
  have HBR := hide (below2 (unhide HB) (by omega : w.heap.size ≤ w.heap.size + 1) (.int .i64 most) (.slice a L c))
  by_cases h1 : i < 1
  · go_wp2_with fail
    (try simp only [Exit.inBlock, Exit.then])
    refine bodyPost_ret (res2 rfl _ _ (w.heap.size + 1) _ _ rfl (unhide HR).1 (unhide HR).2) rfl ?_
    exact ⟨rfl, unhide HBR⟩
  · by_cases h3 : most < i
    · go_wp2_with fail
      (try simp only [Exit.inBlock, Exit.then])
      refine bodyPost_ret (res2 rfl _ _ (w.heap.size + 1) _ _ rfl (unhide HR).1 (unhide HR).2) rfl ?_
      exact ⟨rfl, unhide HBR⟩
    · have HIN : Hid (¬ Out its i) := by
        rcases unhide HI with hi | hi | hi
        · exact absurd hi h1
        · exact absurd hi h3
        · exact hi
      have CF := hide (refFind most i W (by rw [unhide HL]; exact unhide H2) (by rw [unhide HL]; exact unhide HN))
      clear HR HBR HI
      go_wp2_with fail
      refine (unhide CF).mono ?_
      rintro e w3 ⟨r, rfl, h3⟩
      obtain ⟨ha, hb3⟩ := unhide h3
      have hr : 0 ≤ r := by
        rcases Int.lt_or_le r 0 with e | e
        · exact absurd (out_of ha e) (unhide HIN)
        · exact e
      obtain ⟨⟨d0, d1⟩, ⟨e0, e1⟩, -, ef⟩ := boxes_kept (unhide HSZ) hb3 a0 a1 r0 r1 fa fr
      have HR := hide (stored2 e0 e1 (.int .i64 most) (.slice a L c))
      have HBR := hide (below2 ((unhide HB).trans (hb3.mono (unhide HB).size)) (by omega : w.heap.size ≤ w.heap.size + 1) (.int .i64 most) (.slice a L c))
      clear CF h3 ha hb3 HB HSZ H2 HN a0 a1 r0 r1 fa fr
      go_wp2_with fail
      (try simp only [Exit.inBlock, Exit.then])
      refine bodyPost_ret (res2 rfl _ _ (w.heap.size + 1) _ _ rfl (unhide HR).1 (unhide HR).2) rfl ?_
      exact ⟨rfl, unhide HBR⟩

theorem info47 : (Try.prog.info? 47).map (fun i => (i.zero, i.size, i.bytes)) = some (some (.agg #[.int .i64 0, .int .i64 0]), 2, 16) := by kernel_rfl

/-- A copy of the list (which is there). -/
theorem copyRow {W : World} {g cap : Nat} {its : List (Int × Int)} (h : W.ownsRow 0 47 2 (.slice (some ⟨g, 0, none⟩) its.length cap) its.length (enc .i64 its)) (hn : its.length ≤ 1000000) :
    ∃ a1 c1 w2, (Builtin.append_ #[25, 25] 25 #[.slice (some ⟨W.heap.size, 0, none⟩) 0 0, .slice (some ⟨g, 0, none⟩) its.length cap]).run Try.prog (W.alloc (.cells #[] 47)) = .ok (.slice a1 its.length c1) w2 ∧
      w2.ownsRow W.heap.size 47 2 (.slice a1 its.length c1) its.length (enc .i64 its) ∧ Below W.heap.size W w2 ∧ W.heap.size + 1 ≤ w2.heap.size := by
  obtain ⟨i0, hi0, hz0, hzs, hzb⟩ := info_parts info47
  have hmade : (W.alloc (.cells #[] 47)).ownsRow W.heap.size 47 2 (.slice (some ⟨W.heap.size, 0, none⟩) 0 0) 0 [] := World.ownsRow_made W #[] 0 (Nat.le_refl _) (by unfold maxLen; omega) rfl
  have hc := @World.ownsRow.cells _ _ _ _ _ _ _ h
  obtain ⟨v1, w2, hr1, hown1, hgr1, -⟩ := run_append_own (P := Try.prog) (W.alloc (.cells #[] 47)) W.heap.size 25 25 47 i0 _ 2 16 Try.underlying25 hi0 hz0 hzs hzb rfl (by omega) _ 0 [] hmade ⟨g, 0, none⟩ its.length cap (enc .i64 its) (enc_length _ _)
    (fun j u hj => by
      have := hc rfl j u hj
      exact (((Below.refl W.heap.size W).alloc (Nat.le_refl _) (.cells #[] 47)).cell (World.block_lt_of_cell? _ _ this)).trans this) (enc_one _ _) (by unfold maxLen; omega) (by omega) (by simp)
  rw [Nat.zero_add, List.nil_append] at hown1
  have hs2 : W.heap.size + 1 ≤ w2.heap.size := by have := hgr1.size; simp at this; omega
  obtain ⟨a1, c1, rfl⟩ : ∃ a1 c1, v1 = .slice a1 its.length c1 := by
    rcases hown1.2 with ⟨rfl, h3⟩ | ⟨g', cap', cur', rfl, -⟩
    · exact ⟨none, 0, by rw [h3]⟩
    · exact ⟨_, _, rfl⟩
  exact ⟨a1, c1, w2, hr1, hown1, ((Below.refl W.heap.size W).alloc (Nat.le_refl _) (.cells #[] 47)).grown hgr1 (by simp) (fun j hj => by simp [Value.ownBlock] at hj; omega), hs2⟩

/-- An item behind a list that lies from B on. -/
theorem snocRow {w2 : World} {B : Nat} {v1 : Value} {its : List (Int × Int)} (h : w2.ownsRow B 47 2 v1 its.length (enc .i64 its)) (hn : its.length ≤ 1000000) (hB : B ≤ w2.heap.size) (k x : Int) :
    ∃ v2 w4, (Builtin.append_ #[25, 25] 25 #[v1, .slice (some ⟨w2.heap.size, 0, none⟩) 1 1]).run Try.prog (w2.alloc (.cells #[.int .i64 k, .int .i64 x] 47)) = .ok v2 w4 ∧
      w4.ownsRow B 47 2 v2 (its.length + 1) (enc .i64 (its ++ [(k, x)])) ∧ Below B w2 w4 := by
  obtain ⟨i0, hi0, hz0, hzs, hzb⟩ := info_parts info47
  have hown1' : (w2.alloc (.cells #[.int .i64 k, .int .i64 x] 47)).ownsRow B 47 2 v1 its.length (enc .i64 its) := by
    refine ⟨h.1, ?_⟩
    rcases h.2 with hq | ⟨g', cap', cur', e1, hb1, hgg, rest⟩
    · exact .inl hq
    · exact .inr ⟨g', cap', cur', e1, hb1, (((Below.refl w2.heap.size w2).alloc (Nat.le_refl _) _).block g' (Array.getElem?_eq_some_iff.1 hgg).1).trans hgg, rest⟩
  obtain ⟨v2, w4, hr2, hown2, hgr2, -⟩ := run_append_own (P := Try.prog) (w2.alloc (.cells #[.int .i64 k, .int .i64 x] 47)) B 25 25 47 i0 _ 2 16 Try.underlying25 hi0 hz0 hzs hzb rfl (by omega) v1 its.length (enc .i64 its) hown1' ⟨w2.heap.size, 0, none⟩ 1 1 [.int .i64 k, .int .i64 x] rfl
    (fun j u hj => by
      have add : (⟨w2.heap.size, 0, none⟩ : Addr).add j = ⟨w2.heap.size, j, none⟩ := by unfold Addr.add; split <;> simp_all
      have h1 : j < 2 := by
        have := (List.getElem?_eq_some_iff.1 hj).1
        simpa using this
      rw [add, World.cell?_alloc_at _ _ _ _ (by simp)]
      match j, h1 with
      | 0, _ => simpa using hj
      | 1, _ => simpa using hj) (by intro u hu; simp at hu; rcases hu with rfl | rfl <;> rfl) (by unfold maxLen; omega) (by omega) (by simp; omega)
  exact ⟨v2, w4, hr2, by rw [enc_append]; exact hown2, ((Below.refl B w2).alloc hB _).grown hgr2 (by simp; omega) (fun j hj => (h.lt j hj).1)⟩
end

section
open Go.RowKit Go.Maps
theorem row_low {w w' : World} {v : Value} {B B' L : Nat} {xs : List Value} (h : w.ownsRow B 47 2 v L xs) (hB : B' ≤ B) (hk : ∀ k, v.ownBlock = some k → w'.heap[k]? = w.heap[k]?) : w'.ownsRow B' 47 2 v L xs := by
  refine ⟨h.1, ?_⟩
  rcases h.2 with hn | ⟨g, cap, cur, rfl, hb, hgg, rest⟩
  · exact .inl hn
  · exact .inr ⟨g, cap, cur, rfl, Nat.le_trans hB hb, (hk g rfl).trans hgg, rest⟩

theorem cell_made {w : World} {p : Addr} {v : Value} (o : Obj) (h : w.cell? p = some v) : (w.alloc o).cell? p = some v :=
  (((Below.refl w.heap.size w).alloc (Nat.le_refl _) o).cell (World.block_lt_of_cell? _ _ h)).trans h

/-- Behind the stores into the box and the result. -/
theorem put_end {w w3 w5 : World} {v2 : Value} {L : Nat} {xs : List Value} {x : Value} (h3 : w.heap.size + 2 ≤ w3.heap.size) (h5 : w5.ownsRow w3.heap.size 47 2 v2 L xs) (hb : Below w.heap.size w w5) :
    (((w5.setCell ⟨w.heap.size, 1, none⟩ v2).setCell ⟨w.heap.size + 1, 0, none⟩ x).setCell ⟨w.heap.size + 1, 1, none⟩ v2).ownsRow w.heap.size 47 2 v2 L xs ∧ Below w.heap.size w (((w5.setCell ⟨w.heap.size, 1, none⟩ v2).setCell ⟨w.heap.size + 1, 0, none⟩ x).setCell ⟨w.heap.size + 1, 1, none⟩ v2) := by
  refine ⟨row_low h5 (by omega) (fun k hk => ?_), below2 (hb.setCell (p := ⟨w.heap.size, 1, none⟩) (Nat.le_refl _) _) (by omega) _ _⟩
  have hk1 := (h5.lt k hk).1
  have n1 : k ≠ w.heap.size := by omega
  have n2 : k ≠ w.heap.size + 1 := by omega
  rw [heap_setCell_other _ _ _ _ n2, heap_setCell_other _ _ _ _ n2, heap_setCell_other _ _ _ _ n1]

/-- What is read behind the store into the box. -/
theorem put_cells {w w5 : World} {x y x' y' v2 : Value} (c : (w5.cell? ⟨w.heap.size, 0, none⟩ = some x ∧ w5.cell? ⟨w.heap.size, 1, none⟩ = some y) ∧ (w5.cell? ⟨w.heap.size + 1, 0, none⟩ = some x' ∧ w5.cell? ⟨w.heap.size + 1, 1, none⟩ = some y') ∧ (∀ o, w5.frozen? ⟨w.heap.size, o, none⟩ = false) ∧ ∀ o, w5.frozen? ⟨w.heap.size + 1, o, none⟩ = false) :
    ((w5.setCell ⟨w.heap.size, 1, none⟩ v2).cell? ⟨w.heap.size, 0, none⟩ = some x ∧ (w5.setCell ⟨w.heap.size, 1, none⟩ v2).cell? ⟨w.heap.size, 1, none⟩ = some v2) ∧
    ((w5.setCell ⟨w.heap.size, 1, none⟩ v2).cell? ⟨w.heap.size + 1, 0, none⟩ = some x' ∧ (w5.setCell ⟨w.heap.size, 1, none⟩ v2).cell? ⟨w.heap.size + 1, 1, none⟩ = some y') ∧ ∀ o, (w5.setCell ⟨w.heap.size, 1, none⟩ v2).frozen? ⟨w.heap.size + 1, o, none⟩ = false := by
  obtain ⟨⟨c0, c1⟩, ⟨d0, d1⟩, -, f⟩ := c
  refine ⟨⟨(World.cell?_setCell_other _ _ _ _ (by simp)).trans c0, World.cell?_setCell_same _ _ _ c1⟩, ⟨(World.cell?_setCell_other _ _ _ _ (by simp)).trans d0, (World.cell?_setCell_other _ _ _ _ (by simp)).trans d1⟩, fun o => (World.frozen?_setCell _ _ _ _).trans (f o)⟩

set_option maxHeartbeats 1000000 in
set_option maxRecDepth 100000 in
theorem refPutYes {v : Value} {its : List (Int × Int)} (most i x : Int) (w : World) (h : w.ownsRow 0 47 2 v its.length (enc .i64 its)) (hn : its.length ≤ 1000000) (hi1 : 1 ≤ i) (hi2 : i ≤ most) (ho : Out its i) :
    Calls Try.prog 32 #[.agg #[.int .i64 most, v], .int .i64 i, .int .i64 x] w fun e w' => ∃ v', e = .returned (.tuple #[.agg #[.int .i64 most, v'], .bool true]) ∧ Hid (w'.ownsRow w.heap.size 47 2 v' (its.length + 1) (enc .i64 (its ++ [(i, x)])) ∧ Below w.heap.size w w') := by
  obtain ⟨⟨a0, a1⟩, ⟨r0, r1⟩, fa, fr, hsz, hb⟩ := boxes w (.int .i64 most) v (.int .i64 0) (.slice none 0 0)
  have h2 := items_below h hb
  have h1 : ¬ i < 1 := by omega
  have h3 : ¬ most < i := by omega
  have CF := hide (refFind most i _ h2 hn)
  have HO := hide ho
  have HS2 := hide hsz
  rcases h.2 with ⟨rfl, h0⟩ | ⟨g, cap, cur, rfl, -, hg, -⟩
  · obtain rfl : its = [] := List.eq_nil_of_length_eq_zero h0
    have HQ : Hid (∀ w3, Below ((w.alloc (.cells #[.int .i64 most, .slice none 0 0] 27)).alloc (.cells #[.int .i64 0, .slice none 0 0] 27)).heap.size ((w.alloc (.cells #[.int .i64 most, .slice none 0 0] 27)).alloc (.cells #[.int .i64 0, .slice none 0 0] 27)) w3 → ∃ v2 w5, (Builtin.append_ #[25, 25] 25 #[.slice (some ⟨w3.heap.size, 0, none⟩) 0 0, .slice (some ⟨w3.heap.size + 1, 0, none⟩) 1 1]).run Try.prog ((w3.alloc (.cells #[] 47)).alloc (.cells #[.int .i64 i, .int .i64 x] 47)) = .ok v2 w5 ∧ (∃ a2 c2, v2 = .slice a2 1 c2) ∧
        ((w5.cell? ⟨w.heap.size, 0, none⟩ = some (.int .i64 most) ∧ w5.cell? ⟨w.heap.size, 1, none⟩ = some (.slice none 0 0)) ∧ (w5.cell? ⟨w.heap.size + 1, 0, none⟩ = some (.int .i64 0) ∧ w5.cell? ⟨w.heap.size + 1, 1, none⟩ = some (.slice none 0 0)) ∧ (∀ o, w5.frozen? ⟨w.heap.size, o, none⟩ = false) ∧ ∀ o, w5.frozen? ⟨w.heap.size + 1, o, none⟩ = false) ∧
        Hid ((((w5.setCell ⟨w.heap.size, 1, none⟩ v2).setCell ⟨w.heap.size + 1, 0, none⟩ (.int .i64 most)).setCell ⟨w.heap.size + 1, 1, none⟩ v2).ownsRow w.heap.size 47 2 v2 1 (enc .i64 [(i, x)]) ∧ Below w.heap.size w (((w5.setCell ⟨w.heap.size, 1, none⟩ v2).setCell ⟨w.heap.size + 1, 0, none⟩ (.int .i64 most)).setCell ⟨w.heap.size + 1, 1, none⟩ v2))) := fun w3 hb3 => by
      have hmade : (w3.alloc (.cells #[] 47)).ownsRow w3.heap.size 47 2 (.slice (some ⟨w3.heap.size, 0, none⟩) 0 0) ([] : List (Int × Int)).length (enc .i64 []) := World.ownsRow_made w3 #[] 0 (Nat.le_refl _) (by unfold maxLen; omega) rfl
      obtain ⟨v2, w5, q1, q2, q3⟩ := snocRow (B := w3.heap.size) hmade (by simp) (by simp) i x
      have hs3 : (w3.alloc (.cells #[] 47)).heap.size = w3.heap.size + 1 := by simp
      rw [hs3] at q1
      have b5 : Below w3.heap.size w3 w5 := ((Below.refl w3.heap.size w3).alloc (Nat.le_refl _) (.cells #[] 47)).trans q3
      have bW := hb3.trans (b5.mono hb3.size)
      have l3 : w.heap.size + 2 ≤ w3.heap.size := by have := hb3.size; omega
      obtain ⟨a2, c2, hv2⟩ := item_shape (items_kept q2 (fun _ _ => rfl))
      exact ⟨v2, w5, q1, ⟨a2, c2, by simpa using hv2⟩, boxes_kept hsz bW a0 a1 r0 r1 fa fr, put_end l3 (by simpa using q2) (hb.trans (bW.mono hb.size))⟩
    clear h hn hi1 hi2 ho hb hsz h2 h0
    go_enter Try.func32, Try.ntmps32
    go_upto_region 1 with fail
    generalize ((w.alloc (.cells #[.int .i64 most, .slice none 0 0] 27)).alloc (.cells #[.int .i64 0, .slice none 0 0] 27)) = W at *
    go_wp2_with fail
    refine (unhide CF).mono ?_
    rintro e w3 ⟨r, rfl, h4⟩
    obtain ⟨ha, hb3⟩ := unhide h4
    have hr : r < 0 := by
      rcases Int.lt_or_le r 0 with e | e
      · exact e
      · exact absurd (unhide HO) (in_of ha (by omega))
    obtain ⟨v2, w5, q1, ⟨a2, c2, rfl⟩, qc, qe⟩ := unhide HQ w3 hb3
    obtain ⟨⟨d0, d1⟩, -, -, -⟩ := boxes_kept (unhide HS2) hb3 a0 a1 r0 r1 fa fr
    have d2 := cell_made (.cells #[] 47) d1
    obtain ⟨⟨m0, m1⟩, ⟨m2, m3⟩, mf⟩ := put_cells (v2 := .slice a2 1 c2) qc
    obtain ⟨⟨-, k1⟩, -, kf, -⟩ := qc
    have HR := hide (stored2 m2 m3 (.int .i64 most) (.slice a2 1 c2))
    have HR2 := hide q1
    clear CF h4 ha hb3 HQ HO q1 a0 a1 r0 r1 fa fr
    go_wp2_with (at_builtin; refine Lib.wpList_append_run _ rfl _ _ 25 25 rfl (.slice (some ⟨w3.heap.size, 0, none⟩) 0 0) (.slice (some ⟨w3.heap.size + 1, 0, none⟩) 1 1) rfl rfl _ _ HR2.out ?_)
    (try simp only [Exit.inBlock, Exit.then])
    refine bodyPost_ret (res2 rfl _ _ (w.heap.size + 1) _ _ rfl (unhide HR).1 (unhide HR).2) rfl ?_
    exact ⟨_, rfl, unhide qe⟩
  · have HQ : Hid (∀ w3, Below ((w.alloc (.cells #[.int .i64 most, .slice (some ⟨g, 0, none⟩) its.length cap] 27)).alloc (.cells #[.int .i64 0, .slice none 0 0] 27)).heap.size ((w.alloc (.cells #[.int .i64 most, .slice (some ⟨g, 0, none⟩) its.length cap] 27)).alloc (.cells #[.int .i64 0, .slice none 0 0] 27)) w3 → ∃ b1 c1 w4 v2 w5, (Builtin.append_ #[25, 25] 25 #[.slice (some ⟨w3.heap.size, 0, none⟩) 0 0, .slice (some ⟨g, 0, none⟩) its.length cap]).run Try.prog (w3.alloc (.cells #[] 47)) = .ok (.slice b1 its.length c1) w4 ∧ (Builtin.append_ #[25, 25] 25 #[.slice b1 its.length c1, .slice (some ⟨w4.heap.size, 0, none⟩) 1 1]).run Try.prog (w4.alloc (.cells #[.int .i64 i, .int .i64 x] 47)) = .ok v2 w5 ∧ (∃ a2 c2, v2 = .slice a2 (its.length + 1) c2) ∧
        ((w5.cell? ⟨w.heap.size, 0, none⟩ = some (.int .i64 most) ∧ w5.cell? ⟨w.heap.size, 1, none⟩ = some (.slice (some ⟨g, 0, none⟩) its.length cap)) ∧ (w5.cell? ⟨w.heap.size + 1, 0, none⟩ = some (.int .i64 0) ∧ w5.cell? ⟨w.heap.size + 1, 1, none⟩ = some (.slice none 0 0)) ∧ (∀ o, w5.frozen? ⟨w.heap.size, o, none⟩ = false) ∧ ∀ o, w5.frozen? ⟨w.heap.size + 1, o, none⟩ = false) ∧
        Hid ((((w5.setCell ⟨w.heap.size, 1, none⟩ v2).setCell ⟨w.heap.size + 1, 0, none⟩ (.int .i64 most)).setCell ⟨w.heap.size + 1, 1, none⟩ v2).ownsRow w.heap.size 47 2 v2 (its.length + 1) (enc .i64 (its ++ [(i, x)])) ∧ Below w.heap.size w (((w5.setCell ⟨w.heap.size, 1, none⟩ v2).setCell ⟨w.heap.size + 1, 0, none⟩ (.int .i64 most)).setCell ⟨w.heap.size + 1, 1, none⟩ v2))) := fun w3 hb3 => by
      obtain ⟨b1, c1, w4, p1, p2, p3, p4⟩ := copyRow (items_below h2 hb3) hn
      obtain ⟨v2, w5, q1, q2, q3⟩ := snocRow (B := w3.heap.size) p2 hn p3.size i x
      have b5 : Below w3.heap.size w3 w5 := p3.trans q3
      have bW := hb3.trans (b5.mono hb3.size)
      have l3 : w.heap.size + 2 ≤ w3.heap.size := by have := hb3.size; omega
      obtain ⟨a2, c2, hv2⟩ := item_shape (items_kept q2 (fun _ _ => rfl))
      exact ⟨b1, c1, w4, v2, w5, p1, q1, ⟨a2, c2, hv2⟩, boxes_kept hsz bW a0 a1 r0 r1 fa fr, put_end l3 q2 (hb.trans (bW.mono hb.size))⟩
    generalize its.length = L at *
    clear h hn hi1 hi2 ho hb hsz h2 hg
    go_enter Try.func32, Try.ntmps32
    go_upto_region 1 with fail
    generalize ((w.alloc (.cells #[.int .i64 most, .slice (some ⟨g, 0, none⟩) L cap] 27)).alloc (.cells #[.int .i64 0, .slice none 0 0] 27)) = W at *
    go_wp2_with fail
    refine (unhide CF).mono ?_
    rintro e w3 ⟨r, rfl, h4⟩
    obtain ⟨ha, hb3⟩ := unhide h4
    have hr : r < 0 := by
      rcases Int.lt_or_le r 0 with e | e
      · exact e
      · exact absurd (unhide HO) (in_of ha (by omega))
    obtain ⟨b1, c1, w4, v2, w5, q0, q1, ⟨a2, c2, rfl⟩, qc, qe⟩ := unhide HQ w3 hb3
    obtain ⟨⟨d0, d1⟩, -, -, -⟩ := boxes_kept (unhide HS2) hb3 a0 a1 r0 r1 fa fr
    have d2 := cell_made (.cells #[] 47) d1
    obtain ⟨⟨m0, m1⟩, ⟨m2, m3⟩, mf⟩ := put_cells (v2 := .slice a2 (L + 1) c2) qc
    obtain ⟨⟨-, k1⟩, -, kf, -⟩ := qc
    have HR := hide (stored2 m2 m3 (.int .i64 most) (.slice a2 (L + 1) c2))
    have HR1 := hide q0
    have HR2 := hide q1
    clear CF h4 ha hb3 HQ HO q0 q1 a0 a1 r0 r1 fa fr
    go_wp2_with (at_builtin; first | (refine Lib.wpList_append_run _ rfl _ _ 25 25 rfl (.slice (some ⟨w3.heap.size, 0, none⟩) 0 0) (.slice (some ⟨g, 0, none⟩) L cap) rfl rfl _ _ HR1.out ?_) | (refine Lib.wpList_append_run _ rfl _ _ 25 25 rfl (.slice b1 L c1) (.slice (some ⟨w4.heap.size, 0, none⟩) 1 1) rfl rfl _ _ HR2.out ?_))
    (try simp only [Exit.inBlock, Exit.then])
    refine bodyPost_ret (res2 rfl _ _ (w.heap.size + 1) _ _ rfl (unhide HR).1 (unhide HR).2) rfl ?_
    exact ⟨_, rfl, unhide qe⟩
end

section
open Go.RowKit Go.Maps
theorem enc_set (k : IntKind) : ∀ (its : List (Int × Int)) (i : Nat) (x : Int × Int), enc k (its.set i x) = ((enc k its).set (i * 2) (.int k x.1)).set (i * 2 + 1) (.int k x.2)
  | [], i, x => by simp [enc]
  | r :: rs, 0, x => by simp [enc]
  | r :: rs, i + 1, x => by
    rw [List.set_cons_succ, enc_cons, enc_set k rs i x, enc_cons, show (i + 1) * 2 = i * 2 + 1 + 1 by omega, show i * 2 + 1 + 1 + 1 = (i * 2 + 1) + 1 + 1 by omega]
    simp only [List.set_cons_succ]
theorem enc_set_hi (k : IntKind) {its : List (Int × Int)} {i : Nat} (h : i < its.length) (x : Int) : enc k (its.set i (lo its i, x)) = (enc k its).set (i * 2 + 1) (.int k x) := by
  rw [enc_set]
  congr 1
  apply List.ext_getElem?
  intro j
  by_cases e : i * 2 = j
  · subst e
    rw [List.getElem?_set_self (by rw [enc_length]; omega), enc_lo k its i h]
  · rw [List.getElem?_set_ne e]

theorem at_one {its : List (Int × Int)} {k r : Int} {j : Nat} (h : AtIs its k r) (hj : j < its.length) (e : lo its j = k) (hu : ∀ m, m < its.length → lo its m = k → m = j) : r = (j : Int) := by
  rcases h with ⟨-, h⟩ | ⟨i, h1, h2, h3, -⟩
  · exact absurd e (h j hj)
  · rw [h2, hu i h1 h3]

set_option maxHeartbeats 1000000 in
set_option maxRecDepth 100000 in
theorem refSetNo {v : Value} {its : List (Int × Int)} (most i x : Int) (w : World) (h : w.ownsRow 0 47 2 v its.length (enc .i64 its)) (hn : its.length ≤ 1000000) (ho : Out its i) :
    Calls Try.prog 34 #[.agg #[.int .i64 most, v], .int .i64 i, .int .i64 x] w fun e w' => e = .returned (.tuple #[.agg #[.int .i64 most, v], .bool false]) ∧ Hid (Below w.heap.size w w') := by
  obtain ⟨⟨a0, a1⟩, ⟨r0, r1⟩, fa, fr, hsz, hb⟩ := boxes w (.int .i64 most) v (.int .i64 0) (.slice none 0 0)
  have CF := hide (refFind most i _ (items_below h hb) hn)
  obtain ⟨a, c, rfl⟩ := item_shape h
  have HO := hide ho
  have HB := hide hb
  have HSZ := hide hsz
  generalize hL : its.length = L at *
  clear h hn ho hb hsz hL
  go_enter Try.func34, Try.ntmps34
  go_upto_region 1 with fail
  generalize ((w.alloc (.cells #[.int .i64 most, .slice a L c] 27)).alloc (.cells #[.int .i64 0, .slice none 0 0] 27)) = W at *
  go_wp2_with fail
  refine (unhide CF).mono ?_
  rintro e w3 ⟨r, rfl, h3⟩
  obtain ⟨ha, hb3⟩ := unhide h3
  have hr : r < 0 := by
    rcases Int.lt_or_le r 0 with e | e
    · exact e
    · exact absurd (unhide HO) (in_of ha (by omega))
  obtain ⟨⟨d0, d1⟩, ⟨e0, e1⟩, -, ef⟩ := boxes_kept (unhide HSZ) hb3 a0 a1 r0 r1 fa fr
  have HR := hide (stored2 e0 e1 (.int .i64 most) (.slice a L c))
  have HBR := hide (below2 ((unhide HB).trans (hb3.mono (unhide HB).size)) (by omega : w.heap.size ≤ w.heap.size + 1) (.int .i64 most) (.slice a L c))
  clear CF h3 ha hb3 HB HSZ a0 a1 r0 r1 fa fr
  go_wp2_with fail
  (try simp only [Exit.inBlock, Exit.then])
  refine bodyPost_ret (res2 rfl _ _ (w.heap.size + 1) _ _ rfl (unhide HR).1 (unhide HR).2) rfl ?_
  exact ⟨rfl, unhide HBR⟩

set_option maxHeartbeats 1000000 in
set_option maxRecDepth 100000 in
theorem refSetYes {v : Value} {its : List (Int × Int)} (most i x : Int) (j : Nat) (w : World) (h : w.ownsRow 0 47 2 v its.length (enc .i64 its)) (hn : its.length ≤ 1000000) (hj : j < its.length) (hji : lo its j = i) (hu : ∀ m, m < its.length → lo its m = i → m = j) :
    Calls Try.prog 34 #[.agg #[.int .i64 most, v], .int .i64 i, .int .i64 x] w fun e w' => ∃ v', e = .returned (.tuple #[.agg #[.int .i64 most, v'], .bool true]) ∧ Hid (w'.ownsRow w.heap.size 47 2 v' its.length (enc .i64 (its.set j (i, x))) ∧ Below w.heap.size w w') := by
  obtain ⟨⟨a0, a1⟩, ⟨r0, r1⟩, fa, fr, hsz, hb⟩ := boxes w (.int .i64 most) v (.int .i64 0) (.slice none 0 0)
  have h2 := items_below h hb
  have CF := hide (refFind most i _ h2 hn)
  have HS2 := hide hsz
  have HJ : Hid (∀ r, AtIs its i r → r = (j : Int)) := fun r hr => at_one hr hj hji hu
  obtain ⟨g, cap, rfl⟩ := item_block h (by omega)
  have HQ : Hid (∀ w3, Below ((w.alloc (.cells #[.int .i64 most, .slice (some ⟨g, 0, none⟩) its.length cap] 27)).alloc (.cells #[.int .i64 0, .slice none 0 0] 27)).heap.size ((w.alloc (.cells #[.int .i64 most, .slice (some ⟨g, 0, none⟩) its.length cap] 27)).alloc (.cells #[.int .i64 0, .slice none 0 0] 27)) w3 → ∃ b1 c1 w4, (Builtin.append_ #[25, 25] 25 #[.slice (some ⟨w3.heap.size, 0, none⟩) 0 0, .slice (some ⟨g, 0, none⟩) its.length cap]).run Try.prog (w3.alloc (.cells #[] 47)) = .ok (.slice (some ⟨b1, 0, none⟩) its.length c1) w4 ∧
      ((w4.cell? ⟨w.heap.size, 0, none⟩ = some (.int .i64 most) ∧ w4.cell? ⟨w.heap.size, 1, none⟩ = some (.slice (some ⟨g, 0, none⟩) its.length cap)) ∧ (w4.cell? ⟨w.heap.size + 1, 0, none⟩ = some (.int .i64 0) ∧ w4.cell? ⟨w.heap.size + 1, 1, none⟩ = some (.slice none 0 0)) ∧ (∀ o, w4.frozen? ⟨w.heap.size, o, none⟩ = false) ∧ ∀ o, w4.frozen? ⟨w.heap.size + 1, o, none⟩ = false) ∧
      (b1 ≠ w.heap.size ∧ b1 ≠ w.heap.size + 1 ∧ (∃ u, w4.cell? ⟨b1, j * 2 + 1, none⟩ = some u) ∧ (∀ o, w4.frozen? ⟨b1, o, none⟩ = false)) ∧
      Hid (((((w4.setCell ⟨w.heap.size, 1, none⟩ (.slice (some ⟨b1, 0, none⟩) its.length c1)).setCell ⟨b1, j * 2 + 1, none⟩ (.int .i64 x)).setCell ⟨w.heap.size + 1, 0, none⟩ (.int .i64 most)).setCell ⟨w.heap.size + 1, 1, none⟩ (.slice (some ⟨b1, 0, none⟩) its.length c1)).ownsRow w.heap.size 47 2 (.slice (some ⟨b1, 0, none⟩) its.length c1) its.length (enc .i64 (its.set j (i, x))) ∧
        Below w.heap.size w ((((w4.setCell ⟨w.heap.size, 1, none⟩ (.slice (some ⟨b1, 0, none⟩) its.length c1)).setCell ⟨b1, j * 2 + 1, none⟩ (.int .i64 x)).setCell ⟨w.heap.size + 1, 0, none⟩ (.int .i64 most)).setCell ⟨w.heap.size + 1, 1, none⟩ (.slice (some ⟨b1, 0, none⟩) its.length c1)))) := fun w3 hb3 => by
    obtain ⟨b1, c1, w4, p1, p2, p3, p4⟩ := copyRow (items_below h2 hb3) hn
    obtain ⟨b1, rfl⟩ : ∃ b, b1 = some (⟨b, 0, none⟩ : Addr) := by
      obtain ⟨g', c', e⟩ := item_block (items_kept p2 (fun _ _ => rfl)) (by omega)
      simp only [Value.slice.injEq] at e
      exact ⟨g', e.1⟩
    have bW := hb3.trans (p3.mono hb3.size)
    have l3 : w.heap.size + 2 ≤ w3.heap.size := by have := hb3.size; omega
    have hb1 := p2.lt b1 rfl
    have n1 : b1 ≠ w.heap.size := by omega
    have n2 : b1 ≠ w.heap.size + 1 := by omega
    have hst := (p2.stored (j * 2 + 1) (.int .i64 x)).1
    rw [← enc_set_hi .i64 hj x, hji] at hst
    refine ⟨b1, c1, w4, p1, boxes_kept hsz bW a0 a1 r0 r1 fa fr, ⟨n1, n2, ⟨_, (owns_cells p2 j hj).2⟩, fun o => ?_⟩, ?_, ?_⟩
    · rcases p2.2 with ⟨e, -⟩ | ⟨g', cap', cur', e, -, hgg, -⟩
      · cases e
      · cases e; exact frozen_of_row w4 b1 o _ _ hgg
    · refine row_low hst (by omega) (fun k hk => ?_)
      have hkb : b1 = k := by simpa [Value.ownBlock] using hk
      subst hkb
      rw [heap_setCell_other _ _ _ _ n2, heap_setCell_other _ _ _ _ n2]
      rcases p2.2 with ⟨e, -⟩ | ⟨g', cap', cur', e, -, hgg, -⟩
      · cases e
      · cases e
        have hgg2 : (w4.setCell ⟨w.heap.size, 1, none⟩ (.slice (some ⟨b1, 0, none⟩) its.length c1)).heap[b1]? = some (.cells cur' 47 (0, 0)) := (heap_setCell_other _ _ _ _ n1).trans hgg
        rw [heap_setCell_same _ _ _ _ _ _ hgg2, heap_setCell_same _ _ _ _ _ _ hgg]
    · exact below2 (((hb.trans (bW.mono hb.size)).setCell (p := ⟨w.heap.size, 1, none⟩) (Nat.le_refl _) _).setCell (p := ⟨b1, j * 2 + 1, none⟩) (by show w.heap.size ≤ b1; omega) _) (by omega) _ _
  have hjz : (j : Int) < (its.length : Int) := by omega
  generalize its.length = L at *
  clear h hn hb hsz h2 hji hu hj
  go_enter Try.func34, Try.ntmps34
  go_upto_region 1 with fail
  generalize ((w.alloc (.cells #[.int .i64 most, .slice (some ⟨g, 0, none⟩) L cap] 27)).alloc (.cells #[.int .i64 0, .slice none 0 0] 27)) = W at *
  go_wp2_with fail
  refine (unhide CF).mono ?_
  rintro e w3 ⟨r, rfl, h4⟩
  obtain ⟨ha, hb3⟩ := unhide h4
  obtain rfl := unhide HJ r ha
  obtain ⟨b1, c1, w4, q0, qc, ⟨n1, n2, ⟨u, t1⟩, tf⟩, qe⟩ := unhide HQ w3 hb3
  obtain ⟨⟨d0, d1⟩, -, -, -⟩ := boxes_kept (unhide HS2) hb3 a0 a1 r0 r1 fa fr
  have d2 := cell_made (.cells #[] 47) d1
  obtain ⟨⟨m0, m1⟩, ⟨m2, m3⟩, mf⟩ := put_cells (v2 := .slice (some ⟨b1, 0, none⟩) L c1) qc
  obtain ⟨⟨-, k1⟩, -, kf, -⟩ := qc
  have t2 : (w4.setCell ⟨w.heap.size, 1, none⟩ (.slice (some ⟨b1, 0, none⟩) L c1)).cell? ⟨b1, j * 2 + 1, none⟩ = some u := (World.cell?_setCell_other _ _ _ _ (by simp)).trans t1
  have tf2 : ∀ o, (w4.setCell ⟨w.heap.size, 1, none⟩ (.slice (some ⟨b1, 0, none⟩) L c1)).frozen? ⟨b1, o, none⟩ = false := fun o => (World.frozen?_setCell _ _ _ _).trans (tf o)
  have o0 : ((w4.setCell ⟨w.heap.size, 1, none⟩ (.slice (some ⟨b1, 0, none⟩) L c1)).setCell ⟨b1, j * 2 + 1, none⟩ (.int .i64 x)).cell? ⟨w.heap.size, 0, none⟩ = some (.int .i64 most) := (World.cell?_setCell_other _ _ _ _ (by simp)).trans m0
  have o1 : ((w4.setCell ⟨w.heap.size, 1, none⟩ (.slice (some ⟨b1, 0, none⟩) L c1)).setCell ⟨b1, j * 2 + 1, none⟩ (.int .i64 x)).cell? ⟨w.heap.size, 1, none⟩ = some (.slice (some ⟨b1, 0, none⟩) L c1) := (World.cell?_setCell_other _ _ _ _ (by simp)).trans m1
  have o2 : ((w4.setCell ⟨w.heap.size, 1, none⟩ (.slice (some ⟨b1, 0, none⟩) L c1)).setCell ⟨b1, j * 2 + 1, none⟩ (.int .i64 x)).cell? ⟨w.heap.size + 1, 0, none⟩ = some (.int .i64 0) := (World.cell?_setCell_other _ _ _ _ (by simp)).trans m2
  have o3 : ((w4.setCell ⟨w.heap.size, 1, none⟩ (.slice (some ⟨b1, 0, none⟩) L c1)).setCell ⟨b1, j * 2 + 1, none⟩ (.int .i64 x)).cell? ⟨w.heap.size + 1, 1, none⟩ = some (.slice none 0 0) := (World.cell?_setCell_other _ _ _ _ (by simp)).trans m3
  have HR := hide (stored2 o2 o3 (.int .i64 most) (.slice (some ⟨b1, 0, none⟩) L c1))
  have HR1 := hide q0
  have hj0 : ¬ (j : Int) < 0 := by omega
  clear CF h4 ha hb3 HQ HJ q0 a0 a1 r0 r1 fa fr tf t1
  go_wp2_with (at_builtin; refine Lib.wpList_append_run _ rfl _ _ 25 25 rfl (.slice (some ⟨w3.heap.size, 0, none⟩) 0 0) (.slice (some ⟨g, 0, none⟩) L cap) rfl rfl _ _ HR1.out ?_)
  (try simp only [Exit.inBlock, Exit.then])
  refine bodyPost_ret (res2 rfl _ _ (w.heap.size + 1) _ _ rfl (unhide HR).1 (unhide HR).2) rfl ?_
  exact ⟨_, rfl, unhide qe⟩
end

section
open Go.RowKit Go.Maps
theorem res3 {fn : Func} {p u v : Tmp} (h : fn.results = #[.cell p 27, .tmp u, .tmp v]) (tmps : Array Value) (w : World) (g : Nat) (x y : Value) (hp : tmps.getD p undef = .pointer (some ⟨g, 0, none⟩)) (c0 : w.cell? ⟨g, 0, none⟩ = some x) (c1 : w.cell? ⟨g, 1, none⟩ = some y) :
    (results fn tmps).run Try.prog w = .ok (.tuple #[.agg #[x, y], tmps.getD u undef, tmps.getD v undef]) w := by
  have hp' : tmps[p]?.getD undef = .pointer (some ⟨g, 0, none⟩) := by simpa using hp
  simp only [results, h]
  simp [Result.andThen, asAddr, hp', load27 w g x y c0 c1]

/-- The list without one item, from two appends. -/
theorem cutRow {W : World} {g cap : Nat} {its : List (Int × Int)} (h : W.ownsRow 0 47 2 (.slice (some ⟨g, 0, none⟩) its.length cap) its.length (enc .i64 its)) (hn : its.length ≤ 1000000) {i : Nat} (hi1 : i < its.length) :
    ∃ a1 c1 w2 src v2 w4, (Builtin.append_ #[25, 25] 25 #[.slice (some ⟨W.heap.size, 0, none⟩) 0 0, .slice (some ⟨g, 0, none⟩) i cap]).run Try.prog (W.alloc (.cells #[] 47)) = .ok (.slice a1 i c1) w2 ∧
      (if cap = i + 1 then (⟨g, 0, none⟩ : Addr) else ⟨g, (i + 1) * 2, none⟩) = src ∧
      (Builtin.append_ #[25, 25] 25 #[.slice a1 i c1, .slice (some src) (its.length - (i + 1)) (cap - (i + 1))]).run Try.prog w2 = .ok v2 w4 ∧
      w4.ownsRow W.heap.size 47 2 v2 (its.length - 1) (enc .i64 (its.take i ++ its.drop (i + 1))) ∧ Below W.heap.size W w2 ∧ Below W.heap.size W w4 ∧ its.length ≤ cap ∧ cap ≤ maxLen := by
  obtain ⟨i0, hi0, hz0, hzs, hzb⟩ := info_parts info47
  have hmade : (W.alloc (.cells #[] 47)).ownsRow W.heap.size 47 2 (.slice (some ⟨W.heap.size, 0, none⟩) 0 0) 0 [] := World.ownsRow_made W #[] 0 (Nat.le_refl _) (by unfold maxLen; omega) rfl
  obtain ⟨cur, hg, hLc, hcm⟩ : ∃ cur, W.heap[g]? = some (.cells cur 47 (0, 0)) ∧ its.length ≤ cap ∧ cap ≤ maxLen := by
    rcases h.2 with ⟨e, -⟩ | ⟨g', cap', cur', e, -, hgg, h1, h2, -⟩
    · cases e
    · cases e; exact ⟨cur', hgg, h1, h2⟩
  have hc := @World.ownsRow.cells _ _ _ _ _ _ _ h
  have add : ∀ o j, (⟨g, o, none⟩ : Addr).add j = ⟨g, o + j, none⟩ := fun o j => by unfold Addr.add; split <;> simp_all
  have hcell : ∀ j u, (enc .i64 its)[j]? = some u → W.cell? ⟨g, j, none⟩ = some u := fun j u hj => by have := hc rfl j u hj; rw [add] at this; simpa using this
  have hgl : g < W.heap.size := (Array.getElem?_eq_some_iff.1 hg).1
  have hlt : (its.take i).length = i := by simp; omega
  have hld : (its.drop (i + 1)).length = its.length - (i + 1) := by simp
  obtain ⟨v1, w2, hr1, hown1, hgr1, -⟩ := run_append_own (P := Try.prog) (W.alloc (.cells #[] 47)) W.heap.size 25 25 47 i0 _ 2 16 Try.underlying25 hi0 hz0 hzs hzb rfl (by omega) _ 0 [] hmade ⟨g, 0, none⟩ i cap (enc .i64 (its.take i)) (by rw [enc_length, hlt])
    (fun j u hj => by
      rw [← enc_take, List.getElem?_take] at hj
      split at hj
      · rw [add, Nat.zero_add]
        exact (((Below.refl W.heap.size W).alloc (Nat.le_refl _) (.cells #[] 47)).cell (by exact hgl)).trans (hcell j u hj)
      · cases hj) (enc_one _ _) (by unfold maxLen; omega) (by omega) (by simp)
  rw [Nat.zero_add, List.nil_append] at hown1
  have b1 := ((Below.refl W.heap.size W).alloc (Nat.le_refl _) (.cells #[] 47)).grown hgr1 (by simp) (fun j hj => by simp [Value.ownBlock] at hj; omega)
  obtain ⟨src, hsrc, hsc⟩ : ∃ src : Addr, (if cap = i + 1 then (⟨g, 0, none⟩ : Addr) else ⟨g, (i + 1) * 2, none⟩) = src ∧ ∀ j u, (enc .i64 (its.drop (i + 1)))[j]? = some u → w2.cell? (src.add j) = some u := by
    refine ⟨_, rfl, fun j u hj => ?_⟩
    split
    · have e : its.drop (i + 1) = [] := by rw [List.drop_eq_nil_iff]; omega
      rw [e] at hj
      simp [enc] at hj
    · rw [add]
      refine (b1.cell (by exact hgl)).trans (hcell _ u ?_)
      rw [← enc_drop, List.getElem?_drop] at hj
      exact hj
  obtain ⟨v2, w4, hr2, hown2, hgr2, -⟩ := run_append_own (P := Try.prog) w2 W.heap.size 25 25 47 i0 _ 2 16 Try.underlying25 hi0 hz0 hzs hzb rfl (by omega) v1 i (enc .i64 (its.take i)) hown1 src (its.length - (i + 1)) (cap - (i + 1)) (enc .i64 (its.drop (i + 1))) (by rw [enc_length, hld]) hsc (enc_one _ _) (by unfold maxLen; omega) (by omega) b1.size
  obtain ⟨a1, c1, rfl⟩ : ∃ a1 c1, v1 = .slice a1 i c1 := by
    rcases hown1.2 with ⟨rfl, h3⟩ | ⟨g', cap', cur', rfl, -⟩
    · exact ⟨none, 0, by rw [h3]⟩
    · exact ⟨_, _, rfl⟩
  exact ⟨a1, c1, w2, src, v2, w4, hr1, hsrc, hr2, by rw [enc_append, show its.length - 1 = i + (its.length - (i + 1)) by omega]; exact hown2, b1, b1.grown hgr2 b1.size (fun j hj => (hown1.lt j hj).1), hLc, hcm⟩

set_option maxHeartbeats 1000000 in
set_option maxRecDepth 100000 in
theorem refDropNo {v : Value} {its : List (Int × Int)} (most i : Int) (w : World) (h : w.ownsRow 0 47 2 v its.length (enc .i64 its)) (hn : its.length ≤ 1000000) (ho : Out its i) :
    Calls Try.prog 35 #[.agg #[.int .i64 most, v], .int .i64 i] w fun e w' => e = .returned (.tuple #[.agg #[.int .i64 most, v], .int .i64 0, .bool false]) ∧ Hid (Below w.heap.size w w') := by
  obtain ⟨⟨a0, a1⟩, ⟨r0, r1⟩, fa, fr, hsz, hb⟩ := boxes w (.int .i64 most) v (.int .i64 0) (.slice none 0 0)
  have CF := hide (refFind most i _ (items_below h hb) hn)
  obtain ⟨a, c, rfl⟩ := item_shape h
  have HO := hide ho
  have HB := hide hb
  have HSZ := hide hsz
  generalize hL : its.length = L at *
  clear h hn ho hb hsz hL
  go_enter Try.func35, Try.ntmps35
  go_upto_region 1 with fail
  generalize ((w.alloc (.cells #[.int .i64 most, .slice a L c] 27)).alloc (.cells #[.int .i64 0, .slice none 0 0] 27)) = W at *
  go_wp2_with fail
  refine (unhide CF).mono ?_
  rintro e w3 ⟨r, rfl, h3⟩
  obtain ⟨ha, hb3⟩ := unhide h3
  have hr : r < 0 := by
    rcases Int.lt_or_le r 0 with e | e
    · exact e
    · exact absurd (unhide HO) (in_of ha (by omega))
  obtain ⟨⟨d0, d1⟩, ⟨e0, e1⟩, -, ef⟩ := boxes_kept (unhide HSZ) hb3 a0 a1 r0 r1 fa fr
  have HR := hide (stored2 e0 e1 (.int .i64 most) (.slice a L c))
  have HBR := hide (below2 ((unhide HB).trans (hb3.mono (unhide HB).size)) (by omega : w.heap.size ≤ w.heap.size + 1) (.int .i64 most) (.slice a L c))
  clear CF h3 ha hb3 HB HSZ a0 a1 r0 r1 fa fr
  go_wp2_with fail
  (try simp only [Exit.inBlock, Exit.then])
  refine bodyPost_ret (res3 rfl _ _ (w.heap.size + 1) _ _ rfl (unhide HR).1 (unhide HR).2) rfl ?_
  exact ⟨rfl, unhide HBR⟩

set_option maxHeartbeats 1000000 in
set_option maxRecDepth 100000 in
theorem refDropYes {v : Value} {its : List (Int × Int)} (most i : Int) (j : Nat) (w : World) (h : w.ownsRow 0 47 2 v its.length (enc .i64 its)) (hn : its.length ≤ 1000000) (hj : j < its.length) (hji : lo its j = i) (hu : ∀ m, m < its.length → lo its m = i → m = j) :
    Calls Try.prog 35 #[.agg #[.int .i64 most, v], .int .i64 i] w fun e w' => ∃ v', e = .returned (.tuple #[.agg #[.int .i64 most, v'], .int .i64 (hi its j), .bool true]) ∧ Hid (w'.ownsRow w.heap.size 47 2 v' (its.length - 1) (enc .i64 (its.take j ++ its.drop (j + 1))) ∧ Below w.heap.size w w') := by
  obtain ⟨⟨a0, a1⟩, ⟨r0, r1⟩, fa, fr, hsz, hb⟩ := boxes w (.int .i64 most) v (.int .i64 0) (.slice none 0 0)
  have h2 := items_below h hb
  have CF := hide (refFind most i _ h2 hn)
  have HS2 := hide hsz
  have HJ : Hid (∀ r, AtIs its i r → r = (j : Int)) := fun r hr => at_one hr hj hji hu
  obtain ⟨g, cap, rfl⟩ := item_block h (by omega)
  have HQ : Hid (∀ w3, Below ((w.alloc (.cells #[.int .i64 most, .slice (some ⟨g, 0, none⟩) its.length cap] 27)).alloc (.cells #[.int .i64 0, .slice none 0 0] 27)).heap.size ((w.alloc (.cells #[.int .i64 most, .slice (some ⟨g, 0, none⟩) its.length cap] 27)).alloc (.cells #[.int .i64 0, .slice none 0 0] 27)) w3 →
      w3.cell? ⟨g, j * 2 + 1, none⟩ = some (.int .i64 (hi its j)) ∧ its.length ≤ cap ∧ cap ≤ maxLen ∧ ∃ b1 c1 w4 src v2 w5, (Builtin.append_ #[25, 25] 25 #[.slice (some ⟨w3.heap.size, 0, none⟩) 0 0, .slice (some ⟨g, 0, none⟩) j cap]).run Try.prog (w3.alloc (.cells #[] 47)) = .ok (.slice b1 j c1) w4 ∧
      (if cap = j + 1 then (⟨g, 0, none⟩ : Addr) else ⟨g, (j + 1) * 2, none⟩) = src ∧
      (Builtin.append_ #[25, 25] 25 #[.slice b1 j c1, .slice (some src) (its.length - (j + 1)) (cap - (j + 1))]).run Try.prog w4 = .ok v2 w5 ∧ (∃ a2 c2, v2 = .slice a2 (its.length - 1) c2) ∧
      (w4.cell? ⟨w.heap.size, 1, none⟩ = some (.slice (some ⟨g, 0, none⟩) its.length cap)) ∧
      ((w5.cell? ⟨w.heap.size, 0, none⟩ = some (.int .i64 most) ∧ w5.cell? ⟨w.heap.size, 1, none⟩ = some (.slice (some ⟨g, 0, none⟩) its.length cap)) ∧ (w5.cell? ⟨w.heap.size + 1, 0, none⟩ = some (.int .i64 0) ∧ w5.cell? ⟨w.heap.size + 1, 1, none⟩ = some (.slice none 0 0)) ∧ (∀ o, w5.frozen? ⟨w.heap.size, o, none⟩ = false) ∧ ∀ o, w5.frozen? ⟨w.heap.size + 1, o, none⟩ = false) ∧
      Hid ((((w5.setCell ⟨w.heap.size, 1, none⟩ v2).setCell ⟨w.heap.size + 1, 0, none⟩ (.int .i64 most)).setCell ⟨w.heap.size + 1, 1, none⟩ v2).ownsRow w.heap.size 47 2 v2 (its.length - 1) (enc .i64 (its.take j ++ its.drop (j + 1))) ∧ Below w.heap.size w (((w5.setCell ⟨w.heap.size, 1, none⟩ v2).setCell ⟨w.heap.size + 1, 0, none⟩ (.int .i64 most)).setCell ⟨w.heap.size + 1, 1, none⟩ v2))) := fun w3 hb3 => by
    have hrow3 := items_below h2 hb3
    obtain ⟨b1, c1, w4, src, v2, w5, p1, p2, p3, p4, p5, p6, p7, p8⟩ := cutRow hrow3 hn hj
    have bW4 := hb3.trans (p5.mono hb3.size)
    have bW := hb3.trans (p6.mono hb3.size)
    have l3 : w.heap.size + 2 ≤ w3.heap.size := by have := hb3.size; omega
    obtain ⟨a2, c2, hv2⟩ := item_shape (items_kept p4 (fun _ _ => rfl))
    exact ⟨(owns_cells hrow3 j hj).2, p7, p8, b1, c1, w4, src, v2, w5, p1, p2, p3, ⟨a2, c2, hv2⟩, (boxes_kept hsz bW4 a0 a1 r0 r1 fa fr).1.2, boxes_kept hsz bW a0 a1 r0 r1 fa fr, put_end l3 p4 (hb.trans (bW.mono hb.size))⟩
  obtain ⟨hLc, hcm⟩ : its.length ≤ cap ∧ cap ≤ maxLen := by
    rcases h.2 with ⟨e, -⟩ | ⟨g', cap', cur', e, -, -, h1, h2, -⟩
    · cases e
    · cases e; exact ⟨h1, h2⟩
  have hjz : (j : Int) < (its.length : Int) := by omega
  have hcz : (j : Int) ≤ (cap : Int) := by omega
  have hiL : (j : Int) + 1 ≤ (its.length : Int) := by omega
  generalize hLL : its.length = L at *
  have hjL : j + 1 ≤ L := by omega
  have hL6 : L ≤ 1000000 := hn
  generalize hn2 : L - 1 = n2 at *
  generalize hxx : hi its j = xx at *
  unfold maxLen at hcm
  clear h hn hb hsz h2 hji hu hj hLL hn2
  by_cases hcap : cap = j + 1
  · subst hcap
    obtain rfl : L = j + 1 := Nat.le_antisymm hLc hjL
    clear hLc hjL hcm
    go_enter Try.func35, Try.ntmps35
    go_upto_region 1 with fail
    generalize ((w.alloc (.cells #[.int .i64 most, .slice (some ⟨g, 0, none⟩) (j + 1) (j + 1)] 27)).alloc (.cells #[.int .i64 0, .slice none 0 0] 27)) = W at *
    go_wp2_with fail
    refine (unhide CF).mono ?_
    rintro e w3 ⟨r, rfl, h4⟩
    obtain ⟨ha, hb3⟩ := unhide h4
    obtain rfl := unhide HJ r ha
    obtain ⟨x0, -, -, b1, c1, w4, src, v2, w5, q0, qs, q1, ⟨a2, c2, rfl⟩, k0, qc, qe⟩ := unhide HQ w3 hb3
    simp only [if_true] at qs
    subst qs
    rw [Nat.sub_self] at q1
    obtain ⟨⟨d0, d1⟩, -, -, -⟩ := boxes_kept (unhide HS2) hb3 a0 a1 r0 r1 fa fr
    have d2 := cell_made (.cells #[] 47) d1
    obtain ⟨⟨m0, m1⟩, ⟨m2, m3⟩, mf⟩ := put_cells (v2 := .slice a2 n2 c2) qc
    obtain ⟨⟨-, k1⟩, -, kf, -⟩ := qc
    have HR := hide (stored2 m2 m3 (.int .i64 most) (.slice a2 n2 c2))
    have HR1 := hide q0
    have HR2 := hide q1
    have hj0 : ¬ (j : Int) < 0 := by omega
    clear CF h4 ha hb3 HQ HJ q0 q1 a0 a1 r0 r1 fa fr
    go_wp2_with (at_builtin; first | (refine Lib.wpList_append_run _ rfl _ _ 25 25 rfl (.slice (some ⟨w3.heap.size, 0, none⟩) 0 0) (.slice (some ⟨g, 0, none⟩) j (j + 1)) rfl rfl _ _ HR1.out ?_) | (refine Lib.wpList_append_run _ rfl _ _ 25 25 rfl (.slice b1 j c1) (.slice (some ⟨g, 0, none⟩) 0 0) rfl rfl _ _ HR2.out ?_))
    (try simp only [Exit.inBlock, Exit.then])
    refine bodyPost_ret (res3 rfl _ _ (w.heap.size + 1) _ _ rfl (unhide HR).1 (unhide HR).2) rfl ?_
    exact ⟨_, rfl, unhide qe⟩
  · have hcap2 : ¬ cap = j + 1 := hcap
    go_enter Try.func35, Try.ntmps35
    go_upto_region 1 with fail
    generalize ((w.alloc (.cells #[.int .i64 most, .slice (some ⟨g, 0, none⟩) L cap] 27)).alloc (.cells #[.int .i64 0, .slice none 0 0] 27)) = W at *
    go_wp2_with fail
    refine (unhide CF).mono ?_
    rintro e w3 ⟨r, rfl, h4⟩
    obtain ⟨ha, hb3⟩ := unhide h4
    obtain rfl := unhide HJ r ha
    obtain ⟨x0, -, -, b1, c1, w4, src, v2, w5, q0, qs, q1, ⟨a2, c2, rfl⟩, k0, qc, qe⟩ := unhide HQ w3 hb3
    rw [if_neg hcap2] at qs
    subst qs
    obtain ⟨⟨d0, d1⟩, -, -, -⟩ := boxes_kept (unhide HS2) hb3 a0 a1 r0 r1 fa fr
    have d2 := cell_made (.cells #[] 47) d1
    obtain ⟨⟨m0, m1⟩, ⟨m2, m3⟩, mf⟩ := put_cells (v2 := .slice a2 n2 c2) qc
    obtain ⟨⟨-, k1⟩, -, kf, -⟩ := qc
    have HR := hide (stored2 m2 m3 (.int .i64 most) (.slice a2 n2 c2))
    have HR1 := hide q0
    have HR2 := hide q1
    have hj0 : ¬ (j : Int) < 0 := by omega
    clear CF h4 ha hb3 HQ HJ q0 q1 a0 a1 r0 r1 fa fr
    go_wp2_with (at_builtin; first | (refine Lib.wpList_append_run _ rfl _ _ 25 25 rfl (.slice (some ⟨w3.heap.size, 0, none⟩) 0 0) (.slice (some ⟨g, 0, none⟩) j cap) rfl rfl _ _ HR1.out ?_) | (refine Lib.wpList_append_run _ rfl _ _ 25 25 rfl (.slice b1 j c1) (.slice (some ⟨g, (j + 1) * 2, none⟩) (L - (j + 1)) (cap - (j + 1))) rfl rfl _ _ HR2.out ?_))
    (try simp only [Exit.inBlock, Exit.then])
    refine bodyPost_ret (res3 rfl _ _ (w.heap.size + 1) _ _ rfl (unhide HR).1 (unhide HR).2) rfl ?_
    exact ⟨_, rfl, unhide qe⟩
end

end Go.Proofs.Ytkdlhnfagghppaa
