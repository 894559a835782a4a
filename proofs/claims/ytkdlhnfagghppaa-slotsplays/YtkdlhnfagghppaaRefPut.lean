/- The reference's PutAt. -/
import Derived.Test.YtkdlhnfagghppaaRefLook
import Derived.Lib.AppendZeros
import Derived.Laws.ResultCell
import Derived.Deep.MidRow
import Derived.Deep.CutRange
namespace Go.Proofs.Ytkdlhnfagghppaa
open Go.RowKit Go.Maps

/-- A table's two cells, as a value. -/
theorem load27 (w : World) (g : Nat) (x y : Value) (c0 : w.cell? ⟨g, 0, none⟩ = some x) (c1 : w.cell? ⟨g, 1, none⟩ = some y) : (loadVar 27 ⟨g, 0, none⟩).run Try.prog w = .ok (.agg #[x, y]) w :=
  run_loadVar_mid (P := Try.prog) w g 0 27 [x, y] _ (fun j v hj => by
    match j with
    | 0 => simp at hj; subst hj; exact c0
    | 1 => simp at hj; subst hj; exact c1
    | j + 2 => simp at hj) Try.underlying27 rfl (by kernel_rfl)
theorem res2 {fn : Func} {p u : Tmp} (h : fn.results = #[.cell p 27, .tmp u]) (tmps : Array Value) (w : World) (g : Nat) (x y : Value) (hp : tmps.getD p undef = .pointer (some ⟨g, 0, none⟩)) (c0 : w.cell? ⟨g, 0, none⟩ = some x) (c1 : w.cell? ⟨g, 1, none⟩ = some y) :
    (results fn tmps).run Try.prog w = .ok (.tuple #[.agg #[x, y], tmps.getD u undef]) w := by
  rw [results_cell_tmp h, hp]
  simp only [asAddr, Sem.run_pure, Result.andThen_ok, load27 w g x y c0 c1]

/-- A box and a result's block. -/
theorem boxes (w : World) (x y x' y' : Value) : (((w.alloc (.cells #[x, y] 27)).alloc (.cells #[x', y'] 27)).cell? ⟨w.heap.size, 0, none⟩ = some x ∧ ((w.alloc (.cells #[x, y] 27)).alloc (.cells #[x', y'] 27)).cell? ⟨w.heap.size, 1, none⟩ = some y) ∧
    (((w.alloc (.cells #[x, y] 27)).alloc (.cells #[x', y'] 27)).cell? ⟨w.heap.size + 1, 0, none⟩ = some x' ∧ ((w.alloc (.cells #[x, y] 27)).alloc (.cells #[x', y'] 27)).cell? ⟨w.heap.size + 1, 1, none⟩ = some y') ∧
    (∀ o, ((w.alloc (.cells #[x, y] 27)).alloc (.cells #[x', y'] 27)).frozen? ⟨w.heap.size, o, none⟩ = false) ∧ (∀ o, ((w.alloc (.cells #[x, y] 27)).alloc (.cells #[x', y'] 27)).frozen? ⟨w.heap.size + 1, o, none⟩ = false) ∧
    ((w.alloc (.cells #[x, y] 27)).alloc (.cells #[x', y'] 27)).heap.size = w.heap.size + 2 ∧ Below w.heap.size w ((w.alloc (.cells #[x, y] 27)).alloc (.cells #[x', y'] 27)) := by
  have h1 := heap_alloc2_old w (.cells #[x, y] 27) (.cells #[x', y'] 27)
  have h2 := heap_alloc2_new w (.cells #[x, y] 27) (.cells #[x', y'] 27)
  refine ⟨⟨?_, ?_⟩, ⟨?_, ?_⟩, fun o => frozen_of_row _ _ o _ _ h1, fun o => frozen_of_row _ _ o _ _ h2, by simp, ((Below.refl _ _).alloc (Nat.le_refl _) _).alloc (by simp) _⟩
  · rw [cell_of_row _ _ _ _ _ _ h1]; rfl
  · rw [cell_of_row _ _ _ _ _ _ h1]; rfl
  · rw [cell_of_row _ _ _ _ _ _ h2]; rfl
  · rw [cell_of_row _ _ _ _ _ _ h2]; rfl

/-- Two cells are stored. -/
theorem stored2 {w : World} {g : Nat} {x0 y0 : Value} (c0 : w.cell? ⟨g, 0, none⟩ = some x0) (c1 : w.cell? ⟨g, 1, none⟩ = some y0) (x y : Value) :
    ((w.setCell ⟨g, 0, none⟩ x).setCell ⟨g, 1, none⟩ y).cell? ⟨g, 0, none⟩ = some x ∧ ((w.setCell ⟨g, 0, none⟩ x).setCell ⟨g, 1, none⟩ y).cell? ⟨g, 1, none⟩ = some y := by
  constructor
  · rw [World.cell?_setCell_other _ _ _ _ (by simp)]
    exact World.cell?_setCell_same _ _ _ c0
  · exact World.cell?_setCell_same _ _ _ ((World.cell?_setCell_other _ _ _ _ (by simp)).trans c1)
theorem below2 {B : Nat} {w w3 : World} {g : Nat} (h : Below B w w3) (hg : B ≤ g) (x y : Value) : Below B w ((w3.setCell ⟨g, 0, none⟩ x).setCell ⟨g, 1, none⟩ y) := (h.setCell (p := ⟨g, 0, none⟩) hg _).setCell (p := ⟨g, 1, none⟩) hg _

/-- What a call leaves of the two. -/
theorem boxes_kept {w W w3 : World} {x y x' y' : Value} (hs : W.heap.size = w.heap.size + 2) (hb : Below W.heap.size W w3) (a0 : W.cell? ⟨w.heap.size, 0, none⟩ = some x) (a1 : W.cell? ⟨w.heap.size, 1, none⟩ = some y) (r0 : W.cell? ⟨w.heap.size + 1, 0, none⟩ = some x') (r1 : W.cell? ⟨w.heap.size + 1, 1, none⟩ = some y')
    (fa : ∀ o, W.frozen? ⟨w.heap.size, o, none⟩ = false) (fr : ∀ o, W.frozen? ⟨w.heap.size + 1, o, none⟩ = false) :
    (w3.cell? ⟨w.heap.size, 0, none⟩ = some x ∧ w3.cell? ⟨w.heap.size, 1, none⟩ = some y) ∧ (w3.cell? ⟨w.heap.size + 1, 0, none⟩ = some x' ∧ w3.cell? ⟨w.heap.size + 1, 1, none⟩ = some y') ∧ (∀ o, w3.frozen? ⟨w.heap.size, o, none⟩ = false) ∧ ∀ o, w3.frozen? ⟨w.heap.size + 1, o, none⟩ = false := by
  have l1 : w.heap.size < W.heap.size := by omega
  have l2 : w.heap.size + 1 < W.heap.size := by omega
  exact ⟨⟨(hb.cell (p := ⟨w.heap.size, 0, none⟩) l1).trans a0, (hb.cell (p := ⟨w.heap.size, 1, none⟩) l1).trans a1⟩, ⟨(hb.cell (p := ⟨w.heap.size + 1, 0, none⟩) l2).trans r0, (hb.cell (p := ⟨w.heap.size + 1, 1, none⟩) l2).trans r1⟩,
    fun o => (hb.frozen (p := ⟨w.heap.size, o, none⟩) l1).trans (fa o), fun o => (hb.frozen (p := ⟨w.heap.size + 1, o, none⟩) l2).trans (fr o)⟩

set_option maxHeartbeats 1000000 in
set_option maxRecDepth 100000 in
theorem refPutNo {v : Value} {its : List (Int × Int)} (most i x : Int) (w : World) (h : w.ownsRow 0 47 2 v its.length (enc .i64 its)) (hn : its.length ≤ 1000000) (hi : i < 1 ∨ most < i ∨ ¬ Out its i) :
    Calls Try.prog 32 #[.agg #[.int .i64 most, v], .int .i64 i, .int .i64 x] w fun e w' => e = .returned (.tuple #[.agg #[.int .i64 most, v], .bool false]) ∧ Hid (Below w.heap.size w w') := by
  obtain ⟨⟨a0, a1⟩, ⟨r0, r1⟩, fa, fr, hsz, hb⟩ := boxes w (.int .i64 most) v (.int .i64 0) (.slice none 0 0)
  have H2 := hide (items_below h hb)
  obtain ⟨a, c, rfl⟩ := item_shape h
  have HI := hide hi
  have HN := hide hn
  have HB := hide hb
  have HSZ := hide hsz
  generalize hL : its.length = L at *
  have HL := hide hL
  clear h hi hn hb hsz hL
  go_enter Try.func32, Try.ntmps32
  go_upto_region 1 with fail
  generalize ((w.alloc (.cells #[.int .i64 most, .slice a L c] 27)).alloc (.cells #[.int .i64 0, .slice none 0 0] 27)) = W at *
  have HR := hide (stored2 r0 r1 (.int .i64 most) (.slice a L c))
  have HBR := hide (below2 (unhide HB) (by omega : w.heap.size ≤ w.heap.size + 1) (.int .i64 most) (.slice a L c))
  by_cases h1 : i < 1
  · go_wp2_with fail
    (try simp only [Exit.inBlock, Exit.then])
    refine bodyPost_ret (res2 rfl _ _ (w.heap.size + 1) _ _ rfl (unhide HR).1 (unhide HR).2) rfl ?_
    exact ⟨rfl, unhide HBR⟩
  · by_cases h3 : most < i
    · go_wp2_with fail
      (try simp only [Exit.inBlock, Exit.then])
      refine bodyPost_ret (res2 rfl _ _ (w.heap.size + 1) _ _ rfl (unhide HR).1 (unhide HR).2) rfl ?_
      exact ⟨rfl, unhide HBR⟩
    · have HIN : Hid (¬ Out its i) := by
        rcases unhide HI with hi | hi | hi
        · exact absurd hi h1
        · exact absurd hi h3
        · exact hi
      have CF := hide (refFind most i W (by rw [unhide HL]; exact unhide H2) (by rw [unhide HL]; exact unhide HN))
      clear HR HBR HI
      go_wp2_with fail
      refine (unhide CF).mono ?_
      rintro e w3 ⟨r, rfl, h3⟩
      obtain ⟨ha, hb3⟩ := unhide h3
      have hr : 0 ≤ r := by
        rcases Int.lt_or_le r 0 with e | e
        · exact absurd (out_of ha e) (unhide HIN)
        · exact e
      obtain ⟨⟨d0, d1⟩, ⟨e0, e1⟩, -, ef⟩ := boxes_kept (unhide HSZ) hb3 a0 a1 r0 r1 fa fr
      have HR := hide (stored2 e0 e1 (.int .i64 most) (.slice a L c))
      have HBR := hide (below2 ((unhide HB).trans (hb3.mono (unhide HB).size)) (by omega : w.heap.size ≤ w.heap.size + 1) (.int .i64 most) (.slice a L c))
      clear CF h3 ha hb3 HB HSZ H2 HN a0 a1 r0 r1 fa fr
      go_wp2_with fail
      (try simp only [Exit.inBlock, Exit.then])
      refine bodyPost_ret (res2 rfl _ _ (w.heap.size + 1) _ _ rfl (unhide HR).1 (unhide HR).2) rfl ?_
      exact ⟨rfl, unhide HBR⟩

theorem info47 : (Try.prog.info? 47).map (fun i => (i.zero, i.size, i.bytes)) = some (some (.agg #[.int .i64 0, .int .i64 0]), 2, 16) := by kernel_rfl

/-- A copy of the list (which is there). -/
theorem copyRow {W : World} {g cap : Nat} {its : List (Int × Int)} (h : W.ownsRow 0 47 2 (.slice (some ⟨g, 0, none⟩) its.length cap) its.length (enc .i64 its)) (hn : its.length ≤ 1000000) :
    ∃ a1 c1 w2, (Builtin.append_ #[25, 25] 25 #[.slice (some ⟨W.heap.size, 0, none⟩) 0 0, .slice (some ⟨g, 0, none⟩) its.length cap]).run Try.prog (W.alloc (.cells #[] 47)) = .ok (.slice a1 its.length c1) w2 ∧
      w2.ownsRow W.heap.size 47 2 (.slice a1 its.length c1) its.length (enc .i64 its) ∧ Below W.heap.size W w2 ∧ W.heap.size + 1 ≤ w2.heap.size := by
  obtain ⟨i0, hi0, hz0, hzs, hzb⟩ := info_parts info47
  have hmade : (W.alloc (.cells #[] 47)).ownsRow W.heap.size 47 2 (.slice (some ⟨W.heap.size, 0, none⟩) 0 0) 0 [] := World.ownsRow_made W #[] 0 (Nat.le_refl _) (by unfold maxLen; omega) rfl
  have hc := @World.ownsRow.cells _ _ _ _ _ _ _ h
  obtain ⟨v1, w2, hr1, hown1, hgr1, -⟩ := run_append_own (P := Try.prog) (W.alloc (.cells #[] 47)) W.heap.size 25 25 47 i0 _ 2 16 Try.underlying25 hi0 hz0 hzs hzb rfl (by omega) _ 0 [] hmade ⟨g, 0, none⟩ its.length cap (enc .i64 its) (enc_length _ _)
    (fun j u hj => by
      have := hc rfl j u hj
      exact (((Below.refl W.heap.size W).alloc (Nat.le_refl _) (.cells #[] 47)).cell (World.block_lt_of_cell? _ _ this)).trans this) (enc_one _ _) (by unfold maxLen; omega) (by omega) (by simp)
  rw [Nat.zero_add, List.nil_append] at hown1
  have hs2 : W.heap.size + 1 ≤ w2.heap.size := by have := hgr1.size; simp at this; omega
  obtain ⟨a1, c1, rfl⟩ : ∃ a1 c1, v1 = .slice a1 its.length c1 := by
    rcases hown1.2 with ⟨rfl, h3⟩ | ⟨g', cap', cur', rfl, -⟩
    · exact ⟨none, 0, by rw [h3]⟩
    · exact ⟨_, _, rfl⟩
  exact ⟨a1, c1, w2, hr1, hown1, ((Below.refl W.heap.size W).alloc (Nat.le_refl _) (.cells #[] 47)).grown hgr1 (by simp) (fun j hj => by simp [Value.ownBlock] at hj; omega), hs2⟩

/-- An item behind a list that lies from B on. -/
theorem snocRow {w2 : World} {B : Nat} {v1 : Value} {its : List (Int × Int)} (h : w2.ownsRow B 47 2 v1 its.length (enc .i64 its)) (hn : its.length ≤ 1000000) (hB : B ≤ w2.heap.size) (k x : Int) :
    ∃ v2 w4, (Builtin.append_ #[25, 25] 25 #[v1, .slice (some ⟨w2.heap.size, 0, none⟩) 1 1]).run Try.prog (w2.alloc (.cells #[.int .i64 k, .int .i64 x] 47)) = .ok v2 w4 ∧
      w4.ownsRow B 47 2 v2 (its.length + 1) (enc .i64 (its ++ [(k, x)])) ∧ Below B w2 w4 := by
  obtain ⟨i0, hi0, hz0, hzs, hzb⟩ := info_parts info47
  have hown1' : (w2.alloc (.cells #[.int .i64 k, .int .i64 x] 47)).ownsRow B 47 2 v1 its.length (enc .i64 its) := by
    refine ⟨h.1, ?_⟩
    rcases h.2 with hq | ⟨g', cap', cur', e1, hb1, hgg, rest⟩
    · exact .inl hq
    · exact .inr ⟨g', cap', cur', e1, hb1, (((Below.refl w2.heap.size w2).alloc (Nat.le_refl _) _).block g' (Array.getElem?_eq_some_iff.1 hgg).1).trans hgg, rest⟩
  obtain ⟨v2, w4, hr2, hown2, hgr2, -⟩ := run_append_own (P := Try.prog) (w2.alloc (.cells #[.int .i64 k, .int .i64 x] 47)) B 25 25 47 i0 _ 2 16 Try.underlying25 hi0 hz0 hzs hzb rfl (by omega) v1 its.length (enc .i64 its) hown1' ⟨w2.heap.size, 0, none⟩ 1 1 [.int .i64 k, .int .i64 x] rfl
    (fun j u hj => by
      have add : (⟨w2.heap.size, 0, none⟩ : Addr).add j = ⟨w2.heap.size, j, none⟩ := by unfold Addr.add; split <;> simp_all
      have h1 : j < 2 := by
        have := (List.getElem?_eq_some_iff.1 hj).1
        simpa using this
      rw [add, World.cell?_alloc_at _ _ _ _ (by simp)]
      match j, h1 with
      | 0, _ => simpa using hj
      | 1, _ => simpa using hj) (by intro u hu; simp at hu; rcases hu with rfl | rfl <;> rfl) (by unfold maxLen; omega) (by omega) (by simp; omega)
  exact ⟨v2, w4, hr2, by rw [enc_append]; exact hown2, ((Below.refl B w2).alloc hB _).grown hgr2 (by simp; omega) (fun j hj => (h.lt j hj).1)⟩
end Go.Proofs.Ytkdlhnfagghppaa
