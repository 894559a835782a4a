/- The reference's Drop. -/
import Derived.Test.YtkdlhnfagghppaaRefSet
namespace Go.Proofs.Ytkdlhnfagghppaa
open Go.RowKit Go.Maps

theorem res3 {fn : Func} {p u v : Tmp} (h : fn.results = #[.cell p 27, .tmp u, .tmp v]) (tmps : Array Value) (w : World) (g : Nat) (x y : Value) (hp : tmps.getD p undef = .pointer (some ⟨g, 0, none⟩)) (c0 : w.cell? ⟨g, 0, none⟩ = some x) (c1 : w.cell? ⟨g, 1, none⟩ = some y) :
    (results fn tmps).run Try.prog w = .ok (.tuple #[.agg #[x, y], tmps.getD u undef, tmps.getD v undef]) w := by
  have hp' : tmps[p]?.getD undef = .pointer (some ⟨g, 0, none⟩) := by simpa using hp
  simp only [results, h]
  simp [Result.andThen, asAddr, hp', load27 w g x y c0 c1]

/-- The list without one item, from two appends. -/
theorem cutRow {W : World} {g cap : Nat} {its : List (Int × Int)} (h : W.ownsRow 0 47 2 (.slice (some ⟨g, 0, none⟩) its.length cap) its.length (enc .i64 its)) (hn : its.length ≤ 1000000) {i : Nat} (hi1 : i < its.length) :
    ∃ a1 c1 w2 src v2 w4, (Builtin.append_ #[25, 25] 25 #[.slice (some ⟨W.heap.size, 0, none⟩) 0 0, .slice (some ⟨g, 0, none⟩) i cap]).run Try.prog (W.alloc (.cells #[] 47)) = .ok (.slice a1 i c1) w2 ∧
      (if cap = i + 1 then (⟨g, 0, none⟩ : Addr) else ⟨g, (i + 1) * 2, none⟩) = src ∧
      (Builtin.append_ #[25, 25] 25 #[.slice a1 i c1, .slice (some src) (its.length - (i + 1)) (cap - (i + 1))]).run Try.prog w2 = .ok v2 w4 ∧
      w4.ownsRow W.heap.size 47 2 v2 (its.length - 1) (enc .i64 (its.take i ++ its.drop (i + 1))) ∧ Below W.heap.size W w2 ∧ Below W.heap.size W w4 ∧ its.length ≤ cap ∧ cap ≤ maxLen := by
  obtain ⟨i0, hi0, hz0, hzs, hzb⟩ := info_parts info47
  have hmade : (W.alloc (.cells #[] 47)).ownsRow W.heap.size 47 2 (.slice (some ⟨W.heap.size, 0, none⟩) 0 0) 0 [] := World.ownsRow_made W #[] 0 (Nat.le_refl _) (by unfold maxLen; omega) rfl
  obtain ⟨cur, hg, hLc, hcm⟩ : ∃ cur, W.heap[g]? = some (.cells cur 47 (0, 0)) ∧ its.length ≤ cap ∧ cap ≤ maxLen := by
    rcases h.2 with ⟨e, -⟩ | ⟨g', cap', cur', e, -, hgg, h1, h2, -⟩
    · cases e
    · cases e; exact ⟨cur', hgg, h1, h2⟩
  have hc := @World.ownsRow.cells _ _ _ _ _ _ _ h
  have add : ∀ o j, (⟨g, o, none⟩ : Addr).add j = ⟨g, o + j, none⟩ := fun o j => by unfold Addr.add; split <;> simp_all
  have hcell : ∀ j u, (enc .i64 its)[j]? = some u → W.cell? ⟨g, j, none⟩ = some u := fun j u hj => by have := hc rfl j u hj; rw [add] at this; simpa using this
  have hgl : g < W.heap.size := (Array.getElem?_eq_some_iff.1 hg).1
  have hlt : (its.take i).length = i := by simp; omega
  have hld : (its.drop (i + 1)).length = its.length - (i + 1) := by simp
  obtain ⟨v1, w2, hr1, hown1, hgr1, -⟩ := run_append_own (P := Try.prog) (W.alloc (.cells #[] 47)) W.heap.size 25 25 47 i0 _ 2 16 Try.underlying25 hi0 hz0 hzs hzb rfl (by omega) _ 0 [] hmade ⟨g, 0, none⟩ i cap (enc .i64 (its.take i)) (by rw [enc_length, hlt])
    (fun j u hj => by
      rw [← enc_take, List.getElem?_take] at hj
      split at hj
      · rw [add, Nat.zero_add]
        exact (((Below.refl W.heap.size W).alloc (Nat.le_refl _) (.cells #[] 47)).cell (by exact hgl)).trans (hcell j u hj)
      · cases hj) (enc_one _ _) (by unfold maxLen; omega) (by omega) (by simp)
  rw [Nat.zero_add, List.nil_append] at hown1
  have b1 := ((Below.refl W.heap.size W).alloc (Nat.le_refl _) (.cells #[] 47)).grown hgr1 (by simp) (fun j hj => by simp [Value.ownBlock] at hj; omega)
  obtain ⟨src, hsrc, hsc⟩ : ∃ src : Addr, (if cap = i + 1 then (⟨g, 0, none⟩ : Addr) else ⟨g, (i + 1) * 2, none⟩) = src ∧ ∀ j u, (enc .i64 (its.drop (i + 1)))[j]? = some u → w2.cell? (src.add j) = some u := by
    refine ⟨_, rfl, fun j u hj => ?_⟩
    split
    · have e : its.drop (i + 1) = [] := by rw [List.drop_eq_nil_iff]; omega
      rw [e] at hj
      simp [enc] at hj
    · rw [add]
      refine (b1.cell (by exact hgl)).trans (hcell _ u ?_)
      rw [← enc_drop, List.getElem?_drop] at hj
      exact hj
  obtain ⟨v2, w4, hr2, hown2, hgr2, -⟩ := run_append_own (P := Try.prog) w2 W.heap.size 25 25 47 i0 _ 2 16 Try.underlying25 hi0 hz0 hzs hzb rfl (by omega) v1 i (enc .i64 (its.take i)) hown1 src (its.length - (i + 1)) (cap - (i + 1)) (enc .i64 (its.drop (i + 1))) (by rw [enc_length, hld]) hsc (enc_one _ _) (by unfold maxLen; omega) (by omega) b1.size
  obtain ⟨a1, c1, rfl⟩ : ∃ a1 c1, v1 = .slice a1 i c1 := by
    rcases hown1.2 with ⟨rfl, h3⟩ | ⟨g', cap', cur', rfl, -⟩
    · exact ⟨none, 0, by rw [h3]⟩
    · exact ⟨_, _, rfl⟩
  exact ⟨a1, c1, w2, src, v2, w4, hr1, hsrc, hr2, by rw [enc_append, show its.length - 1 = i + (its.length - (i + 1)) by omega]; exact hown2, b1, b1.grown hgr2 b1.size (fun j hj => (hown1.lt j hj).1), hLc, hcm⟩

set_option maxHeartbeats 1000000 in
set_option maxRecDepth 100000 in
theorem refDropNo {v : Value} {its : List (Int × Int)} (most i : Int) (w : World) (h : w.ownsRow 0 47 2 v its.length (enc .i64 its)) (hn : its.length ≤ 1000000) (ho : Out its i) :
    Calls Try.prog 35 #[.agg #[.int .i64 most, v], .int .i64 i] w fun e w' => e = .returned (.tuple #[.agg #[.int .i64 most, v], .int .i64 0, .bool false]) ∧ Hid (Below w.heap.size w w') := by
  obtain ⟨⟨a0, a1⟩, ⟨r0, r1⟩, fa, fr, hsz, hb⟩ := boxes w (.int .i64 most) v (.int .i64 0) (.slice none 0 0)
  have CF := hide (refFind most i _ (items_below h hb) hn)
  obtain ⟨a, c, rfl⟩ := item_shape h
  have HO := hide ho
  have HB := hide hb
  have HSZ := hide hsz
  generalize hL : its.length = L at *
  clear h hn ho hb hsz hL
  go_enter Try.func35, Try.ntmps35
  go_upto_region 1 with fail
  generalize ((w.alloc (.cells #[.int .i64 most, .slice a L c] 27)).alloc (.cells #[.int .i64 0, .slice none 0 0] 27)) = W at *
  go_wp2_with fail
  refine (unhide CF).mono ?_
  rintro e w3 ⟨r, rfl, h3⟩
  obtain ⟨ha, hb3⟩ := unhide h3
  have hr : r < 0 := by
    rcases Int.lt_or_le r 0 with e | e
    · exact e
    · exact absurd (unhide HO) (in_of ha (by omega))
  obtain ⟨⟨d0, d1⟩, ⟨e0, e1⟩, -, ef⟩ := boxes_kept (unhide HSZ) hb3 a0 a1 r0 r1 fa fr
  have HR := hide (stored2 e0 e1 (.int .i64 most) (.slice a L c))
  have HBR := hide (below2 ((unhide HB).trans (hb3.mono (unhide HB).size)) (by omega : w.heap.size ≤ w.heap.size + 1) (.int .i64 most) (.slice a L c))
  clear CF h3 ha hb3 HB HSZ a0 a1 r0 r1 fa fr
  go_wp2_with fail
  (try simp only [Exit.inBlock, Exit.then])
  refine bodyPost_ret (res3 rfl _ _ (w.heap.size + 1) _ _ rfl (unhide HR).1 (unhide HR).2) rfl ?_
  exact ⟨rfl, unhide HBR⟩

set_option maxHeartbeats 1000000 in
set_option maxRecDepth 100000 in
theorem refDropYes {v : Value} {its : List (Int × Int)} (most i : Int) (j : Nat) (w : World) (h : w.ownsRow 0 47 2 v its.length (enc .i64 its)) (hn : its.length ≤ 1000000) (hj : j < its.length) (hji : lo its j = i) (hu : ∀ m, m < its.length → lo its m = i → m = j) :
    Calls Try.prog 35 #[.agg #[.int .i64 most, v], .int .i64 i] w fun e w' => ∃ v', e = .returned (.tuple #[.agg #[.int .i64 most, v'], .int .i64 (hi its j), .bool true]) ∧ Hid (w'.ownsRow w.heap.size 47 2 v' (its.length - 1) (enc .i64 (its.take j ++ its.drop (j + 1))) ∧ Below w.heap.size w w') := by
  obtain ⟨⟨a0, a1⟩, ⟨r0, r1⟩, fa, fr, hsz, hb⟩ := boxes w (.int .i64 most) v (.int .i64 0) (.slice none 0 0)
  have h2 := items_below h hb
  have CF := hide (refFind most i _ h2 hn)
  have HS2 := hide hsz
  have HJ : Hid (∀ r, AtIs its i r → r = (j : Int)) := fun r hr => at_one hr hj hji hu
  obtain ⟨g, cap, rfl⟩ := item_block h (by omega)
  have HQ : Hid (∀ w3, Below ((w.alloc (.cells #[.int .i64 most, .slice (some ⟨g, 0, none⟩) its.length cap] 27)).alloc (.cells #[.int .i64 0, .slice none 0 0] 27)).heap.size ((w.alloc (.cells #[.int .i64 most, .slice (some ⟨g, 0, none⟩) its.length cap] 27)).alloc (.cells #[.int .i64 0, .slice none 0 0] 27)) w3 →
      w3.cell? ⟨g, j * 2 + 1, none⟩ = some (.int .i64 (hi its j)) ∧ its.length ≤ cap ∧ cap ≤ maxLen ∧ ∃ b1 c1 w4 src v2 w5, (Builtin.append_ #[25, 25] 25 #[.slice (some ⟨w3.heap.size, 0, none⟩) 0 0, .slice (some ⟨g, 0, none⟩) j cap]).run Try.prog (w3.alloc (.cells #[] 47)) = .ok (.slice b1 j c1) w4 ∧
      (if cap = j + 1 then (⟨g, 0, none⟩ : Addr) else ⟨g, (j + 1) * 2, none⟩) = src ∧
      (Builtin.append_ #[25, 25] 25 #[.slice b1 j c1, .slice (some src) (its.length - (j + 1)) (cap - (j + 1))]).run Try.prog w4 = .ok v2 w5 ∧ (∃ a2 c2, v2 = .slice a2 (its.length - 1) c2) ∧
      (w4.cell? ⟨w.heap.size, 1, none⟩ = some (.slice (some ⟨g, 0, none⟩) its.length cap)) ∧
      ((w5.cell? ⟨w.heap.size, 0, none⟩ = some (.int .i64 most) ∧ w5.cell? ⟨w.heap.size, 1, none⟩ = some (.slice (some ⟨g, 0, none⟩) its.length cap)) ∧ (w5.cell? ⟨w.heap.size + 1, 0, none⟩ = some (.int .i64 0) ∧ w5.cell? ⟨w.heap.size + 1, 1, none⟩ = some (.slice none 0 0)) ∧ (∀ o, w5.frozen? ⟨w.heap.size, o, none⟩ = false) ∧ ∀ o, w5.frozen? ⟨w.heap.size + 1, o, none⟩ = false) ∧
      Hid ((((w5.setCell ⟨w.heap.size, 1, none⟩ v2).setCell ⟨w.heap.size + 1, 0, none⟩ (.int .i64 most)).setCell ⟨w.heap.size + 1, 1, none⟩ v2).ownsRow w.heap.size 47 2 v2 (its.length - 1) (enc .i64 (its.take j ++ its.drop (j + 1))) ∧ Below w.heap.size w (((w5.setCell ⟨w.heap.size, 1, none⟩ v2).setCell ⟨w.heap.size + 1, 0, none⟩ (.int .i64 most)).setCell ⟨w.heap.size + 1, 1, none⟩ v2))) := fun w3 hb3 => by
    have hrow3 := items_below h2 hb3
    obtain ⟨b1, c1, w4, src, v2, w5, p1, p2, p3, p4, p5, p6, p7, p8⟩ := cutRow hrow3 hn hj
    have bW4 := hb3.trans (p5.mono hb3.size)
    have bW := hb3.trans (p6.mono hb3.size)
    have l3 : w.heap.size + 2 ≤ w3.heap.size := by have := hb3.size; omega
    obtain ⟨a2, c2, hv2⟩ := item_shape (items_kept p4 (fun _ _ => rfl))
    exact ⟨(owns_cells hrow3 j hj).2, p7, p8, b1, c1, w4, src, v2, w5, p1, p2, p3, ⟨a2, c2, hv2⟩, (boxes_kept hsz bW4 a0 a1 r0 r1 fa fr).1.2, boxes_kept hsz bW a0 a1 r0 r1 fa fr, put_end l3 p4 (hb.trans (bW.mono hb.size))⟩
  obtain ⟨hLc, hcm⟩ : its.length ≤ cap ∧ cap ≤ maxLen := by
    rcases h.2 with ⟨e, -⟩ | ⟨g', cap', cur', e, -, -, h1, h2, -⟩
    · cases e
    · cases e; exact ⟨h1, h2⟩
  have hjz : (j : Int) < (its.length : Int) := by omega
  have hcz : (j : Int) ≤ (cap : Int) := by omega
  have hiL : (j : Int) + 1 ≤ (its.length : Int) := by omega
  generalize hLL : its.length = L at *
  have hjL : j + 1 ≤ L := by omega
  have hL6 : L ≤ 1000000 := hn
  generalize hn2 : L - 1 = n2 at *
  generalize hxx : hi its j = xx at *
  unfold maxLen at hcm
  clear h hn hb hsz h2 hji hu hj hLL hn2
  by_cases hcap : cap = j + 1
  · subst hcap
    obtain rfl : L = j + 1 := Nat.le_antisymm hLc hjL
    clear hLc hjL hcm
    go_enter Try.func35, Try.ntmps35
    go_upto_region 1 with fail
    generalize ((w.alloc (.cells #[.int .i64 most, .slice (some ⟨g, 0, none⟩) (j + 1) (j + 1)] 27)).alloc (.cells #[.int .i64 0, .slice none 0 0] 27)) = W at *
    go_wp2_with fail
    refine (unhide CF).mono ?_
    rintro e w3 ⟨r, rfl, h4⟩
    obtain ⟨ha, hb3⟩ := unhide h4
    obtain rfl := unhide HJ r ha
    obtain ⟨x0, -, -, b1, c1, w4, src, v2, w5, q0, qs, q1, ⟨a2, c2, rfl⟩, k0, qc, qe⟩ := unhide HQ w3 hb3
    simp only [if_true] at qs
    subst qs
    rw [Nat.sub_self] at q1
    obtain ⟨⟨d0, d1⟩, -, -, -⟩ := boxes_kept (unhide HS2) hb3 a0 a1 r0 r1 fa fr
    have d2 := cell_made (.cells #[] 47) d1
    obtain ⟨⟨m0, m1⟩, ⟨m2, m3⟩, mf⟩ := put_cells (v2 := .slice a2 n2 c2) qc
    obtain ⟨⟨-, k1⟩, -, kf, -⟩ := qc
    have HR := hide (stored2 m2 m3 (.int .i64 most) (.slice a2 n2 c2))
    have HR1 := hide q0
    have HR2 := hide q1
    have hj0 : ¬ (j : Int) < 0 := by omega
    clear CF h4 ha hb3 HQ HJ q0 q1 a0 a1 r0 r1 fa fr
    go_wp2_with (at_builtin; first | (refine Lib.wpList_append_run _ rfl _ _ 25 25 rfl (.slice (some ⟨w3.heap.size, 0, none⟩) 0 0) (.slice (some ⟨g, 0, none⟩) j (j + 1)) rfl rfl _ _ HR1.out ?_) | (refine Lib.wpList_append_run _ rfl _ _ 25 25 rfl (.slice b1 j c1) (.slice (some ⟨g, 0, none⟩) 0 0) rfl rfl _ _ HR2.out ?_))
    (try simp only [Exit.inBlock, Exit.then])
    refine bodyPost_ret (res3 rfl _ _ (w.heap.size + 1) _ _ rfl (unhide HR).1 (unhide HR).2) rfl ?_
    exact ⟨_, rfl, unhide qe⟩
  · have hcap2 : ¬ cap = j + 1 := hcap
    go_enter Try.func35, Try.ntmps35
    go_upto_region 1 with fail
    generalize ((w.alloc (.cells #[.int .i64 most, .slice (some ⟨g, 0, none⟩) L cap] 27)).alloc (.cells #[.int .i64 0, .slice none 0 0] 27)) = W at *
    go_wp2_with fail
    refine (unhide CF).mono ?_
    rintro e w3 ⟨r, rfl, h4⟩
    obtain ⟨ha, hb3⟩ := unhide h4
    obtain rfl := unhide HJ r ha
    obtain ⟨x0, -, -, b1, c1, w4, src, v2, w5, q0, qs, q1, ⟨a2, c2, rfl⟩, k0, qc, qe⟩ := unhide HQ w3 hb3
    rw [if_neg hcap2] at qs
    subst qs
    obtain ⟨⟨d0, d1⟩, -, -, -⟩ := boxes_kept (unhide HS2) hb3 a0 a1 r0 r1 fa fr
    have d2 := cell_made (.cells #[] 47) d1
    obtain ⟨⟨m0, m1⟩, ⟨m2, m3⟩, mf⟩ := put_cells (v2 := .slice a2 n2 c2) qc
    obtain ⟨⟨-, k1⟩, -, kf, -⟩ := qc
    have HR := hide (stored2 m2 m3 (.int .i64 most) (.slice a2 n2 c2))
    have HR1 := hide q0
    have HR2 := hide q1
    have hj0 : ¬ (j : Int) < 0 := by omega
    clear CF h4 ha hb3 HQ HJ q0 q1 a0 a1 r0 r1 fa fr
    go_wp2_with (at_builtin; first | (refine Lib.wpList_append_run _ rfl _ _ 25 25 rfl (.slice (some ⟨w3.heap.size, 0, none⟩) 0 0) (.slice (some ⟨g, 0, none⟩) j cap) rfl rfl _ _ HR1.out ?_) | (refine Lib.wpList_append_run _ rfl _ _ 25 25 rfl (.slice b1 j c1) (.slice (some ⟨g, (j + 1) * 2, none⟩) (L - (j + 1)) (cap - (j + 1))) rfl rfl _ _ HR2.out ?_))
    (try simp only [Exit.inBlock, Exit.then])
    refine bodyPost_ret (res3 rfl _ _ (w.heap.size + 1) _ _ rfl (unhide HR).1 (unhide HR).2) rfl ?_
    exact ⟨_, rfl, unhide qe⟩
end Go.Proofs.Ytkdlhnfagghppaa
