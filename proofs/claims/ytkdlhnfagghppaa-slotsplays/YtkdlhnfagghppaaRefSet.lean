/- The reference's Set. -/
import Derived.Test.YtkdlhnfagghppaaRefPut2
namespace Go.Proofs.Ytkdlhnfagghppaa
open Go.RowKit Go.Maps

theorem enc_set (k : IntKind) : ∀ (its : List (Int × Int)) (i : Nat) (x : Int × Int), enc k (its.set i x) = ((enc k its).set (i * 2) (.int k x.1)).set (i * 2 + 1) (.int k x.2)
  | [], i, x => by simp [enc]
  | r :: rs, 0, x => by simp [enc]
  | r :: rs, i + 1, x => by
    rw [List.set_cons_succ, enc_cons, enc_set k rs i x, enc_cons, show (i + 1) * 2 = i * 2 + 1 + 1 by omega, show i * 2 + 1 + 1 + 1 = (i * 2 + 1) + 1 + 1 by omega]
    simp only [List.set_cons_succ]
theorem enc_set_hi (k : IntKind) {its : List (Int × Int)} {i : Nat} (h : i < its.length) (x : Int) : enc k (its.set i (lo its i, x)) = (enc k its).set (i * 2 + 1) (.int k x) := by
  rw [enc_set]
  congr 1
  apply List.ext_getElem?
  intro j
  by_cases e : i * 2 = j
  · subst e
    rw [List.getElem?_set_self (by rw [enc_length]; omega), enc_lo k its i h]
  · rw [List.getElem?_set_ne e]

theorem at_one {its : List (Int × Int)} {k r : Int} {j : Nat} (h : AtIs its k r) (hj : j < its.length) (e : lo its j = k) (hu : ∀ m, m < its.length → lo its m = k → m = j) : r = (j : Int) := by
  rcases h with ⟨-, h⟩ | ⟨i, h1, h2, h3, -⟩
  · exact absurd e (h j hj)
  · rw [h2, hu i h1 h3]

set_option maxHeartbeats 1000000 in
set_option maxRecDepth 100000 in
theorem refSetNo {v : Value} {its : List (Int × Int)} (most i x : Int) (w : World) (h : w.ownsRow 0 47 2 v its.length (enc .i64 its)) (hn : its.length ≤ 1000000) (ho : Out its i) :
    Calls Try.prog 34 #[.agg #[.int .i64 most, v], .int .i64 i, .int .i64 x] w fun e w' => e = .returned (.tuple #[.agg #[.int .i64 most, v], .bool false]) ∧ Hid (Below w.heap.size w w') := by
  obtain ⟨⟨a0, a1⟩, ⟨r0, r1⟩, fa, fr, hsz, hb⟩ := boxes w (.int .i64 most) v (.int .i64 0) (.slice none 0 0)
  have CF := hide (refFind most i _ (items_below h hb) hn)
  obtain ⟨a, c, rfl⟩ := item_shape h
  have HO := hide ho
  have HB := hide hb
  have HSZ := hide hsz
  generalize hL : its.length = L at *
  clear h hn ho hb hsz hL
  go_enter Try.func34, Try.ntmps34
  go_upto_region 1 with fail
  generalize ((w.alloc (.cells #[.int .i64 most, .slice a L c] 27)).alloc (.cells #[.int .i64 0, .slice none 0 0] 27)) = W at *
  go_wp2_with fail
  refine (unhide CF).mono ?_
  rintro e w3 ⟨r, rfl, h3⟩
  obtain ⟨ha, hb3⟩ := unhide h3
  have hr : r < 0 := by
    rcases Int.lt_or_le r 0 with e | e
    · exact e
    · exact absurd (unhide HO) (in_of ha (by omega))
  obtain ⟨⟨d0, d1⟩, ⟨e0, e1⟩, -, ef⟩ := boxes_kept (unhide HSZ) hb3 a0 a1 r0 r1 fa fr
  have HR := hide (stored2 e0 e1 (.int .i64 most) (.slice a L c))
  have HBR := hide (below2 ((unhide HB).trans (hb3.mono (unhide HB).size)) (by omega : w.heap.size ≤ w.heap.size + 1) (.int .i64 most) (.slice a L c))
  clear CF h3 ha hb3 HB HSZ a0 a1 r0 r1 fa fr
  go_wp2_with fail
  (try simp only [Exit.inBlock, Exit.then])
  refine bodyPost_ret (res2 rfl _ _ (w.heap.size + 1) _ _ rfl (unhide HR).1 (unhide HR).2) rfl ?_
  exact ⟨rfl, unhide HBR⟩

set_option maxHeartbeats 1000000 in
set_option maxRecDepth 100000 in
theorem refSetYes {v : Value} {its : List (Int × Int)} (most i x : Int) (j : Nat) (w : World) (h : w.ownsRow 0 47 2 v its.length (enc .i64 its)) (hn : its.length ≤ 1000000) (hj : j < its.length) (hji : lo its j = i) (hu : ∀ m, m < its.length → lo its m = i → m = j) :
    Calls Try.prog 34 #[.agg #[.int .i64 most, v], .int .i64 i, .int .i64 x] w fun e w' => ∃ v', e = .returned (.tuple #[.agg #[.int .i64 most, v'], .bool true]) ∧ Hid (w'.ownsRow w.heap.size 47 2 v' its.length (enc .i64 (its.set j (i, x))) ∧ Below w.heap.size w w') := by
  obtain ⟨⟨a0, a1⟩, ⟨r0, r1⟩, fa, fr, hsz, hb⟩ := boxes w (.int .i64 most) v (.int .i64 0) (.slice none 0 0)
  have h2 := items_below h hb
  have CF := hide (refFind most i _ h2 hn)
  have HS2 := hide hsz
  have HJ : Hid (∀ r, AtIs its i r → r = (j : Int)) := fun r hr => at_one hr hj hji hu
  obtain ⟨g, cap, rfl⟩ := item_block h (by omega)
  have HQ : Hid (∀ w3, Below ((w.alloc (.cells #[.int .i64 most, .slice (some ⟨g, 0, none⟩) its.length cap] 27)).alloc (.cells #[.int .i64 0, .slice none 0 0] 27)).heap.size ((w.alloc (.cells #[.int .i64 most, .slice (some ⟨g, 0, none⟩) its.length cap] 27)).alloc (.cells #[.int .i64 0, .slice none 0 0] 27)) w3 → ∃ b1 c1 w4, (Builtin.append_ #[25, 25] 25 #[.slice (some ⟨w3.heap.size, 0, none⟩) 0 0, .slice (some ⟨g, 0, none⟩) its.length cap]).run Try.prog (w3.alloc (.cells #[] 47)) = .ok (.slice (some ⟨b1, 0, none⟩) its.length c1) w4 ∧
      ((w4.cell? ⟨w.heap.size, 0, none⟩ = some (.int .i64 most) ∧ w4.cell? ⟨w.heap.size, 1, none⟩ = some (.slice (some ⟨g, 0, none⟩) its.length cap)) ∧ (w4.cell? ⟨w.heap.size + 1, 0, none⟩ = some (.int .i64 0) ∧ w4.cell? ⟨w.heap.size + 1, 1, none⟩ = some (.slice none 0 0)) ∧ (∀ o, w4.frozen? ⟨w.heap.size, o, none⟩ = false) ∧ ∀ o, w4.frozen? ⟨w.heap.size + 1, o, none⟩ = false) ∧
      (b1 ≠ w.heap.size ∧ b1 ≠ w.heap.size + 1 ∧ (∃ u, w4.cell? ⟨b1, j * 2 + 1, none⟩ = some u) ∧ (∀ o, w4.frozen? ⟨b1, o, none⟩ = false)) ∧
      Hid (((((w4.setCell ⟨w.heap.size, 1, none⟩ (.slice (some ⟨b1, 0, none⟩) its.length c1)).setCell ⟨b1, j * 2 + 1, none⟩ (.int .i64 x)).setCell ⟨w.heap.size + 1, 0, none⟩ (.int .i64 most)).setCell ⟨w.heap.size + 1, 1, none⟩ (.slice (some ⟨b1, 0, none⟩) its.length c1)).ownsRow w.heap.size 47 2 (.slice (some ⟨b1, 0, none⟩) its.length c1) its.length (enc .i64 (its.set j (i, x))) ∧
        Below w.heap.size w ((((w4.setCell ⟨w.heap.size, 1, none⟩ (.slice (some ⟨b1, 0, none⟩) its.length c1)).setCell ⟨b1, j * 2 + 1, none⟩ (.int .i64 x)).setCell ⟨w.heap.size + 1, 0, none⟩ (.int .i64 most)).setCell ⟨w.heap.size + 1, 1, none⟩ (.slice (some ⟨b1, 0, none⟩) its.length c1)))) := fun w3 hb3 => by
    obtain ⟨b1, c1, w4, p1, p2, p3, p4⟩ := copyRow (items_below h2 hb3) hn
    obtain ⟨b1, rfl⟩ : ∃ b, b1 = some (⟨b, 0, none⟩ : Addr) := by
      obtain ⟨g', c', e⟩ := item_block (items_kept p2 (fun _ _ => rfl)) (by omega)
      simp only [Value.slice.injEq] at e
      exact ⟨g', e.1⟩
    have bW := hb3.trans (p3.mono hb3.size)
    have l3 : w.heap.size + 2 ≤ w3.heap.size := by have := hb3.size; omega
    have hb1 := p2.lt b1 rfl
    have n1 : b1 ≠ w.heap.size := by omega
    have n2 : b1 ≠ w.heap.size + 1 := by omega
    have hst := (p2.stored (j * 2 + 1) (.int .i64 x)).1
    rw [← enc_set_hi .i64 hj x, hji] at hst
    refine ⟨b1, c1, w4, p1, boxes_kept hsz bW a0 a1 r0 r1 fa fr, ⟨n1, n2, ⟨_, (owns_cells p2 j hj).2⟩, fun o => ?_⟩, ?_, ?_⟩
    · rcases p2.2 with ⟨e, -⟩ | ⟨g', cap', cur', e, -, hgg, -⟩
      · cases e
      · cases e; exact frozen_of_row w4 b1 o _ _ hgg
    · refine row_low hst (by omega) (fun k hk => ?_)
      have hkb : b1 = k := by simpa [Value.ownBlock] using hk
      subst hkb
      rw [heap_setCell_other _ _ _ _ n2, heap_setCell_other _ _ _ _ n2]
      rcases p2.2 with ⟨e, -⟩ | ⟨g', cap', cur', e, -, hgg, -⟩
      · cases e
      · cases e
        have hgg2 : (w4.setCell ⟨w.heap.size, 1, none⟩ (.slice (some ⟨b1, 0, none⟩) its.length c1)).heap[b1]? = some (.cells cur' 47 (0, 0)) := (heap_setCell_other _ _ _ _ n1).trans hgg
        rw [heap_setCell_same _ _ _ _ _ _ hgg2, heap_setCell_same _ _ _ _ _ _ hgg]
    · exact below2 (((hb.trans (bW.mono hb.size)).setCell (p := ⟨w.heap.size, 1, none⟩) (Nat.le_refl _) _).setCell (p := ⟨b1, j * 2 + 1, none⟩) (by show w.heap.size ≤ b1; omega) _) (by omega) _ _
  have hjz : (j : Int) < (its.length : Int) := by omega
  generalize its.length = L at *
  clear h hn hb hsz h2 hji hu hj
  go_enter Try.func34, Try.ntmps34
  go_upto_region 1 with fail
  generalize ((w.alloc (.cells #[.int .i64 most, .slice (some ⟨g, 0, none⟩) L cap] 27)).alloc (.cells #[.int .i64 0, .slice none 0 0] 27)) = W at *
  go_wp2_with fail
  refine (unhide CF).mono ?_
  rintro e w3 ⟨r, rfl, h4⟩
  obtain ⟨ha, hb3⟩ := unhide h4
  obtain rfl := unhide HJ r ha
  obtain ⟨b1, c1, w4, q0, qc, ⟨n1, n2, ⟨u, t1⟩, tf⟩, qe⟩ := unhide HQ w3 hb3
  obtain ⟨⟨d0, d1⟩, -, -, -⟩ := boxes_kept (unhide HS2) hb3 a0 a1 r0 r1 fa fr
  have d2 := cell_made (.cells #[] 47) d1
  obtain ⟨⟨m0, m1⟩, ⟨m2, m3⟩, mf⟩ := put_cells (v2 := .slice (some ⟨b1, 0, none⟩) L c1) qc
  obtain ⟨⟨-, k1⟩, -, kf, -⟩ := qc
  have t2 : (w4.setCell ⟨w.heap.size, 1, none⟩ (.slice (some ⟨b1, 0, none⟩) L c1)).cell? ⟨b1, j * 2 + 1, none⟩ = some u := (World.cell?_setCell_other _ _ _ _ (by simp)).trans t1
  have tf2 : ∀ o, (w4.setCell ⟨w.heap.size, 1, none⟩ (.slice (some ⟨b1, 0, none⟩) L c1)).frozen? ⟨b1, o, none⟩ = false := fun o => (World.frozen?_setCell _ _ _ _).trans (tf o)
  have o0 : ((w4.setCell ⟨w.heap.size, 1, none⟩ (.slice (some ⟨b1, 0, none⟩) L c1)).setCell ⟨b1, j * 2 + 1, none⟩ (.int .i64 x)).cell? ⟨w.heap.size, 0, none⟩ = some (.int .i64 most) := (World.cell?_setCell_other _ _ _ _ (by simp)).trans m0
  have o1 : ((w4.setCell ⟨w.heap.size, 1, none⟩ (.slice (some ⟨b1, 0, none⟩) L c1)).setCell ⟨b1, j * 2 + 1, none⟩ (.int .i64 x)).cell? ⟨w.heap.size, 1, none⟩ = some (.slice (some ⟨b1, 0, none⟩) L c1) := (World.cell?_setCell_other _ _ _ _ (by simp)).trans m1
  have o2 : ((w4.setCell ⟨w.heap.size, 1, none⟩ (.slice (some ⟨b1, 0, none⟩) L c1)).setCell ⟨b1, j * 2 + 1, none⟩ (.int .i64 x)).cell? ⟨w.heap.size + 1, 0, none⟩ = some (.int .i64 0) := (World.cell?_setCell_other _ _ _ _ (by simp)).trans m2
  have o3 : ((w4.setCell ⟨w.heap.size, 1, none⟩ (.slice (some ⟨b1, 0, none⟩) L c1)).setCell ⟨b1, j * 2 + 1, none⟩ (.int .i64 x)).cell? ⟨w.heap.size + 1, 1, none⟩ = some (.slice none 0 0) := (World.cell?_setCell_other _ _ _ _ (by simp)).trans m3
  have HR := hide (stored2 o2 o3 (.int .i64 most) (.slice (some ⟨b1, 0, none⟩) L c1))
  have HR1 := hide q0
  have hj0 : ¬ (j : Int) < 0 := by omega
  clear CF h4 ha hb3 HQ HJ q0 a0 a1 r0 r1 fa fr tf t1
  go_wp2_with (at_builtin; refine Lib.wpList_append_run _ rfl _ _ 25 25 rfl (.slice (some ⟨w3.heap.size, 0, none⟩) 0 0) (.slice (some ⟨g, 0, none⟩) L cap) rfl rfl _ _ HR1.out ?_)
  (try simp only [Exit.inBlock, Exit.then])
  refine bodyPost_ret (res2 rfl _ _ (w.heap.size + 1) _ _ rfl (unhide HR).1 (unhide HR).2) rfl ?_
  exact ⟨_, rfl, unhide qe⟩
end Go.Proofs.Ytkdlhnfagghppaa
