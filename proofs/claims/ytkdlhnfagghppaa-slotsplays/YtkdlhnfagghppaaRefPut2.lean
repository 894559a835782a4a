/- The reference's PutAt, where it puts. -/
import Derived.Test.YtkdlhnfagghppaaRefPut
namespace Go.Proofs.Ytkdlhnfagghppaa
open Go.RowKit Go.Maps

theorem row_low {w w' : World} {v : Value} {B B' L : Nat} {xs : List Value} (h : w.ownsRow B 47 2 v L xs) (hB : B' ≤ B) (hk : ∀ k, v.ownBlock = some k → w'.heap[k]? = w.heap[k]?) : w'.ownsRow B' 47 2 v L xs := by
  refine ⟨h.1, ?_⟩
  rcases h.2 with hn | ⟨g, cap, cur, rfl, hb, hgg, rest⟩
  · exact .inl hn
  · exact .inr ⟨g, cap, cur, rfl, Nat.le_trans hB hb, (hk g rfl).trans hgg, rest⟩

theorem cell_made {w : World} {p : Addr} {v : Value} (o : Obj) (h : w.cell? p = some v) : (w.alloc o).cell? p = some v :=
  (((Below.refl w.heap.size w).alloc (Nat.le_refl _) o).cell (World.block_lt_of_cell? _ _ h)).trans h

/-- Behind the stores into the box and the result. -/
theorem put_end {w w3 w5 : World} {v2 : Value} {L : Nat} {xs : List Value} {x : Value} (h3 : w.heap.size + 2 ≤ w3.heap.size) (h5 : w5.ownsRow w3.heap.size 47 2 v2 L xs) (hb : Below w.heap.size w w5) :
    (((w5.setCell ⟨w.heap.size, 1, none⟩ v2).setCell ⟨w.heap.size + 1, 0, none⟩ x).setCell ⟨w.heap.size + 1, 1, none⟩ v2).ownsRow w.heap.size 47 2 v2 L xs ∧ Below w.heap.size w (((w5.setCell ⟨w.heap.size, 1, none⟩ v2).setCell ⟨w.heap.size + 1, 0, none⟩ x).setCell ⟨w.heap.size + 1, 1, none⟩ v2) := by
  refine ⟨row_low h5 (by omega) (fun k hk => ?_), below2 (hb.setCell (p := ⟨w.heap.size, 1, none⟩) (Nat.le_refl _) _) (by omega) _ _⟩
  have hk1 := (h5.lt k hk).1
  have n1 : k ≠ w.heap.size := by omega
  have n2 : k ≠ w.heap.size + 1 := by omega
  rw [heap_setCell_other _ _ _ _ n2, heap_setCell_other _ _ _ _ n2, heap_setCell_other _ _ _ _ n1]

/-- What is read behind the store into the box. -/
theorem put_cells {w w5 : World} {x y x' y' v2 : Value} (c : (w5.cell? ⟨w.heap.size, 0, none⟩ = some x ∧ w5.cell? ⟨w.heap.size, 1, none⟩ = some y) ∧ (w5.cell? ⟨w.heap.size + 1, 0, none⟩ = some x' ∧ w5.cell? ⟨w.heap.size + 1, 1, none⟩ = some y') ∧ (∀ o, w5.frozen? ⟨w.heap.size, o, none⟩ = false) ∧ ∀ o, w5.frozen? ⟨w.heap.size + 1, o, none⟩ = false) :
    ((w5.setCell ⟨w.heap.size, 1, none⟩ v2).cell? ⟨w.heap.size, 0, none⟩ = some x ∧ (w5.setCell ⟨w.heap.size, 1, none⟩ v2).cell? ⟨w.heap.size, 1, none⟩ = some v2) ∧
    ((w5.setCell ⟨w.heap.size, 1, none⟩ v2).cell? ⟨w.heap.size + 1, 0, none⟩ = some x' ∧ (w5.setCell ⟨w.heap.size, 1, none⟩ v2).cell? ⟨w.heap.size + 1, 1, none⟩ = some y') ∧ ∀ o, (w5.setCell ⟨w.heap.size, 1, none⟩ v2).frozen? ⟨w.heap.size + 1, o, none⟩ = false := by
  obtain ⟨⟨c0, c1⟩, ⟨d0, d1⟩, -, f⟩ := c
  refine ⟨⟨(World.cell?_setCell_other _ _ _ _ (by simp)).trans c0, World.cell?_setCell_same _ _ _ c1⟩, ⟨(World.cell?_setCell_other _ _ _ _ (by simp)).trans d0, (World.cell?_setCell_other _ _ _ _ (by simp)).trans d1⟩, fun o => (World.frozen?_setCell _ _ _ _).trans (f o)⟩

set_option maxHeartbeats 1000000 in
set_option maxRecDepth 100000 in
theorem refPutYes {v : Value} {its : List (Int × Int)} (most i x : Int) (w : World) (h : w.ownsRow 0 47 2 v its.length (enc .i64 its)) (hn : its.length ≤ 1000000) (hi1 : 1 ≤ i) (hi2 : i ≤ most) (ho : Out its i) :
    Calls Try.prog 32 #[.agg #[.int .i64 most, v], .int .i64 i, .int .i64 x] w fun e w' => ∃ v', e = .returned (.tuple #[.agg #[.int .i64 most, v'], .bool true]) ∧ Hid (w'.ownsRow w.heap.size 47 2 v' (its.length + 1) (enc .i64 (its ++ [(i, x)])) ∧ Below w.heap.size w w') := by
  obtain ⟨⟨a0, a1⟩, ⟨r0, r1⟩, fa, fr, hsz, hb⟩ := boxes w (.int .i64 most) v (.int .i64 0) (.slice none 0 0)
  have h2 := items_below h hb
  have h1 : ¬ i < 1 := by omega
  have h3 : ¬ most < i := by omega
  have CF := hide (refFind most i _ h2 hn)
  have HO := hide ho
  have HS2 := hide hsz
  rcases h.2 with ⟨rfl, h0⟩ | ⟨g, cap, cur, rfl, -, hg, -⟩
  · obtain rfl : its = [] := List.eq_nil_of_length_eq_zero h0
    have HQ : Hid (∀ w3, Below ((w.alloc (.cells #[.int .i64 most, .slice none 0 0] 27)).alloc (.cells #[.int .i64 0, .slice none 0 0] 27)).heap.size ((w.alloc (.cells #[.int .i64 most, .slice none 0 0] 27)).alloc (.cells #[.int .i64 0, .slice none 0 0] 27)) w3 → ∃ v2 w5, (Builtin.append_ #[25, 25] 25 #[.slice (some ⟨w3.heap.size, 0, none⟩) 0 0, .slice (some ⟨w3.heap.size + 1, 0, none⟩) 1 1]).run Try.prog ((w3.alloc (.cells #[] 47)).alloc (.cells #[.int .i64 i, .int .i64 x] 47)) = .ok v2 w5 ∧ (∃ a2 c2, v2 = .slice a2 1 c2) ∧
        ((w5.cell? ⟨w.heap.size, 0, none⟩ = some (.int .i64 most) ∧ w5.cell? ⟨w.heap.size, 1, none⟩ = some (.slice none 0 0)) ∧ (w5.cell? ⟨w.heap.size + 1, 0, none⟩ = some (.int .i64 0) ∧ w5.cell? ⟨w.heap.size + 1, 1, none⟩ = some (.slice none 0 0)) ∧ (∀ o, w5.frozen? ⟨w.heap.size, o, none⟩ = false) ∧ ∀ o, w5.frozen? ⟨w.heap.size + 1, o, none⟩ = false) ∧
        Hid ((((w5.setCell ⟨w.heap.size, 1, none⟩ v2).setCell ⟨w.heap.size + 1, 0, none⟩ (.int .i64 most)).setCell ⟨w.heap.size + 1, 1, none⟩ v2).ownsRow w.heap.size 47 2 v2 1 (enc .i64 [(i, x)]) ∧ Below w.heap.size w (((w5.setCell ⟨w.heap.size, 1, none⟩ v2).setCell ⟨w.heap.size + 1, 0, none⟩ (.int .i64 most)).setCell ⟨w.heap.size + 1, 1, none⟩ v2))) := fun w3 hb3 => by
      have hmade : (w3.alloc (.cells #[] 47)).ownsRow w3.heap.size 47 2 (.slice (some ⟨w3.heap.size, 0, none⟩) 0 0) ([] : List (Int × Int)).length (enc .i64 []) := World.ownsRow_made w3 #[] 0 (Nat.le_refl _) (by unfold maxLen; omega) rfl
      obtain ⟨v2, w5, q1, q2, q3⟩ := snocRow (B := w3.heap.size) hmade (by simp) (by simp) i x
      have hs3 : (w3.alloc (.cells #[] 47)).heap.size = w3.heap.size + 1 := by simp
      rw [hs3] at q1
      have b5 : Below w3.heap.size w3 w5 := ((Below.refl w3.heap.size w3).alloc (Nat.le_refl _) (.cells #[] 47)).trans q3
      have bW := hb3.trans (b5.mono hb3.size)
      have l3 : w.heap.size + 2 ≤ w3.heap.size := by have := hb3.size; omega
      obtain ⟨a2, c2, hv2⟩ := item_shape (items_kept q2 (fun _ _ => rfl))
      exact ⟨v2, w5, q1, ⟨a2, c2, by simpa using hv2⟩, boxes_kept hsz bW a0 a1 r0 r1 fa fr, put_end l3 (by simpa using q2) (hb.trans (bW.mono hb.size))⟩
    clear h hn hi1 hi2 ho hb hsz h2 h0
    go_enter Try.func32, Try.ntmps32
    go_upto_region 1 with fail
    generalize ((w.alloc (.cells #[.int .i64 most, .slice none 0 0] 27)).alloc (.cells #[.int .i64 0, .slice none 0 0] 27)) = W at *
    go_wp2_with fail
    refine (unhide CF).mono ?_
    rintro e w3 ⟨r, rfl, h4⟩
    obtain ⟨ha, hb3⟩ := unhide h4
    have hr : r < 0 := by
      rcases Int.lt_or_le r 0 with e | e
      · exact e
      · exact absurd (unhide HO) (in_of ha (by omega))
    obtain ⟨v2, w5, q1, ⟨a2, c2, rfl⟩, qc, qe⟩ := unhide HQ w3 hb3
    obtain ⟨⟨d0, d1⟩, -, -, -⟩ := boxes_kept (unhide HS2) hb3 a0 a1 r0 r1 fa fr
    have d2 := cell_made (.cells #[] 47) d1
    obtain ⟨⟨m0, m1⟩, ⟨m2, m3⟩, mf⟩ := put_cells (v2 := .slice a2 1 c2) qc
    obtain ⟨⟨-, k1⟩, -, kf, -⟩ := qc
    have HR := hide (stored2 m2 m3 (.int .i64 most) (.slice a2 1 c2))
    have HR2 := hide q1
    clear CF h4 ha hb3 HQ HO q1 a0 a1 r0 r1 fa fr
    go_wp2_with (at_builtin; refine Lib.wpList_append_run _ rfl _ _ 25 25 rfl (.slice (some ⟨w3.heap.size, 0, none⟩) 0 0) (.slice (some ⟨w3.heap.size + 1, 0, none⟩) 1 1) rfl rfl _ _ HR2.out ?_)
    (try simp only [Exit.inBlock, Exit.then])
    refine bodyPost_ret (res2 rfl _ _ (w.heap.size + 1) _ _ rfl (unhide HR).1 (unhide HR).2) rfl ?_
    exact ⟨_, rfl, unhide qe⟩
  · have HQ : Hid (∀ w3, Below ((w.alloc (.cells #[.int .i64 most, .slice (some ⟨g, 0, none⟩) its.length cap] 27)).alloc (.cells #[.int .i64 0, .slice none 0 0] 27)).heap.size ((w.alloc (.cells #[.int .i64 most, .slice (some ⟨g, 0, none⟩) its.length cap] 27)).alloc (.cells #[.int .i64 0, .slice none 0 0] 27)) w3 → ∃ b1 c1 w4 v2 w5, (Builtin.append_ #[25, 25] 25 #[.slice (some ⟨w3.heap.size, 0, none⟩) 0 0, .slice (some ⟨g, 0, none⟩) its.length cap]).run Try.prog (w3.alloc (.cells #[] 47)) = .ok (.slice b1 its.length c1) w4 ∧ (Builtin.append_ #[25, 25] 25 #[.slice b1 its.length c1, .slice (some ⟨w4.heap.size, 0, none⟩) 1 1]).run Try.prog (w4.alloc (.cells #[.int .i64 i, .int .i64 x] 47)) = .ok v2 w5 ∧ (∃ a2 c2, v2 = .slice a2 (its.length + 1) c2) ∧
        ((w5.cell? ⟨w.heap.size, 0, none⟩ = some (.int .i64 most) ∧ w5.cell? ⟨w.heap.size, 1, none⟩ = some (.slice (some ⟨g, 0, none⟩) its.length cap)) ∧ (w5.cell? ⟨w.heap.size + 1, 0, none⟩ = some (.int .i64 0) ∧ w5.cell? ⟨w.heap.size + 1, 1, none⟩ = some (.slice none 0 0)) ∧ (∀ o, w5.frozen? ⟨w.heap.size, o, none⟩ = false) ∧ ∀ o, w5.frozen? ⟨w.heap.size + 1, o, none⟩ = false) ∧
        Hid ((((w5.setCell ⟨w.heap.size, 1, none⟩ v2).setCell ⟨w.heap.size + 1, 0, none⟩ (.int .i64 most)).setCell ⟨w.heap.size + 1, 1, none⟩ v2).ownsRow w.heap.size 47 2 v2 (its.length + 1) (enc .i64 (its ++ [(i, x)])) ∧ Below w.heap.size w (((w5.setCell ⟨w.heap.size, 1, none⟩ v2).setCell ⟨w.heap.size + 1, 0, none⟩ (.int .i64 most)).setCell ⟨w.heap.size + 1, 1, none⟩ v2))) := fun w3 hb3 => by
      obtain ⟨b1, c1, w4, p1, p2, p3, p4⟩ := copyRow (items_below h2 hb3) hn
      obtain ⟨v2, w5, q1, q2, q3⟩ := snocRow (B := w3.heap.size) p2 hn p3.size i x
      have b5 : Below w3.heap.size w3 w5 := p3.trans q3
      have bW := hb3.trans (b5.mono hb3.size)
      have l3 : w.heap.size + 2 ≤ w3.heap.size := by have := hb3.size; omega
      obtain ⟨a2, c2, hv2⟩ := item_shape (items_kept q2 (fun _ _ => rfl))
      exact ⟨b1, c1, w4, v2, w5, p1, q1, ⟨a2, c2, hv2⟩, boxes_kept hsz bW a0 a1 r0 r1 fa fr, put_end l3 q2 (hb.trans (bW.mono hb.size))⟩
    generalize its.length = L at *
    clear h hn hi1 hi2 ho hb hsz h2 hg
    go_enter Try.func32, Try.ntmps32
    go_upto_region 1 with fail
    generalize ((w.alloc (.cells #[.int .i64 most, .slice (some ⟨g, 0, none⟩) L cap] 27)).alloc (.cells #[.int .i64 0, .slice none 0 0] 27)) = W at *
    go_wp2_with fail
    refine (unhide CF).mono ?_
    rintro e w3 ⟨r, rfl, h4⟩
    obtain ⟨ha, hb3⟩ := unhide h4
    have hr : r < 0 := by
      rcases Int.lt_or_le r 0 with e | e
      · exact e
      · exact absurd (unhide HO) (in_of ha (by omega))
    obtain ⟨b1, c1, w4, v2, w5, q0, q1, ⟨a2, c2, rfl⟩, qc, qe⟩ := unhide HQ w3 hb3
    obtain ⟨⟨d0, d1⟩, -, -, -⟩ := boxes_kept (unhide HS2) hb3 a0 a1 r0 r1 fa fr
    have d2 := cell_made (.cells #[] 47) d1
    obtain ⟨⟨m0, m1⟩, ⟨m2, m3⟩, mf⟩ := put_cells (v2 := .slice a2 (L + 1) c2) qc
    obtain ⟨⟨-, k1⟩, -, kf, -⟩ := qc
    have HR := hide (stored2 m2 m3 (.int .i64 most) (.slice a2 (L + 1) c2))
    have HR1 := hide q0
    have HR2 := hide q1
    clear CF h4 ha hb3 HQ HO q0 q1 a0 a1 r0 r1 fa fr
    go_wp2_with (at_builtin; first | (refine Lib.wpList_append_run _ rfl _ _ 25 25 rfl (.slice (some ⟨w3.heap.size, 0, none⟩) 0 0) (.slice (some ⟨g, 0, none⟩) L cap) rfl rfl _ _ HR1.out ?_) | (refine Lib.wpList_append_run _ rfl _ _ 25 25 rfl (.slice b1 L c1) (.slice (some ⟨w4.heap.size, 0, none⟩) 1 1) rfl rfl _ _ HR2.out ?_))
    (try simp only [Exit.inBlock, Exit.then])
    refine bodyPost_ret (res2 rfl _ _ (w.heap.size + 1) _ _ rfl (unhide HR).1 (unhide HR).2) rfl ?_
    exact ⟨_, rfl, unhide qe⟩
end Go.Proofs.Ytkdlhnfagghppaa
