/- WitnessEncodes: the law's walk. -/
import Derived.Test.YtffdpfkcfohbiaaAw16
import Derived.Test.YtffdpfkcfohbiaaRm16
namespace Go.Proofs.Ytffdpfkcfohbiaa
open Go.RowKit Go.Maps
set_option maxHeartbeats 8000000 in
set_option maxRecDepth 100000 in
theorem encodesW (w : World) {ev : Value} {es : List Int} (F T : Int) (u : Nat) (h : Lies i64v w ev es) (hu : u < 4294967296) (hl : es.length * 8 ≤ 140737488351232) :
    Calls Try.prog 3 #[.agg #[.int .i64 F, .int .i64 T, .int .u32 (u : Nat), ev]] w fun e w' => e = .returned (.bool true) ∧ Hid (Below w.heap.size w w') := by
  obtain ⟨a, c, hv⟩ := lies_shape h
  obtain ⟨n, hn⟩ : ∃ n, n = es.length := ⟨_, rfl⟩
  rw [← hn] at hv
  subst hv
  have hb := below_new w (oV F T u (.slice a n c))
  have hx := heap_alloc_new w (oV F T u (.slice a n c))
  have HW := hide (And.intro hb hx)
  have CA : Hid (∀ W : World, Calls Try.prog 7 #[] W fun e w' => e = .returned (.bool true) ∧ Hid (Below W.heap.size W w')) := fun W => awakeS W
  have CO : Hid (∀ W : World, Below w.heap.size w W → Calls Try.prog 9 #[.agg #[.int .i64 F, .int .i64 T, .int .u32 (u : Nat), .slice a n c]] W fun e w' => ∃ ev', e = .returned (.agg #[.int .i64 F, .int .i64 T, .int .u32 (u : Nat), ev']) ∧ Hid (NRow W.heap.size w' ev' es ∧ Below W.heap.size W w')) := fun W hW => ownS F T u (lies_below h hW) (by omega)
  have CR : Hid (∀ W : World, Below w.heap.size w W → Calls Try.prog 10 #[.agg #[.int .i64 F, .int .i64 T, .int .u32 (u : Nat), .slice a n c]] W fun e w' => e = .returned (.int .i64 (errC (F, T, u, es))) ∧ Hid (Below W.heap.size W w')) := fun W hW => errorR F T u (lies_below h hW)
  have H := hide h
  have HU := hide hu
  clear h hu hl hn hb hx
  unfold oV at *
  go_enter Try.func3, Try.ntmps3
  go_wp2_with fail
  refine (unhide CA _).mono ?_
  rintro e w1 ⟨rfl, hb1⟩
  have hB1 : Hid (Below w.heap.size w w1 ∧ w1.heap[w.heap.size]? = some (oV F T u (.slice a n c))) := ⟨(unhide HW).1.trans ((unhide hb1).mono (unhide HW).1.size), ((unhide hb1).block _ (heap_lt (unhide HW).2)).trans (unhide HW).2⟩
  obtain ⟨c0, c1, c2, c3⟩ := oV_cells (unhide hB1).2
  clear hb1 HW CA
  go_wp2_with fail
  refine (unhide CO _ (unhide hB1).1).mono ?_
  rintro e w2 ⟨ev2, rfl, h2⟩
  have CE := hide (encodeS F T u (nrow_lies (unhide h2).1) (unhide HU))
  have hB2 : Hid (Below w.heap.size w w2 ∧ w2.heap[w.heap.size]? = some (oV F T u (.slice a n c))) := ⟨(unhide hB1).1.trans ((unhide h2).2.mono (unhide hB1).1.size), ((unhide h2).2.block _ (heap_lt (unhide hB1).2)).trans (unhide hB1).2⟩
  clear h2 hB1 CO c0 c1 c2 c3
  go_wp2_with fail
  refine (unhide CE).mono ?_
  intro e w3 HA
  obtain ⟨bv, rfl, h3, hb3⟩ := unhide HA
  have H3 := hide h3
  have hB3 : Hid (Below w.heap.size w w3 ∧ w3.heap[w.heap.size]? = some (oV F T u (.slice a n c))) := ⟨(unhide hB2).1.trans (hb3.mono (unhide hB2).1.size), (hb3.block _ (heap_lt (unhide hB2).2)).trans (unhide hB2).2⟩
  obtain ⟨c0, c1, c2, c3⟩ := oV_cells (unhide hB3).2
  clear HA h3 hb3 CE hB2
  go_wp2_with fail
  refine (unhide CR _ (unhide hB3).1).mono ?_
  rintro e w4 ⟨rfl, hb4⟩
  have hB4 : Hid (Below w.heap.size w w4 ∧ w4.heap[w.heap.size]? = some (oV F T u (.slice a n c))) := ⟨(unhide hB3).1.trans ((unhide hb4).mono (unhide hB3).1.size), ((unhide hb4).block _ (heap_lt (unhide hB3).2)).trans (unhide hB3).2⟩
  have H4 := hide (rrow_below (unhide H3) (unhide hb4))
  clear hb4 hB3 CR c0 c1 c2 c3 H3
  by_cases hE : errC (F, T, u, es) = 0
  · have hgood := good_of hE (unhide HU)
    rw [hE]
    have he : encV (F, T, u, es) = encWt (F, T, u, es) := by unfold encV; rw [if_pos hE]
    rw [he] at H4
    obtain ⟨g1, g2, g3, g4, g5⟩ := id hgood
    obtain ⟨f, rfl⟩ := Int.eq_ofNat_of_zero_le (show 0 ≤ F from g2.1)
    obtain ⟨t, rfl⟩ := Int.eq_ofNat_of_zero_le (show 0 ≤ T from g3.1)
    have CC := hide (encodeR f t u (lies_below (unhide H) (unhide hB4).1.drew) hgood)
    obtain ⟨d0, d1, d2, d3⟩ := oV_cells (unhide hB4).2
    have k1 := convB (byrow_lies (unhide H4)) (enc_byte _)
    have k1' : (convert 27 9 bv).run Try.prog w4.drew = .ok (.string (strB (encWt (((f : Nat) : Int), ((t : Nat) : Int), u, es)))) w4.drew := convB (lies_below (byrow_lies (unhide H4)) ((Below.refl _ _).drew)) (enc_byte _)
    have HCV : Hid (∀ (W : World) V, Lies u8v W V (encWt (((f : Nat) : Int), ((t : Nat) : Int), u, es)) → (convert 27 9 V).run Try.prog W = .ok (.string (strB (encWt (((f : Nat) : Int), ((t : Nat) : Int), u, es)))) W) := fun W V hv => convB hv (enc_byte _)
    have HL4 : Hid (∀ W, Below w4.heap.size w4 W → (convert 27 9 bv).run Try.prog W = .ok (.string (strB (encWt (((f : Nat) : Int), ((t : Nat) : Int), u, es)))) W ∧ W.heap[w.heap.size]? = some (oV (f : Nat) (t : Nat) u (.slice a n c))) := fun W hW => ⟨convB (lies_below (byrow_lies (unhide H4)) hW) (enc_byte _), (hW.block _ (heap_lt (unhide hB4).2)).trans (unhide hB4).2⟩
    generalize strB (encWt (((f : Nat) : Int), ((t : Nat) : Int), u, es)) = s1 at *
    clear hE he hgood g1 g2 g3 g4 g5 k1 H4
    go_upto_region 9 with fail
    obtain ⟨k2, -⟩ := id (And.intro k1' trivial)
    refine wp_region_noPanic ?_
    refine regionL [] (fun y => (y.cell? ⟨w.heap.size, 0, none⟩ = some (.int .i64 (f : Nat)) ∧ y.cell? ⟨w.heap.size, 1, none⟩ = some (.int .i64 (t : Nat)) ∧ y.cell? ⟨w.heap.size, 2, none⟩ = some (.int .u32 (u : Nat)) ∧ y.cell? ⟨w.heap.size, 3, none⟩ = some (.slice a n c)) ∧ (convert 27 9 bv).run Try.prog y = .ok (.string s1) y) (by kernel_rfl) ⟨⟨d0, d1, d2, d3⟩, k2⟩ (fun hHeld => ?_)
    refine takeL (i := 0) (v := ?t2v0) (some 24) rfl rfl (by kernel_rfl) (by kernel_rfl) (by kernel_rfl) (by kernel_rfl) (by kernel_rfl) (fun _ _ _ h => h) (Or.inl ⟨by rfl, ?t2h0⟩) (by assumption) ?t2r0
    case t2h0 => (intro y hSu; (try dsimp only at hSu); go_simp; first | done | with_reducible rfl)
    (try simp only [Act.put, List.setIfInBounds_toArray, List.set_cons_zero, List.set_cons_succ])
    refine takeL (i := 1) (v := ?t2v1) (some 25) rfl rfl (by kernel_rfl) (by kernel_rfl) (by kernel_rfl) (by kernel_rfl) (by kernel_rfl) (fun _ _ _ h => h) (Or.inl ⟨by rfl, ?t2h1⟩) (by assumption) ?t2r1
    case t2h1 => (intro y hSu; (try dsimp only at hSu); go_simp; first | done | with_reducible rfl)
    (try simp only [Act.put, List.setIfInBounds_toArray, List.set_cons_zero, List.set_cons_succ])
    refine takeL (i := 2) (v := ?t2v2) (some 26) rfl rfl (by kernel_rfl) (by kernel_rfl) (by kernel_rfl) (by kernel_rfl) (by kernel_rfl) (fun _ _ _ h => h) (Or.inl ⟨by rfl, ?t2h2⟩) (by assumption) ?t2r2
    case t2h2 => (intro y hSu; (try dsimp only at hSu); go_simp; first | done | with_reducible rfl)
    (try simp only [Act.put, List.setIfInBounds_toArray, List.set_cons_zero, List.set_cons_succ])
    refine readyL (i := 3) (by kernel_rfl) rfl (fun K hK => ?_)
    go_simp
    refine (unhide CC).mono ?_
    rintro e w5 ⟨v5, rfl, h5⟩
    (try dsimp only)
    have hd5 : Below w4.heap.size w4 w5 := ((Below.refl _ _).drew).trans (unhide h5).2
    obtain ⟨e5, e6⟩ := unhide HL4 _ hd5
    have e7 := And.intro (oV_cells e6) e5
    have c5 := unhide HCV _ _ (byrow_lies (unhide h5).1)
    have HB5 : Hid (Below w.heap.size w w5) := (unhide hB4).1.trans (hd5.mono (unhide hB4).1.size)
    clear h5 hd5 e5 e6 CC HL4 HCV hB4 k1' k2 d0 d1 d2 d3
    refine hK.out _ _ (fun _ => e7) ?_
    clear hK K
    (try simp only [Act.put, List.setIfInBounds_toArray, List.set_cons_zero, List.set_cons_succ])
    have hH4 := e7
    refine readyL (i := 4) (by kernel_rfl) rfl (fun K hK => ?_)
    go_simp
    refine hK.out _ _ (fun _ => e7) ?_
    clear hK K
    (try simp only [Act.put, List.setIfInBounds_toArray, List.set_cons_zero, List.set_cons_succ])
    have hH6 := e7
    refine takeL (i := 5) (v := ?t7v5) (some 29) rfl rfl (by kernel_rfl) (by kernel_rfl) (by kernel_rfl) (by kernel_rfl) (by kernel_rfl) (fun _ _ _ h => h) (Or.inl ⟨by rfl, ?t7h5⟩) (by assumption) ?t7r5
    case t7h5 => (intro y hSu; (try dsimp only at hSu); go_simp; first | done | with_reducible rfl)
    (try simp only [Act.put, List.setIfInBounds_toArray, List.set_cons_zero, List.set_cons_succ])
    refine takeL (i := 6) (v := ?t7v6) (some 2) rfl rfl (by kernel_rfl) (by kernel_rfl) (by kernel_rfl) (by kernel_rfl) (by kernel_rfl) (fun _ _ _ h => h) (Or.inl ⟨by rfl, ?t7h6⟩) (by assumption) ?t7r6
    case t7h6 => (intro y hSu; (try dsimp only at hSu); go_simp; first | done | with_reducible rfl)
    (try simp only [Act.put, List.setIfInBounds_toArray, List.set_cons_zero, List.set_cons_succ])
    refine doneL (by kernel_rfl) ?_ _
    refine NoPanic.normal ?_
    go_wp2_with fail
    go_ret
    exact ⟨by simp, HB5⟩
  · have he : encV (F, T, u, es) = [] := by unfold encV; rw [if_neg hE]
    rw [he] at H4
    obtain ⟨ba, bc, rfl⟩ := rrow_shape (unhide H4)
    generalize errC (F, T, u, es) = code at *
    have z5 : (code == 0) = false := by simpa using hE
    have z6 : (code != 0) = true := by simpa using hE
    have HB5 : Hid (Below w.heap.size w w4) := (unhide hB4).1
    clear he hE H4 hB4
    go_wp2_with fail
    go_ret
    exact ⟨by simp, HB5⟩
end Go.Proofs.Ytffdpfkcfohbiaa
