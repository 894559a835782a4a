/- The reference's Same; the law's own. -/
import Derived.Test.YtagibmgbjhemkaaGreatEn16
namespace Go.Proofs.YtagibmgbjhemkaaGreat.W16
open Go.RowKit Go.Maps
theorem oV_two (w : World) (F T F' T' : Int) (u u' : Nat) (ev ev' : Value) : ((w.alloc (oV F T u ev)).alloc (oV F' T' u' ev')).heap[w.heap.size]? = some (oV F T u ev) ∧ ((w.alloc (oV F T u ev)).alloc (oV F' T' u' ev')).heap[w.heap.size + 1]? = some (oV F' T' u' ev') ∧ Below w.heap.size w ((w.alloc (oV F T u ev)).alloc (oV F' T' u' ev')) := by
  have s1 : (w.alloc (oV F T u ev)).heap.size = w.heap.size + 1 := by simp
  have b1 := below_new w (oV F T u ev)
  have b2 := below_new (w.alloc (oV F T u ev)) (oV F' T' u' ev')
  have h := heap_alloc_new (w.alloc (oV F T u ev)) (oV F' T' u' ev')
  rw [s1] at h
  exact ⟨(b2.block _ (by omega)).trans (heap_alloc_new _ _), h, b1.trans (b2.mono (by omega))⟩
theorem take_eq_step {es es' : List Int} {i : Nat} {x y : Int} (h : es.take i = es'.take i) (hx : es[i]? = some x) (hy : es'[i]? = some y) (he : x = y) : es.take (i + 1) = es'.take (i + 1) := by
  rw [List.take_add_one, List.take_add_one, hx, hy, h, he]
set_option maxHeartbeats 4000000 in
set_option maxRecDepth 100000 in
theorem sameR {w : World} {ev ev' : Value} (F T F' T' : Int) (u u' : Nat) {es es' : List Int} (h : Lies i64v w ev es) (h' : Lies i64v w ev' es') (hl : es.length ≤ 140737488355328) :
    Calls Tryz.prog 14 #[.agg #[.int .i64 F, .int .i64 T, .int .u32 (u : Nat), ev], .agg #[.int .i64 F', .int .i64 T', .int .u32 (u' : Nat), ev']] w fun e w' => e = .returned (.bool (decide (((F, T, u, es) : WtV) = (F', T', u', es')))) ∧ Hid (Below w.heap.size w w') := by
  obtain ⟨a, c, hv⟩ := lies_shape h
  obtain ⟨a', c', hv'⟩ := lies_shape h'
  obtain ⟨n, hn⟩ : ∃ n, n = es.length := ⟨_, rfl⟩
  obtain ⟨n', hn'⟩ : ∃ n', n' = es'.length := ⟨_, rfl⟩
  rw [← hn] at hv
  rw [← hn'] at hv'
  subst hv hv'
  obtain ⟨t1, t2, tb⟩ := oV_two w F T F' T' u u' (.slice a n c) (.slice a' n' c')
  obtain ⟨c0, c1, c2, c3⟩ := oV_cells t1
  obtain ⟨d0, d1, d2, d3⟩ := oV_cells t2
  have h1 := lies_below h tb
  have h1' := lies_below h' tb
  have HB := hide tb
  generalize hr : decide (((F, T, u, es) : WtV) = (F', T', u', es')) = r
  have fin : ∀ b : Bool, (((F, T, u, es) : WtV) = (F', T', u', es') ↔ b = true) → r = b := fun b hb => by
    rw [← hr]; cases b with
    | true => exact decide_eq_true (hb.2 rfl)
    | false => exact decide_eq_false (fun e => by have := hb.1 e; cases this)
  by_cases q1 : F = F'
  · subst q1
    by_cases q2 : T = T'
    · subst q2
      by_cases q3 : u = u'
      · subst q3
        by_cases q4 : n = n'
        · have HN : Hid (n = es.length ∧ n = es'.length ∧ n ≤ 140737488355328) := ⟨hn, by omega, by omega⟩
          have HF : Hid ((es = es' → r = true) ∧ (es ≠ es' → r = false)) := ⟨fun e => fin true (by rw [e]; simp), fun e => fin false (by simp [e])⟩
          subst q4
          have H1 := hide h1
          have H1' := hide h1'
          have HT := hide (And.intro t1 t2)
          clear h h' h1 h1' hn hn' hr fin hl t1 t2
          unfold oV at *
          go_enter Tryz.func14, Tryz.ntmps14
          go_wp2_with fail
          generalize ((w.alloc (Obj.cells #[Value.int .i64 F, Value.int .i64 T, Value.int .u32 (u : Nat), Value.slice a n c] 35)).alloc (Obj.cells #[Value.int .i64 F, Value.int .i64 T, Value.int .u32 (u : Nat), Value.slice a' n c'] 35)) = wb at *
          generalize w.heap.size + 1 = b2 at *
          obtain ⟨b1, hb1⟩ : ∃ b1, b1 = w.heap.size := ⟨_, rfl⟩
          rw [← hb1] at HT ⊢
          clear hb1
          clear tb c0 c1 c2 c3 d0 d1 d2 d3
          go_loopw [37] (fun s37 wr => ∃ i : Nat, s37 = .int .i64 (i : Nat) ∧ Hid (i ≤ n ∧ Below wb.heap.size wb wr ∧ es.take i = es'.take i)) (fun s37 _ => n - (intOf s37).toNat)
          case atStart => exact ⟨0, rfl, Nat.zero_le _, Below.refl _ _, rfl⟩
          case round =>
            obtain ⟨i, rfl, HI⟩ := hrel
            obtain ⟨i1, i2, i3⟩ := unhide HI
            obtain ⟨l1, l2, l3⟩ := unhide HN
            by_cases hlt : i < n
            · obtain ⟨x, hx⟩ : ∃ x, es[i]? = some x := ⟨_, List.getElem?_eq_getElem (by omega)⟩
              obtain ⟨yy, hy⟩ : ∃ yy, es'[i]? = some yy := ⟨_, List.getElem?_eq_getElem (by omega)⟩
              obtain ⟨bx, ox, rfl, kx⟩ := lies_at (lies_below (unhide H1) i2) hx
              obtain ⟨by_, oy, rfl, ky⟩ := lies_at (lies_below (unhide H1') i2) hy
              unfold i64v at kx ky
              have m1 : wr.cell? ⟨b1, 3, none⟩ = some (.slice (some ⟨bx, ox, none⟩) n c) := (oV_cells ((i2.block _ (heap_lt (unhide HT).1)).trans (unhide HT).1)).2.2.2
              have m2 : wr.cell? ⟨b2, 3, none⟩ = some (.slice (some ⟨by_, oy, none⟩) n c') := (oV_cells ((i2.block _ (heap_lt (unhide HT).2)).trans (unhide HT).2)).2.2.2
              have z1 : (i : Int) < (n : Int) := by omega
              obtain ⟨j, hj⟩ : ∃ j, j = i + 1 := ⟨_, rfl⟩
              have zw : Hid (wrap64 ((i : Int) + 1) = (j : Int)) := by show wrap64 ((i : Int) + 1) = (j : Int); unfold wrap64; omega
              have HBW : Hid (Below w.heap.size w wr ∧ Below wb.heap.size wb wr.drew) := ⟨(unhide HB).trans (i2.mono (unhide HB).size), i2.drew⟩
              by_cases hxy : x = yy
              · subst hxy
                have HJ : Hid (j ≤ n ∧ es.take j = es'.take j ∧ n - j < n - i) := ⟨by omega, by rw [hj]; exact take_eq_step i3 hx hy rfl, by omega⟩
                clear HI i1 i2 i3 l1 l2 l3 hlt hx hy hj
                go_upto_region 6 with fail
                refine wp_region_noPanic ?_
                refine regionL [] (fun y => y.cell? ⟨b1, 3, none⟩ = some (.slice (some ⟨bx, ox, none⟩) n c) ∧ y.cell? ⟨b2, 3, none⟩ = some (.slice (some ⟨by_, oy, none⟩) n c') ∧ y.cell? ⟨bx, ox + i, none⟩ = some (.int .i64 x) ∧ y.cell? ⟨by_, oy + i, none⟩ = some (.int .i64 x)) (by kernel_rfl) ⟨m1, m2, kx, ky⟩ (fun hHeld => ?_)
                refine takeL (i := 0) (v := ?t2v0) (some 40) rfl rfl (by kernel_rfl) (by kernel_rfl) (by kernel_rfl) (by kernel_rfl) (by kernel_rfl) (fun _ _ _ h => h) (Or.inl ⟨by rfl, ?t2h0⟩) (by assumption) ?t2r0
                case t2h0 => (intro y hSu; (try dsimp only at hSu); go_simp; first | done | with_reducible rfl)
                (try simp only [Act.put, List.setIfInBounds_toArray, List.set_cons_zero, List.set_cons_succ])
                refine takeL (i := 1) (v := ?t2v1) (some 41) rfl rfl (by kernel_rfl) (by kernel_rfl) (by kernel_rfl) (by kernel_rfl) (by kernel_rfl) (fun _ _ _ h => h) (Or.inl ⟨by rfl, ?t2h1⟩) (by assumption) ?t2r1
                case t2h1 => (intro y hSu; (try dsimp only at hSu); go_simp; first | done | with_reducible rfl)
                (try simp only [Act.put, List.setIfInBounds_toArray, List.set_cons_zero, List.set_cons_succ])
                refine takeL (i := 2) (v := ?t2v2) (some 42) rfl rfl (by kernel_rfl) (by kernel_rfl) (by kernel_rfl) (by kernel_rfl) (by kernel_rfl) (fun _ _ _ h => h) (Or.inl ⟨by rfl, ?t2h2⟩) (by assumption) ?t2r2
                case t2h2 => (intro y hSu; (try dsimp only at hSu); go_simp; first | done | with_reducible rfl)
                (try simp only [Act.put, List.setIfInBounds_toArray, List.set_cons_zero, List.set_cons_succ])
                refine takeL (i := 3) (v := ?t2v3) (some 43) rfl rfl (by kernel_rfl) (by kernel_rfl) (by kernel_rfl) (by kernel_rfl) (by kernel_rfl) (fun _ _ _ h => h) (Or.inl ⟨by rfl, ?t2h3⟩) (by assumption) ?t2r3
                case t2h3 => (intro y hSu; (try dsimp only at hSu); go_simp; first | done | with_reducible rfl)
                (try simp only [Act.put, List.setIfInBounds_toArray, List.set_cons_zero, List.set_cons_succ])
                refine takeL (i := 4) (v := ?t2v4) (some 44) rfl rfl (by kernel_rfl) (by kernel_rfl) (by kernel_rfl) (by kernel_rfl) (by kernel_rfl) (fun _ _ _ h => h) (Or.inl ⟨by rfl, ?t2h4⟩) (by assumption) ?t2r4
                case t2h4 => (intro y hSu; (try dsimp only at hSu); go_simp; first | done | with_reducible rfl)
                (try simp only [Act.put, List.setIfInBounds_toArray, List.set_cons_zero, List.set_cons_succ])
                refine takeL (i := 5) (v := ?t2v5) (some 45) rfl rfl (by kernel_rfl) (by kernel_rfl) (by kernel_rfl) (by kernel_rfl) (by kernel_rfl) (fun _ _ _ h => h) (Or.inl ⟨by rfl, ?t2h5⟩) (by assumption) ?t2r5
                case t2h5 => (intro y hSu; (try dsimp only at hSu); go_simp; first | done | with_reducible rfl)
                (try simp only [Act.put, List.setIfInBounds_toArray, List.set_cons_zero, List.set_cons_succ])
                refine takeL (i := 6) (v := ?t2v6) (some 46) rfl rfl (by kernel_rfl) (by kernel_rfl) (by kernel_rfl) (by kernel_rfl) (by kernel_rfl) (fun _ _ _ h => h) (Or.inl ⟨by rfl, ?t2h6⟩) (by assumption) ?t2r6
                case t2h6 => (intro y hSu; (try dsimp only at hSu); go_simp; first | done | with_reducible rfl)
                (try simp only [Act.put, List.setIfInBounds_toArray, List.set_cons_zero, List.set_cons_succ])
                refine takeL (i := 7) (v := ?t2v7) (some 47) rfl rfl (by kernel_rfl) (by kernel_rfl) (by kernel_rfl) (by kernel_rfl) (by kernel_rfl) (fun _ _ _ h => h) (Or.inl ⟨by rfl, ?t2h7⟩) (by assumption) ?t2r7
                case t2h7 => (intro y hSu; (try dsimp only at hSu); go_simp; first | done | with_reducible rfl)
                (try simp only [Act.put, List.setIfInBounds_toArray, List.set_cons_zero, List.set_cons_succ])
                refine takeL (i := 8) (v := ?t2v8) (some 48) rfl rfl (by kernel_rfl) (by kernel_rfl) (by kernel_rfl) (by kernel_rfl) (by kernel_rfl) (fun _ _ _ h => h) (Or.inl ⟨by rfl, ?t2h8⟩) (by assumption) ?t2r8
                case t2h8 => (intro y hSu; (try dsimp only at hSu); go_simp; first | done | with_reducible rfl)
                (try simp only [Act.put, List.setIfInBounds_toArray, List.set_cons_zero, List.set_cons_succ])
                refine takeL (i := 9) (v := ?t2v9) (some 49) rfl rfl (by kernel_rfl) (by kernel_rfl) (by kernel_rfl) (by kernel_rfl) (by kernel_rfl) (fun _ _ _ h => h) (Or.inl ⟨by rfl, ?t2h9⟩) (by assumption) ?t2r9
                case t2h9 => (intro y hSu; (try dsimp only at hSu); go_simp; first | done | with_reducible rfl)
                (try simp only [Act.put, List.setIfInBounds_toArray, List.set_cons_zero, List.set_cons_succ])
                refine takeL (i := 10) (v := ?t2v10) (some 50) rfl rfl (by kernel_rfl) (by kernel_rfl) (by kernel_rfl) (by kernel_rfl) (by kernel_rfl) (fun _ _ _ h => h) (Or.inl ⟨by rfl, ?t2h10⟩) (by assumption) ?t2r10
                case t2h10 => (intro y hSu; (try dsimp only at hSu); go_simp; first | done | with_reducible rfl)
                (try simp only [Act.put, List.setIfInBounds_toArray, List.set_cons_zero, List.set_cons_succ])
                refine doneL (by kernel_rfl) ?_ _
                refine NoPanic.normal ?_
                go_wp2_with fail
                exact ⟨⟨j, by (try rw [unhide zw]) <;> rfl, (unhide HJ).1, (unhide HBW).2, (unhide HJ).2.1⟩, by (try rw [unhide zw]); exact (unhide HJ).2.2⟩
              · have HR : Hid (r = false) := (unhide HF).2 (fun e => hxy (by rw [e, hy] at hx; exact (Option.some.inj hx).symm))
                have z3 : (x != yy) = true := by simpa using hxy
                clear HI i1 i2 i3 l1 l2 l3 hlt hx hy hj hxy
                go_upto_region 6 with fail
                refine wp_region_noPanic ?_
                refine regionL [] (fun y => y.cell? ⟨b1, 3, none⟩ = some (.slice (some ⟨bx, ox, none⟩) n c) ∧ y.cell? ⟨b2, 3, none⟩ = some (.slice (some ⟨by_, oy, none⟩) n c') ∧ y.cell? ⟨bx, ox + i, none⟩ = some (.int .i64 x) ∧ y.cell? ⟨by_, oy + i, none⟩ = some (.int .i64 yy)) (by kernel_rfl) ⟨m1, m2, kx, ky⟩ (fun hHeld => ?_)
                refine takeL (i := 0) (v := ?t5v0) (some 40) rfl rfl (by kernel_rfl) (by kernel_rfl) (by kernel_rfl) (by kernel_rfl) (by kernel_rfl) (fun _ _ _ h => h) (Or.inl ⟨by rfl, ?t5h0⟩) (by assumption) ?t5r0
                case t5h0 => (intro y hSu; (try dsimp only at hSu); go_simp; first | done | with_reducible rfl)
                (try simp only [Act.put, List.setIfInBounds_toArray, List.set_cons_zero, List.set_cons_succ])
                refine takeL (i := 1) (v := ?t5v1) (some 41) rfl rfl (by kernel_rfl) (by kernel_rfl) (by kernel_rfl) (by kernel_rfl) (by kernel_rfl) (fun _ _ _ h => h) (Or.inl ⟨by rfl, ?t5h1⟩) (by assumption) ?t5r1
                case t5h1 => (intro y hSu; (try dsimp only at hSu); go_simp; first | done | with_reducible rfl)
                (try simp only [Act.put, List.setIfInBounds_toArray, List.set_cons_zero, List.set_cons_succ])
                refine takeL (i := 2) (v := ?t5v2) (some 42) rfl rfl (by kernel_rfl) (by kernel_rfl) (by kernel_rfl) (by kernel_rfl) (by kernel_rfl) (fun _ _ _ h => h) (Or.inl ⟨by rfl, ?t5h2⟩) (by assumption) ?t5r2
                case t5h2 => (intro y hSu; (try dsimp only at hSu); go_simp; first | done | with_reducible rfl)
                (try simp only [Act.put, List.setIfInBounds_toArray, List.set_cons_zero, List.set_cons_succ])
                refine takeL (i := 3) (v := ?t5v3) (some 43) rfl rfl (by kernel_rfl) (by kernel_rfl) (by kernel_rfl) (by kernel_rfl) (by kernel_rfl) (fun _ _ _ h => h) (Or.inl ⟨by rfl, ?t5h3⟩) (by assumption) ?t5r3
                case t5h3 => (intro y hSu; (try dsimp only at hSu); go_simp; first | done | with_reducible rfl)
                (try simp only [Act.put, List.setIfInBounds_toArray, List.set_cons_zero, List.set_cons_succ])
                refine takeL (i := 4) (v := ?t5v4) (some 44) rfl rfl (by kernel_rfl) (by kernel_rfl) (by kernel_rfl) (by kernel_rfl) (by kernel_rfl) (fun _ _ _ h => h) (Or.inl ⟨by rfl, ?t5h4⟩) (by assumption) ?t5r4
                case t5h4 => (intro y hSu; (try dsimp only at hSu); go_simp; first | done | with_reducible rfl)
                (try simp only [Act.put, List.setIfInBounds_toArray, List.set_cons_zero, List.set_cons_succ])
                refine takeL (i := 5) (v := ?t5v5) (some 45) rfl rfl (by kernel_rfl) (by kernel_rfl) (by kernel_rfl) (by kernel_rfl) (by kernel_rfl) (fun _ _ _ h => h) (Or.inl ⟨by rfl, ?t5h5⟩) (by assumption) ?t5r5
                case t5h5 => (intro y hSu; (try dsimp only at hSu); go_simp; first | done | with_reducible rfl)
                (try simp only [Act.put, List.setIfInBounds_toArray, List.set_cons_zero, List.set_cons_succ])
                refine takeL (i := 6) (v := ?t5v6) (some 46) rfl rfl (by kernel_rfl) (by kernel_rfl) (by kernel_rfl) (by kernel_rfl) (by kernel_rfl) (fun _ _ _ h => h) (Or.inl ⟨by rfl, ?t5h6⟩) (by assumption) ?t5r6
                case t5h6 => (intro y hSu; (try dsimp only at hSu); go_simp; first | done | with_reducible rfl)
                (try simp only [Act.put, List.setIfInBounds_toArray, List.set_cons_zero, List.set_cons_succ])
                refine takeL (i := 7) (v := ?t5v7) (some 47) rfl rfl (by kernel_rfl) (by kernel_rfl) (by kernel_rfl) (by kernel_rfl) (by kernel_rfl) (fun _ _ _ h => h) (Or.inl ⟨by rfl, ?t5h7⟩) (by assumption) ?t5r7
                case t5h7 => (intro y hSu; (try dsimp only at hSu); go_simp; first | done | with_reducible rfl)
                (try simp only [Act.put, List.setIfInBounds_toArray, List.set_cons_zero, List.set_cons_succ])
                refine takeL (i := 8) (v := ?t5v8) (some 48) rfl rfl (by kernel_rfl) (by kernel_rfl) (by kernel_rfl) (by kernel_rfl) (by kernel_rfl) (fun _ _ _ h => h) (Or.inl ⟨by rfl, ?t5h8⟩) (by assumption) ?t5r8
                case t5h8 => (intro y hSu; (try dsimp only at hSu); go_simp; first | done | with_reducible rfl)
                (try simp only [Act.put, List.setIfInBounds_toArray, List.set_cons_zero, List.set_cons_succ])
                refine takeL (i := 9) (v := ?t5v9) (some 49) rfl rfl (by kernel_rfl) (by kernel_rfl) (by kernel_rfl) (by kernel_rfl) (by kernel_rfl) (fun _ _ _ h => h) (Or.inl ⟨by rfl, ?t5h9⟩) (by assumption) ?t5r9
                case t5h9 => (intro y hSu; (try dsimp only at hSu); go_simp; first | done | with_reducible rfl)
                (try simp only [Act.put, List.setIfInBounds_toArray, List.set_cons_zero, List.set_cons_succ])
                refine takeL (i := 10) (v := ?t5v10) (some 50) rfl rfl (by kernel_rfl) (by kernel_rfl) (by kernel_rfl) (by kernel_rfl) (by kernel_rfl) (fun _ _ _ h => h) (Or.inl ⟨by rfl, ?t5h10⟩) (by assumption) ?t5r10
                case t5h10 => (intro y hSu; (try dsimp only at hSu); go_simp; first | done | with_reducible rfl)
                (try simp only [Act.put, List.setIfInBounds_toArray, List.set_cons_zero, List.set_cons_succ])
                refine doneL (by kernel_rfl) ?_ _
                refine NoPanic.normal ?_
                go_wp2_with fail
                go_ret
                exact ⟨by rw [unhide HR]; rfl, (unhide HBW).1.drew⟩
            · have z1 : ¬ (i : Int) < (n : Int) := by omega
              have HR : Hid (r = true) := (unhide HF).1 (by
                have e1 := List.take_of_length_le (l := es) (i := i) (by omega)
                have e2 := List.take_of_length_le (l := es') (i := i) (by omega)
                rw [e1, e2] at i3; exact i3)
              have HBW : Hid (Below w.heap.size w wr) := (unhide HB).trans (i2.mono (unhide HB).size)
              clear HI i1 i2 i3 l1 l2 l3 hlt
              go_wp2_with fail
              go_ret
              exact ⟨by rw [unhide HR]; rfl, HBW⟩
        · have HR : Hid (r = false) := fin false (by simp; intro e; exact q4 (by rw [hn, hn', e]))
          have z4 : ((n : Int) != (n' : Int)) = true := by simp; omega
          clear h h' h1 h1' hn hn' hr fin hl t1 t2 q4 tb
          unfold oV at *
          go_enter Tryz.func14, Tryz.ntmps14
          go_wp2_with fail
          go_ret
          exact ⟨by rw [unhide HR]; rfl, HB⟩
      · have HR : Hid (r = false) := fin false (by simp; intro e; exact absurd e q3)
        have z4 : ((u : Int) != (u' : Int)) = true := by simp; omega
        clear h h' h1 h1' hn hn' hr fin hl t1 t2 tb q3
        unfold oV at *
        go_enter Tryz.func14, Tryz.ntmps14
        go_wp2_with fail
        go_ret
        exact ⟨by rw [unhide HR]; rfl, HB⟩
    · have HR : Hid (r = false) := fin false (by simp; intro e; exact absurd e q2)
      have z4 : (T != T') = true := by simpa using q2
      clear h h' h1 h1' hn hn' hr fin hl t1 t2 tb q2
      unfold oV at *
      go_enter Tryz.func14, Tryz.ntmps14
      go_wp2_with fail
      go_ret
      exact ⟨by rw [unhide HR]; rfl, HB⟩
  · have HR : Hid (r = false) := fin false (by simp; intro e; exact absurd e q1)
    have z4 : (F != F') = true := by simpa using q1
    clear h h' h1 h1' hn hn' hr fin hl t1 t2 tb q1
    unfold oV at *
    go_enter Tryz.func14, Tryz.ntmps14
    go_wp2_with fail
    go_ret
    exact ⟨by rw [unhide HR]; rfl, HB⟩
end Go.Proofs.YtagibmgbjhemkaaGreat.W16
