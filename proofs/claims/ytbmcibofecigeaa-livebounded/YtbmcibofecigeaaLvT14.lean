/- The live tree's paths as walks of the graph's records; what it says is least. -/
import Derived.Test.YtbmcibofecigeaaRT13
import Derived.Test.YtbmcibofecigeaaWysW13
namespace Go.Proofs.Ytbmcibofecigeaa

section
open Go.RowKit Go.Maps
def costE (ms : List EdV) : Nat := M.foldN (ms.map (fun x => x.2.2.2.toNat))
theorem costE_le (ms : List EdV) : costE ms ≤ 2139095040 := M.foldN_le _
theorem costE_snoc {ms : List EdV} {i : Nat} {x : EdV} (h : ms[i]? = some x) (hx : x.2.2.2.toNat ≤ 2139095040) : costE (ms.take (i + 1)) = M.addC (costE (ms.take i)) x.2.2.2.toNat := by
  unfold costE
  rw [List.take_add_one, h, Option.toList_some, List.map_append, List.map_cons, List.map_nil, M.foldN_snoc, counts_cost hx]
/-- The records of a graph, as they are kept. -/
structure GOk (gs : List EdV) : Prop where
  nd : (gs.map (·.1)).Nodup
  len : gs.length ≤ 2000
  wt : ∀ x ∈ gs, 0 ≤ x.2.2.2 ∧ x.2.2.2 < 2139095040
set_option maxHeartbeats 4000000 in
set_option maxRecDepth 100000 in
theorem costR {w : World} {vv ev kv : Value} {rd wr0 a : Int} {gs ms : List EdV} (h : ERow 0 w ev gs) (hg : GOk gs) (hk : NRow w kv (ms.map (·.1))) (hW : Wlk gs a ms) (hm1 : ms.length ≤ 2000) :
    Calls Try.prog 61 #[.agg #[vv, ev, .int .i64 rd, .int .i64 wr0], kv] w fun e w' => e = .returned (.int .u32 (costE ms : Nat)) ∧ Hid (Below w.heap.size w w') := by
  have hb := below_new w (oGr vv ev rd wr0)
  have hbx := heap_alloc_new w (oGr vv ev rd wr0)
  obtain ⟨ea, ec, rfl⟩ := rrow_shape h
  obtain ⟨ka, kc, hkv, -⟩ := brow_shape hk
  rw [List.length_map] at hkv
  obtain ⟨m, hm⟩ : ∃ m, m = gs.length := ⟨_, rfl⟩
  obtain ⟨n, hnn⟩ : ∃ n, n = ms.length := ⟨_, rfl⟩
  rw [← hnn] at hkv
  rw [← hm] at h hb hbx ⊢
  obtain ⟨gb, hgb⟩ : ∃ gb, gb = w.heap.size := ⟨_, rfl⟩
  obtain ⟨W1, hW1⟩ : ∃ W1, W1 = w.alloc (oGr vv (.slice ea m ec) rd wr0) := ⟨_, rfl⟩
  rw [← hW1] at hb hbx
  rw [← hgb] at hbx
  have HN : Hid (m = gs.length ∧ n = ms.length ∧ m ≤ 2000 ∧ n ≤ 2000 ∧ GOk gs ∧ Wlk gs a ms) := ⟨hm, hnn, by have := hg.len; omega, by omega, hg, hW⟩
  have hgl : gb < W1.heap.size := (Array.getElem?_eq_some_iff.1 hbx).1
  have HX : Hid (∀ W, Below W1.heap.size W1 W → (W.cell? ⟨gb, 0, none⟩ = some vv ∧ W.cell? ⟨gb, 1, none⟩ = some (.slice ea m ec) ∧ W.cell? ⟨gb, 2, none⟩ = some (.int .i64 rd) ∧ W.cell? ⟨gb, 3, none⟩ = some (.int .i64 wr0)) ∧ ERow 0 W (.slice ea m ec) gs ∧ NRow W kv (ms.map (·.1)) ∧ Below w.heap.size w W) := fun W hW' => by
    obtain ⟨c0, c1, c2, c3, -⟩ := cellsGr ((hW'.block gb hgl).trans hbx)
    exact ⟨⟨c0, c1, c2, c3⟩, rrow_below (rrow_below h hb) hW', nrow_below (nrow_below hk hb) hW', hb.trans (hW'.mono hb.size)⟩
  have HW1 := hide hW1
  have HGB := hide hgb
  clear h hg hk hW hm1 hb hbx hm hnn hgb hW1 hgl
  subst hkv
  go_enter Try.func61, Try.ntmps61
  go_upto_region 1 with fail
  rw [show w.alloc (.cells #[vv, .slice ea m ec, .int .i64 rd, .int .i64 wr0] 28 (0, 0)) = W1 from (unhide HW1).symm, ← unhide HGB]
  clear HW1 HGB
  go_wp2_with fail
  go_loopw [5, 6, 7] (fun s5 s6 s7 wr => ∃ (i cst : Nat), s6 = .int .i64 i ∧ s5 = .int .u32 (cst : Nat) ∧ Hid (i ≤ n ∧ cst = costE (ms.take i) ∧ Below W1.heap.size W1 wr)) (fun _ s6 _ _ => n - (intOf s6).toNat)
  case atStart => exact ⟨0, 0, rfl, rfl, Nat.zero_le _, rfl, Below.refl _ _⟩
  case round =>
    obtain ⟨i, cst, rfl, rfl, HI⟩ := hrel
    obtain ⟨i1, i2, i3⟩ := unhide HI
    obtain ⟨l1, l2, l3, l4, l5, l6⟩ := unhide HN
    by_cases hlt : i < n
    · obtain ⟨x, hx⟩ : ∃ x, ms[i]? = some x := ⟨_, List.getElem?_eq_getElem (by omega)⟩
      obtain ⟨hxm, -⟩ := wlk_at l6 hx
      obtain ⟨k, hk⟩ := List.mem_iff_getElem?.1 hxm
      have hkl := (List.getElem?_eq_some_iff.1 hk).1
      obtain ⟨c0, hE, hK, -⟩ := unhide HX wr i3
      obtain ⟨ge, rfl⟩ := rrow_some hE (by omega)
      have hkx : (ms.map (·.1))[i]? = some x.1 := by rw [List.getElem?_map, hx]; rfl
      obtain ⟨gk, rfl⟩ := brow_some hK (by rw [List.length_map]; omega)
      have hwt := l5.wt x hxm
      have CA : Hid (∀ W, Below wr.heap.size wr W → Calls Try.prog 11 #[.agg #[vv, .slice (some ⟨ge, 0, none⟩) m ec, .int .i64 rd, .int .i64 wr0], .int .i64 x.1] W fun r w' => r = .returned (.int .i64 (k : Nat)) ∧ Hid (Below wr.heap.size wr w' ∧ Below W.heap.size W w')) := fun W hW => by
        have := atR (vv := vv) (rd := rd) (wr := wr0) (e := x.1) (rrow_below hE hW) (by omega)
        rw [atOf_some l5.nd hk] at this
        refine this.mono ?_
        rintro r w' ⟨rfl, hh⟩
        exact ⟨rfl, hW.trans ((unhide hh).mono hW.size), unhide hh⟩
      have HCELL : Hid (∀ W, Below wr.heap.size wr W → W.cell? ⟨gb, 0, none⟩ = some vv ∧ W.cell? ⟨gb, 1, none⟩ = some (.slice (some ⟨ge, 0, none⟩) m ec) ∧ W.cell? ⟨gb, 2, none⟩ = some (.int .i64 rd) ∧ W.cell? ⟨gb, 3, none⟩ = some (.int .i64 wr0) ∧ W.cell? ⟨gk, i, none⟩ = some (.int .i64 x.1) ∧ W.cell? ⟨ge, k * 4, none⟩ = some (.int .i64 x.1) ∧ W.cell? ⟨ge, k * 4 + 1, none⟩ = some (.int .i64 x.2.1) ∧ W.cell? ⟨ge, k * 4 + 2, none⟩ = some (.int .i64 x.2.2.1) ∧ W.cell? ⟨ge, k * 4 + 3, none⟩ = some (.int .u32 x.2.2.2)) := fun W hW => by
        have h3 : Below W1.heap.size W1 W := i3.trans (hW.mono i3.size)
        obtain ⟨⟨e0, e1, e2, e3⟩, hE', hK', -⟩ := unhide HX W h3
        obtain ⟨q0, q1, q2, q3⟩ := erow_at hE' hk
        exact ⟨e0, e1, e2, e3, brow_at hK' hkx, q0, q1, q2, q3⟩
      have hx4 : x.2.2.2 = ((x.2.2.2.toNat : Nat) : Int) := by omega
      obtain ⟨j, hj⟩ : ∃ j, j = i + 1 := ⟨_, rfl⟩
      obtain ⟨cst', hc'⟩ : ∃ c', c' = costE (ms.take j) := ⟨_, rfl⟩
      have CS : Hid (∀ W, Calls Try.prog 28 #[.int .u32 (cst : Int), .int .u32 x.2.2.2] W fun e w' => e = .returned (.int .u32 ((cst' : Nat) : Int)) ∧ ∃ nq, w' = W.drewN nq) := fun W => by
        have := refFold_step (c := cst) x.2.2.2.toNat (by rw [i2]; exact costE_le _) W
        rw [← hx4, counts_cost (by omega)] at this
        rw [hc', hj, costE_snoc hx (by omega), ← i2]
        exact this
      have zw : Hid (wrap64 ((i : Int) + 1) = (j : Int)) := by show wrap64 ((i : Int) + 1) = (j : Int); unfold wrap64; omega
      have HJ : Hid (j = i + 1 ∧ n - j < n - i ∧ j ≤ n ∧ cst' = costE (ms.take j) ∧ Below W1.heap.size W1 wr) := ⟨hj, by omega, by omega, hc', i3⟩
      have hz : (i : Int) < (n : Int) := by omega
      have hjz : (k : Int) < (m : Int) := by omega
      obtain ⟨xe, xu, xv, xb⟩ := x
      (try dsimp only at CA HCELL CS)
      have HC0 := hide (unhide HCELL wr (Below.refl _ _))
      clear HI i1 i2 i3 l1 l2 l3 l4 l5 l6 hlt hx hxm hk hkl c0 hE hK hkx hwt hx4 hj hc'
      go_upto_region 5 with fail
      have hc0 := unhide HC0
      refine wp_region_noPanic ?_
      refine regionL [11] (fun y => y.cell? ⟨gb, 0, none⟩ = some vv ∧ y.cell? ⟨gb, 1, none⟩ = some (.slice (some ⟨ge, 0, none⟩) m ec) ∧ y.cell? ⟨gb, 2, none⟩ = some (.int .i64 rd) ∧ y.cell? ⟨gb, 3, none⟩ = some (.int .i64 wr0) ∧ y.cell? ⟨gk, i, none⟩ = some (.int .i64 xe) ∧ y.cell? ⟨ge, k * 4, none⟩ = some (.int .i64 xe) ∧ y.cell? ⟨ge, k * 4 + 1, none⟩ = some (.int .i64 xu) ∧ y.cell? ⟨ge, k * 4 + 2, none⟩ = some (.int .i64 xv) ∧ y.cell? ⟨ge, k * 4 + 3, none⟩ = some (.int .u32 xb)) (by kernel_rfl) hc0 (fun hHeld => ?_)
      refine takeL (i := 0) (v := ?t2v0) (some 14) rfl rfl (by kernel_rfl) (by kernel_rfl) (by kernel_rfl) (by kernel_rfl) (by kernel_rfl) (fun _ _ _ h => h) (Or.inl ⟨by rfl, ?t2h0⟩) (by assumption) ?t2r0
      case t2h0 => (intro y hSu; (try dsimp only at hSu); go_simp; first | done | with_reducible rfl)
      (try simp only [Act.put, List.setIfInBounds_toArray, List.set_cons_zero, List.set_cons_succ])
      refine takeL (i := 1) (v := ?t2v1) (some 15) rfl rfl (by kernel_rfl) (by kernel_rfl) (by kernel_rfl) (by kernel_rfl) (by kernel_rfl) (fun _ _ _ h => h) (Or.inl ⟨by rfl, ?t2h1⟩) (by assumption) ?t2r1
      case t2h1 => (intro y hSu; (try dsimp only at hSu); go_simp; first | done | with_reducible rfl)
      (try simp only [Act.put, List.setIfInBounds_toArray, List.set_cons_zero, List.set_cons_succ])
      refine takeL (i := 2) (v := ?t2v2) (some 16) rfl rfl (by kernel_rfl) (by kernel_rfl) (by kernel_rfl) (by kernel_rfl) (by kernel_rfl) (fun _ _ _ h => h) (Or.inl ⟨by rfl, ?t2h2⟩) (by assumption) ?t2r2
      case t2h2 => (intro y hSu; (try dsimp only at hSu); go_simp; first | done | with_reducible rfl)
      (try simp only [Act.put, List.setIfInBounds_toArray, List.set_cons_zero, List.set_cons_succ])
      refine takeL (i := 3) (v := ?t2v3) (some 17) rfl rfl (by kernel_rfl) (by kernel_rfl) (by kernel_rfl) (by kernel_rfl) (by kernel_rfl) (fun _ _ _ h => h) (Or.inl ⟨by rfl, ?t2h3⟩) (by assumption) ?t2r3
      case t2h3 => (intro y hSu; (try dsimp only at hSu); go_simp; first | done | with_reducible rfl)
      (try simp only [Act.put, List.setIfInBounds_toArray, List.set_cons_zero, List.set_cons_succ])
      refine takeL (i := 4) (v := ?t2v4) (some 18) rfl rfl (by kernel_rfl) (by kernel_rfl) (by kernel_rfl) (by kernel_rfl) (by kernel_rfl) (fun _ _ _ h => h) (Or.inl ⟨by rfl, ?t2h4⟩) (by assumption) ?t2r4
      case t2h4 => (intro y hSu; (try dsimp only at hSu); go_simp; first | done | with_reducible rfl)
      (try simp only [Act.put, List.setIfInBounds_toArray, List.set_cons_zero, List.set_cons_succ])
      refine takeL (i := 5) (v := ?t2v5) (some 19) rfl rfl (by kernel_rfl) (by kernel_rfl) (by kernel_rfl) (by kernel_rfl) (by kernel_rfl) (fun _ _ _ h => h) (Or.inl ⟨by rfl, ?t2h5⟩) (by assumption) ?t2r5
      case t2h5 => (intro y hSu; (try dsimp only at hSu); go_simp; first | done | with_reducible rfl)
      (try simp only [Act.put, List.setIfInBounds_toArray, List.set_cons_zero, List.set_cons_succ])
      refine takeL (i := 6) (v := ?t2v6) (some 20) rfl rfl (by kernel_rfl) (by kernel_rfl) (by kernel_rfl) (by kernel_rfl) (by kernel_rfl) (fun _ _ _ h => h) (Or.inl ⟨by rfl, ?t2h6⟩) (by assumption) ?t2r6
      case t2h6 => (intro y hSu; (try dsimp only at hSu); go_simp; first | done | with_reducible rfl)
      (try simp only [Act.put, List.setIfInBounds_toArray, List.set_cons_zero, List.set_cons_succ])
      refine readyL2 (i := 7) (k := 10) (by kernel_rfl) rfl rfl (fun K hK => ?_) (fun K hK => ?_)
      · go_simp
        refine (unhide CA _ (by exact (Below.refl _ _).drew)).mono ?_
        rintro e' w4 ⟨rfl, hw4⟩
        have hc4 := unhide HCELL w4 (unhide hw4).1
        (try dsimp only)
        refine hK.out _ _ (fun _ => hc4) ?_
        clear hK K
        (try simp only [Act.put, List.setIfInBounds_toArray, List.set_cons_zero, List.set_cons_succ])
        have hH3 := hc4
        refine takeL (i := 8) (v := ?t4v8) (some 22) rfl rfl (by kernel_rfl) (by kernel_rfl) (by kernel_rfl) (by kernel_rfl) (by kernel_rfl) (fun _ _ _ h => h) (Or.inl ⟨by rfl, ?t4h8⟩) (by assumption) ?t4r8
        case t4h8 => (intro y hSu; (try dsimp only at hSu); go_simp; first | done | with_reducible rfl)
        (try simp only [Act.put, List.setIfInBounds_toArray, List.set_cons_zero, List.set_cons_succ])
        refine takeL (i := 9) (v := ?t4v9) (some 23) rfl rfl (by kernel_rfl) (by kernel_rfl) (by kernel_rfl) (by kernel_rfl) (by kernel_rfl) (fun _ _ _ h => h) (Or.inl ⟨by rfl, ?t4h9⟩) (by assumption) ?t4r9
        case t4h9 => (intro y hSu; (try dsimp only at hSu); go_simp; first | done | with_reducible rfl)
        (try simp only [Act.put, List.setIfInBounds_toArray, List.set_cons_zero, List.set_cons_succ])
        refine readyL (i := 10) (by kernel_rfl) rfl (fun K hK => ?_)
        go_simp
        have hc5 := unhide HCELL (w4.alloc o34) ((unhide hw4).1.alloc (by have := (unhide hw4).1.size; omega) _)
        refine hK.out _ _ (fun _ => hc5) ?_
        clear hK K
        (try simp only [Act.put, List.setIfInBounds_toArray, List.set_cons_zero, List.set_cons_succ])
        have hH6 := hc5
        refine readyL (i := 11) (by kernel_rfl) rfl (fun K hK => ?_)
        go_simp
        refine hK.out _ _ (fun h => by cases h) ?_
        clear hK K
        (try simp only [Act.put, List.setIfInBounds_toArray, List.set_cons_zero, List.set_cons_succ])
        refine doneL (by kernel_rfl) ?_ _
        refine NoPanic.normal ?_
        change Exit.then _ _ _ _ (w4.alloc (oEd (xe, xu, xv, xb)))
        obtain ⟨-, -, -, x3⟩ := cellsEd (heap_alloc_new w4 (oEd (xe, xu, xv, xb)))
        (try dsimp only at x3)
        have HB5 : Hid (Below W1.heap.size W1 (w4.alloc (oEd (xe, xu, xv, xb)))) := ((unhide HJ).2.2.2.2.trans ((unhide hw4).1.mono (unhide HJ).2.2.2.2.size)).alloc (by have := (unhide HJ).2.2.2.2.size; have := (unhide hw4).1.size; omega) _
        generalize w4.alloc (oEd (xe, xu, xv, xb)) = w5 at *
        generalize w4.heap.size = bx at *
        clear HCELL CA hc0 hc4 hc5 hHeld HC0
        go_wp2_with fail
        refine (unhide CS _).mono ?_
        rintro e' w6 ⟨rfl, nq, rfl⟩
        clear CS
        go_wp2_with fail
        (try rw [unhide zw])
        exact ⟨⟨j, cst', by first | rfl | (rw [(unhide HJ).1]; rfl), rfl, (unhide HJ).2.2.1, (unhide HJ).2.2.2.1, below_drewN (unhide HB5) nq⟩, by have := unhide HJ; simp [intOf]; omega⟩
      · go_simp
        have hc4 := unhide HCELL (wr.drew.alloc o34) (((Below.refl _ _).drew).alloc (Nat.le_refl _) _)
        refine hK.out _ _ (fun _ => hc4) ?_
        clear hK K
        (try simp only [Act.put, List.setIfInBounds_toArray, List.set_cons_zero, List.set_cons_succ])
        have hH10 := hc4
        refine readyL (i := 7) (by kernel_rfl) rfl (fun K hK => ?_)
        go_simp
        refine (unhide CA _ (by exact ((Below.refl _ _).drew).alloc (Nat.le_refl _) _)).mono ?_
        rintro e' w4 ⟨rfl, hw4⟩
        have hc5 := unhide HCELL w4 (unhide hw4).1
        obtain ⟨g0, g1, g2, g3, gf⟩ := cells34 (w := w4) (g := wr.heap.size) ((unhide hw4).2.block _ (by simp) |>.trans (heap_alloc_new _ _))
        (try dsimp only)
        refine hK.out _ _ (fun _ => hc5) ?_
        clear hK K
        (try simp only [Act.put, List.setIfInBounds_toArray, List.set_cons_zero, List.set_cons_succ])
        have hH12 := hc5
        refine takeL (i := 8) (v := ?t13v8) (some 22) rfl rfl (by kernel_rfl) (by kernel_rfl) (by kernel_rfl) (by kernel_rfl) (by kernel_rfl) (fun _ _ _ h => h) (Or.inl ⟨by rfl, ?t13h8⟩) (by assumption) ?t13r8
        case t13h8 => (intro y hSu; (try dsimp only at hSu); go_simp; first | done | with_reducible rfl)
        (try simp only [Act.put, List.setIfInBounds_toArray, List.set_cons_zero, List.set_cons_succ])
        refine takeL (i := 9) (v := ?t13v9) (some 23) rfl rfl (by kernel_rfl) (by kernel_rfl) (by kernel_rfl) (by kernel_rfl) (by kernel_rfl) (fun _ _ _ h => h) (Or.inl ⟨by rfl, ?t13h9⟩) (by assumption) ?t13r9
        case t13h9 => (intro y hSu; (try dsimp only at hSu); go_simp; first | done | with_reducible rfl)
        (try simp only [Act.put, List.setIfInBounds_toArray, List.set_cons_zero, List.set_cons_succ])
        refine readyL (i := 11) (by kernel_rfl) rfl (fun K hK => ?_)
        go_simp
        refine hK.out _ _ (fun h => by cases h) ?_
        clear hK K
        (try simp only [Act.put, List.setIfInBounds_toArray, List.set_cons_zero, List.set_cons_succ])
        refine doneL (by kernel_rfl) ?_ _
        refine NoPanic.normal ?_
        change Exit.then _ _ _ _ (set4 w4 wr.heap.size (.int .i64 xe) (.int .i64 xu) (.int .i64 xv) (.int .u32 xb))
        have hbx : w4.heap[wr.heap.size]? = some o34 := ((unhide hw4).2.block _ (by simp)).trans (heap_alloc_new _ _)
        obtain ⟨-, -, -, x3, -⟩ := cells34 (set4_at hbx (.int .i64 xe) (.int .i64 xu) (.int .i64 xv) (.int .u32 xb))
        have HB5 : Hid (Below W1.heap.size W1 (set4 w4 wr.heap.size (.int .i64 xe) (.int .i64 xu) (.int .i64 xv) (.int .u32 xb))) := (unhide HJ).2.2.2.2.trans ((set4_below (unhide hw4).1 (Nat.le_refl _) _ _ _ _).mono (unhide HJ).2.2.2.2.size)
        clear hbx g0 g1 g2 g3 gf
        generalize set4 w4 wr.heap.size (.int .i64 xe) (.int .i64 xu) (.int .i64 xv) (.int .u32 xb) = w5 at *
        generalize wr.heap.size = bx at *
        clear HCELL CA hc0 hc4 hc5 hHeld HC0
        go_wp2_with fail
        refine (unhide CS _).mono ?_
        rintro e' w6 ⟨rfl, nq, rfl⟩
        clear CS
        go_wp2_with fail
        (try rw [unhide zw])
        exact ⟨⟨j, cst', by first | rfl | (rw [(unhide HJ).1]; rfl), rfl, (unhide HJ).2.2.1, (unhide HJ).2.2.2.1, below_drewN (unhide HB5) nq⟩, by have := unhide HJ; simp [intOf]; omega⟩
    · have z1 : ¬ (i : Int) < (n : Int) := by omega
      have HE : Hid (cst = costE ms ∧ Below w.heap.size w wr) := by
        rw [List.take_of_length_le (by omega)] at i2
        exact ⟨i2, (unhide HX wr i3).2.2.2⟩
      clear HI i1 i2 i3 l1 l2 l3 l4 l5 l6 hlt
      go_wp2_with fail
      go_ret
      exact ⟨by rw [(unhide HE).1]; rfl, (unhide HE).2⟩
/-- The walk comes to v, and to no vertex twice. -/
def Ends (a v : Int) (ms : List EdV) : Prop := (stops a ms).Nodup ∧ (stops a ms)[ms.length]? = some v
set_option maxHeartbeats 4000000 in
set_option maxRecDepth 100000 in
theorem walkR {w : World} {vv ev kv : Value} {rd wr0 a v : Int} {gs ms : List EdV} (h : ERow 0 w ev gs) (hg : GOk gs) (hk : NRow w kv (ms.map (·.1))) (hW : Wlk gs a ms) (hm1 : ms.length ≤ 2000) (hE : Ends a v ms) :
    Calls Try.prog 60 #[.agg #[vv, ev, .int .i64 rd, .int .i64 wr0], .int .i64 a, .int .i64 v, kv] w fun e w' => e = .returned (.bool true) ∧ Hid (Below w.heap.size w w') := by
  have hb := below_new w (oGr vv ev rd wr0)
  obtain ⟨c0, c1, c2, c3, -⟩ := cellsGr (heap_alloc_new w (oGr vv ev rd wr0))
  have CT := hide (throughR (vv := vv) (rd := rd) (wr0 := wr0) (rrow_below h hb) hg.nd (nrow_below hk hb) hW hg.len hm1)
  have HB := hide hb
  obtain ⟨n, hnn⟩ : ∃ n, n = ms.length := ⟨_, rfl⟩
  have HN : Hid (n = ms.length ∧ n ≤ 2000 ∧ (stops a ms).Nodup ∧ (stops a ms)[n]? = some v ∧ (stops a ms).length = n + 1) := ⟨hnn, by omega, hE.1, by rw [hnn]; exact hE.2, by rw [stops_len, hnn]⟩
  obtain ⟨gb, hgb⟩ : ∃ gb, gb = w.heap.size := ⟨_, rfl⟩
  obtain ⟨W1, hW1⟩ : ∃ W1, W1 = w.alloc (oGr vv ev rd wr0) := ⟨_, rfl⟩
  rw [← hW1] at c0 c1 c2 c3 CT HB
  rw [← hgb] at c0 c1 c2 c3
  have HW1 := hide hW1
  have HGB := hide hgb
  generalize stops a ms = st at *
  clear h hg hk hW hm1 hE hb hnn hgb hW1
  go_enter Try.func60, Try.ntmps60
  go_upto_region 1 with fail
  rw [show w.alloc (.cells #[vv, ev, .int .i64 rd, .int .i64 wr0] 28 (0, 0)) = W1 from (unhide HW1).symm, ← unhide HGB]
  clear HW1 HGB
  go_wp2_with fail
  refine (unhide CT).mono ?_
  intro e w2 H2
  obtain ⟨sa, sn, sc, rfl, s1, s2⟩ := unhide H2
  obtain ⟨l1, l2, l3, l4, l5⟩ := unhide HN
  have hsn : sn = n + 1 := by
    obtain ⟨_, _, e, -⟩ := brow_shape s1
    injection e with _ e2 _
    rw [e2, l5]
  obtain ⟨gs, rfl⟩ := brow_some s1 (by omega)
  have kl := brow_at s1 l4
  have zs : wrap64 ((sn : Int) - 1) = (n : Int) := by unfold wrap64; omega
  have zn : (n : Int) < (sn : Int) := by omega
  have HS : Hid (BRow W1.heap.size w2 (.slice (some ⟨gs, 0, none⟩) sn sc) st ∧ Below w.heap.size w w2 ∧ sn = n + 1) := ⟨s1, (unhide HB).trans (s2.mono (unhide HB).size), hsn⟩
  clear CT H2 s1 s2 l1 l2 l3 l4 l5 hsn c0 c1 c2 c3 HB
  go_wp2_with fail
  clear kl zs zn
  go_loopw [12] (fun s12 wr => ∃ (i : Nat), s12 = .int .i64 i ∧ Hid (i ≤ sn ∧ ∃ q, wr = w2.drewN q)) (fun s12 _ => sn - (intOf s12).toNat)
  case atStart => exact ⟨0, rfl, Nat.zero_le _, 0, rfl⟩
  case round =>
    obtain ⟨i, rfl, HI⟩ := hrel
    obtain ⟨i1, q, rfl⟩ := unhide HI
    obtain ⟨l1, l2, l3, l4, l5⟩ := unhide HN
    obtain ⟨s1, s2, s3⟩ := unhide HS
    by_cases hlt : i < sn
    · have z1 : (i : Int) < (sn : Int) := by omega
      obtain ⟨x, hx⟩ : ∃ x, st[i]? = some x := ⟨_, List.getElem?_eq_getElem (by omega)⟩
      have kx := brow_at s1 hx
      have HXI : Hid (st[i]? = some x ∧ i < sn) := ⟨hx, hlt⟩
      obtain ⟨i', hi'⟩ : ∃ i', i' = i + 1 := ⟨_, rfl⟩
      have zw : Hid (wrap64 ((i : Int) + 1) = (i' : Int)) := by show wrap64 ((i : Int) + 1) = (i' : Int); unfold wrap64; omega
      have HJ : Hid (i' = i + 1 ∧ sn - i' < sn - i ∧ i' ≤ sn) := ⟨hi', by omega, by omega⟩
      clear HI i1 l1 l2 l3 l4 l5 s1 s2 s3 hlt hx hi'
      go_wp2_with fail
      go_loopw [13] (fun s13 wr => ∃ (j : Nat), s13 = .int .i64 j ∧ Hid (j ≤ i ∧ ∃ q, wr = w2.drewN q)) (fun s13 _ => i - (intOf s13).toNat)
      case atStart => exact ⟨0, rfl, Nat.zero_le _, q, rfl⟩
      case round =>
        obtain ⟨j, rfl, HI⟩ := hrel
        obtain ⟨i1, q2, rfl⟩ := unhide HI
        obtain ⟨l1, l2, l3, l4, l5⟩ := unhide HN
        obtain ⟨s1, s2, s3⟩ := unhide HS
        obtain ⟨hx, hlt⟩ := unhide HXI
        by_cases hji : j < i
        · obtain ⟨y, hy⟩ : ∃ y, st[j]? = some y := ⟨_, List.getElem?_eq_getElem (by omega)⟩
          have ky := brow_at s1 hy
          have hne : ¬ x = y := fun e => by
            have h1 := (List.getElem?_eq_some_iff.1 hx).2
            have h2 := (List.getElem?_eq_some_iff.1 hy).2
            have := List.pairwise_iff_getElem.1 l3 j i (by omega) (by omega) hji
            rw [h1, h2] at this
            exact this e.symm
          have zx : (x == y) = false := by simpa using hne
          have z2 : (j : Int) < (i : Int) := by omega
          have z3 : (j : Int) < (sn : Int) := by omega
          obtain ⟨j', hj'⟩ : ∃ j', j' = j + 1 := ⟨_, rfl⟩
          have zj : Hid (wrap64 ((j : Int) + 1) = (j' : Int)) := by show wrap64 ((j : Int) + 1) = (j' : Int); unfold wrap64; omega
          have HJ2 : Hid (j' = j + 1 ∧ i - j' < i - j ∧ j' ≤ i) := ⟨hj', by omega, by omega⟩
          clear HI i1 l1 l2 l3 l4 l5 s1 s2 s3 hx hlt hji hy hne hj'
          go_upto_region 10 with fail
          go_quiet (fail)
          go_wp2_with fail
          (try rw [unhide zj])
          exact ⟨⟨j', by first | rfl | (rw [(unhide HJ2).1]; rfl), (unhide HJ2).2.2, _, by first | rfl | simp [World.drewN]⟩, by have := unhide HJ2; simp [intOf]; omega⟩
        · have z2 : ¬ (j : Int) < (i : Int) := by omega
          clear HI i1 l1 l2 l3 l4 l5 s1 s2 s3 hx hlt hji
          go_wp2_with fail
          (try rw [unhide zw])
          exact ⟨⟨i', by first | rfl | (rw [(unhide HJ).1]; rfl), (unhide HJ).2.2, q2, rfl⟩, by have := unhide HJ; simp [intOf]; omega⟩
    · have z1 : ¬ (i : Int) < (sn : Int) := by omega
      have HE := hide (below_drewN s2 q)
      clear HI i1 l1 l2 l3 l4 l5 s1 s2 s3 hlt
      go_wp2_with fail
      go_ret
      exact ⟨rfl, HE⟩
set_option maxHeartbeats 2000000 in
set_option maxRecDepth 100000 in
theorem cheapestR {w : World} {vv ev kv : Value} {rd wr0 a v : Int} {gs ms : List EdV} (h : ERow 0 w ev gs) (hg : GOk gs) (hk : NRow w kv (ms.map (·.1))) (hW : Wlk gs a ms) (hm1 : ms.length ≤ 2000) (hE : Ends a v ms) {d : Nat} (hd : d = costE ms) :
    Calls Try.prog 43 #[.agg #[vv, ev, .int .i64 rd, .int .i64 wr0], .int .i64 a, .int .i64 v, kv, .int .u32 (d : Nat)] w fun e w' => e = .returned (.bool true) ∧ Hid (Below w.heap.size w w') := by
  have hb := below_new w (oGr vv ev rd wr0)
  have hbx := heap_alloc_new w (oGr vv ev rd wr0)
  have C1 := hide (walkR (vv := vv) (rd := rd) (wr0 := wr0) (rrow_below h hb) hg (nrow_below hk hb) hW hm1 hE)
  obtain ⟨gb, hgb⟩ : ∃ gb, gb = w.heap.size := ⟨_, rfl⟩
  obtain ⟨W1, hW1⟩ : ∃ W1, W1 = w.alloc (oGr vv ev rd wr0) := ⟨_, rfl⟩
  rw [← hW1] at hb hbx C1
  rw [← hgb] at hbx
  have hgl : gb < W1.heap.size := (Array.getElem?_eq_some_iff.1 hbx).1
  have C2 : Hid (∀ W, Below W1.heap.size W1 W → (W.cell? ⟨gb, 0, none⟩ = some vv ∧ W.cell? ⟨gb, 1, none⟩ = some ev ∧ W.cell? ⟨gb, 2, none⟩ = some (.int .i64 rd) ∧ W.cell? ⟨gb, 3, none⟩ = some (.int .i64 wr0)) ∧ Below w.heap.size w W ∧ Calls Try.prog 61 #[.agg #[vv, ev, .int .i64 rd, .int .i64 wr0], kv] W fun e w' => e = .returned (.int .u32 (d : Nat)) ∧ Hid (Below W.heap.size W w')) := fun W hW' => by
    obtain ⟨c0, c1, c2, c3, -⟩ := cellsGr ((hW'.block gb hgl).trans hbx)
    have := costR (vv := vv) (rd := rd) (wr0 := wr0) (rrow_below (rrow_below h hb) hW') hg (nrow_below (nrow_below hk hb) hW') hW hm1
    rw [← hd] at this
    exact ⟨⟨c0, c1, c2, c3⟩, hb.trans (hW'.mono hb.size), this⟩
  obtain ⟨⟨c0, c1, c2, c3⟩, -, -⟩ := unhide C2 W1 (Below.refl _ _)
  have HW1 := hide hW1
  have HGB := hide hgb
  clear h hg hk hW hm1 hE hd hb hbx hgb hW1 hgl
  go_enter Try.func43, Try.ntmps43
  go_upto_region 1 with fail
  rw [show w.alloc (.cells #[vv, ev, .int .i64 rd, .int .i64 wr0] 28 (0, 0)) = W1 from (unhide HW1).symm, ← unhide HGB]
  clear HW1 HGB
  go_wp2_with fail
  refine (unhide C1).mono ?_
  rintro e w2 ⟨rfl, hb2⟩
  clear c0 c1 c2 c3
  obtain ⟨⟨c0, c1, c2, c3⟩, hB2, hC2⟩ := unhide C2 w2 (unhide hb2)
  have HB2 := hide hB2
  have HC2 := hide hC2
  clear C1 C2 hB2 hC2 hb2
  go_wp2_with fail
  refine (unhide HC2).mono ?_
  rintro e w3 ⟨rfl, hb3⟩
  have HB3 : Hid (Below w.heap.size w w3) := (unhide HB2).trans ((unhide hb3).mono (unhide HB2).size)
  clear HC2 HB2 hb3 c0 c1 c2 c3
  go_wp2_with fail
  go_ret
  exact ⟨by first | rfl | simp, HB3⟩
end

section
open Go.RowKit Go.Maps
theorem wlk_snoc {gs : List EdV} : ∀ {ms : List EdV} {a : Int} {x : EdV}, Wlk gs a ms → (stops a ms)[ms.length]? = some x.2.1 → x ∈ gs → Wlk gs a (ms ++ [x])
  | [], a, x, _, h, hx => by
    have e : a = x.2.1 := by simpa [stops] using h
    exact ⟨hx, e.symm, trivial⟩
  | y :: ms, a, x, ⟨h1, h2, h3⟩, h, hx => ⟨h1, h2, wlk_snoc h3 (by simpa [stops] using h) hx⟩
theorem stops_app (a : Int) (ms : List EdV) (x : EdV) : stops a (ms ++ [x]) = stops a ms ++ [x.2.2.1] := by simp [stops]
theorem costE_app (ms : List EdV) (x : EdV) (hx : x.2.2.2.toNat ≤ 2139095040) : costE (ms ++ [x]) = M.addC (costE ms) x.2.2.2.toNat := by
  unfold costE
  rw [List.map_append, List.map_cons, List.map_nil, M.foldN_snoc, counts_cost hx]
theorem plc_inj {ys : List Int} (hr : ys.Pairwise (· < ·)) {v u : Int} (hv : v ∈ ys) (hu : u ∈ ys) (h : plc ys v = plc ys u) : v = u := by
  have h1 := at_plc hr hv
  rw [h, at_plc hr hu] at h1
  exact (Option.some.inj h1).symm
/-- A chain of the tree, turned, is a walk of the records. -/
theorem chain_walk {E : L14.Es} {s : Int} {T : L14.Tr} {gs : List EdV} (hR : L14.Right E s T) (hE : ERel E gs) : ∀ {l : List Int} {v : Int}, L14.fnd T v = true → L14.Chain E s T v l →
    ∃ ms : List EdV, ms.map (·.1) = l.reverse ∧ Wlk gs s ms ∧ ms.length = l.length ∧ Ends s v ms ∧ costE ms = L14.cst T v ∧ ∀ z ∈ stops s ms, z ∈ onc E v l
  | [], v, hv, hc => by
    have e : v = s := hc
    subst e
    refine ⟨[], rfl, trivial, rfl, ⟨by simp [stops], rfl⟩, ?_, fun z hz => ?_⟩
    · rw [hR.src.2.1]; rfl
    · have : z = v := by simpa [stops] using hz
      rw [this]; simp [onc]
  | e :: l, v, hv, hc => by
    have hc' := hc
    obtain ⟨h1, h2, u, c, h3, h4, h5⟩ := hc
    obtain ⟨ms, i1, i2, i3, ⟨i4, i5⟩, i6, i7⟩ := chain_walk hR hE h4 h5
    have hm := (hE.ed e u v c).1 h3
    obtain ⟨u2, c2, g1, g2, g3⟩ := hR.eqn hv h1
    rw [← h2, h3] at g1
    have e1 : u = u2 := congrArg (·.1) (Option.some.inj g1)
    have e2 : c = c2 := congrArg (·.2.2) (Option.some.inj g1)
    subst e1 e2
    have hcl := hR.wl _ _ _ _ h3
    have hnd := onc_nodup hv hc'
    have ho : onc E v (e :: l) = v :: onc E u l := by
      show v :: (match E e with
        | some (u, _, _) => onc E u l
        | none => []) = _
      rw [h3]
    rw [ho] at hnd ⊢
    refine ⟨ms ++ [(e, u, v, (c : Int))], ?_, wlk_snoc i2 i5 hm, by simp [i3], ⟨?_, ?_⟩, ?_, fun z hz => ?_⟩
    · rw [List.map_append, i1, List.reverse_cons]; rfl
    · rw [stops_app, List.nodup_append]
      refine ⟨i4, by simp, fun z hz q hq => ?_⟩
      have eq : q = v := List.mem_singleton.1 hq
      rw [eq]
      intro ez
      rw [ez] at hz
      exact (List.nodup_cons.1 hnd).1 (i7 v hz)
    · rw [stops_app, List.length_append, List.length_singleton, List.getElem?_append_right (by rw [stops_len]; exact Nat.le_refl _), stops_len, Nat.sub_self]; rfl
    · rw [costE_app _ _ (by show ((c : Int)).toNat ≤ _; omega), i6, g3]; rfl
    · rw [stops_app] at hz
      rcases List.mem_append.1 hz with q | q
      · exact List.mem_cons_of_mem _ (i7 z q)
      · rw [List.mem_singleton.1 q]; exact List.mem_cons_self
/-- By place. -/
theorem dsL_at {ys : List Int} {T : L14.Tr} {q : Nat} {v : Int} (h : ys[q]? = some v) : farAt (dsL ys T) q = !L14.fnd T v ∧ bitsAt (dsL ys T) q = L14.cst T v ∧ edgeAt (dsL ys T) q = L14.lst T v := by
  have e : (dsL ys T).getD q d0 = (v, !L14.fnd T v, L14.cst T v, L14.lst T v) := by
    unfold dsL
    rw [List.getD_eq_getElem?_getD, List.getElem?_map, h]; rfl
  unfold farAt bitsAt edgeAt
  rw [e]
  exact ⟨rfl, rfl, rfl⟩
theorem dsL_none {ys : List Int} {T : L14.Tr} {q : Nat} (h : ys.length ≤ q) : bitsAt (dsL ys T) q = 0 := by
  unfold bitsAt
  have e : (dsL ys T).getD q d0 = d0 := by
    unfold dsL
    rw [List.getD_eq_getElem?_getD, List.getElem?_map, List.getElem?_eq_none h]; rfl
  rw [e]
theorem rise_lt {ys : List Int} (h : Rising ltN ys) : ys.Pairwise (· < ·) := h.imp (fun h => by simpa [ltN] using h)
section
variable {L : Lab} {w : World} {p : Nat} {s tc : Int} {vs : List Int} {gs : List EdV} {T : L14.Tr} {N : Nat}
theorem ERel.ok {E : L14.Es} (h : ERel E gs) (hl : gs.length ≤ 2000) : GOk gs := ⟨h.un, hl, fun x hx => (h.lo x hx).2⟩
theorem ERel.at_ {E : L14.Es} (h : ERel E gs) {y : EdV} (hy : y ∈ gs) : E y.1 = some (y.2.1, y.2.2.1, y.2.2.2.toNat) := by
  have := (h.lo y hy).2.1
  refine (h.ed _ _ _ _).2 ?_
  rw [Int.toNat_of_nonneg this]
  exact hy
/-- What the tree says is least. -/
theorem LvK.lst (h : LvK L w p s tc vs gs T N) (hN : N ≤ 200) (hg : gs.length ≤ 2000) (hr : vs.Pairwise (· < ·)) : Lst vs gs s (farAt (dsL vs T)) (bitsAt (dsL vs T)) := by
  obtain ⟨mv, me, V, nv, E, ne, O, I, -, hG, hs, hR, hE, -, -⟩ := h
  have hvl := hG.vl
  have ok : ∀ y ∈ gs, y.2.1 ∈ vs ∧ y.2.2.1 ∈ vs := fun y hy => (hG.ed _ _ _ _ (hE.at_ hy)).2
  refine ⟨hs, hr, by omega, hg, fun y hy => ⟨(ok y hy).1, (ok y hy).2, (hE.lo y hy).2⟩, ?_, fun q => ?_, fun y hy hf => ?_, fun us h0 hc q hq hf => ?_⟩
  · obtain ⟨a1, a2, -⟩ := dsL_at (T := T) (at_plc hr hs)
    rw [a1, a2, hR.src.1, hR.src.2.1]; exact ⟨rfl, rfl⟩
  · rcases Nat.lt_or_ge q vs.length with z | z
    · rw [(dsL_at (List.getElem?_eq_getElem z)).2.1]; exact hR.le_ _
    · rw [dsL_none z]; exact Nat.zero_le _
  · obtain ⟨o1, o2⟩ := ok y hy
    obtain ⟨a1, a2, -⟩ := dsL_at (T := T) (at_plc hr o1)
    obtain ⟨b1, b2, -⟩ := dsL_at (T := T) (at_plc hr o2)
    rw [a1] at hf
    rw [b1, b2, a2]
    have := hR.clo y.1 y.2.1 y.2.2.1 y.2.2.2.toNat (hE.at_ hy) (by simpa using hf) (fun z => z.elim) (by simp)
    rw [this.1]; exact ⟨rfl, this.2⟩
  · have hv := List.getElem?_eq_getElem hq
    obtain ⟨a1, a2, -⟩ := dsL_at (T := T) hv
    rw [a1] at hf
    rw [a2]
    have := hR.up (fun v => uA us (plc vs v)) h0 4294967295 (by omega) (fun e u v c he hu => hc _ ((hE.ed e u v c).1 he) hu) vs[q] (by simpa using hf)
    have e : plc vs vs[q] = q := plc_at hr hv
    rw [e] at this; exact this
end
end

end Go.Proofs.Ytbmcibofecigeaa
