/- The reference's Dists, walked. -/
import Derived.Test.YtbmcibofecigeaaRD13
import Derived.Deep.LoopGhost
namespace Go.Proofs.Ytbmcibofecigeaa
open Go.RowKit Go.Maps
set_option maxHeartbeats 8000000 in
set_option maxRecDepth 100000 in
theorem distsR {w : World} {vv ev : Value} {rd wr0 : Int} {ys : List Int} {gs : List EdV} {s : Int} {far : Nat → Bool} {bits : Nat → Nat} (hv : NRow w vv ys) (he : ERow 0 w ev gs) (hL : Lst ys gs s far bits) :
    Calls Try.prog 10 #[.agg #[vv, ev, .int .i64 rd, .int .i64 wr0], .int .i64 s] w fun e w' => Hid (RDAns w (refD ys.length far bits) e w') := by
  have hb := below_new w (oGr vv ev rd wr0)
  have hbx := heap_alloc_new w (oGr vv ev rd wr0)
  obtain ⟨c0, c1, c2, c3, -⟩ := cellsGr hbx
  obtain ⟨a1, r1, rfl, -⟩ := brow_shape hv
  obtain ⟨a2, r2, rfl⟩ := rrow_shape he
  obtain ⟨n, hn⟩ : ∃ n, n = ys.length := ⟨_, rfl⟩
  obtain ⟨m, hm⟩ : ∃ m, m = gs.length := ⟨_, rfl⟩
  have hn0 : n ≤ 1000 := by rw [hn]; exact hL.l1
  have hmk := mkU (n := n) (by omega) (w.alloc (oGr (.slice a1 ys.length r1) (.slice a2 gs.length r2) rd wr0))
  have hur := urow_made (n := n) (by omega) (w.alloc (oGr (.slice a1 ys.length r1) (.slice a2 gs.length r2) rd wr0))
  have hb2 := below_new (w.alloc (oGr (.slice a1 ys.length r1) (.slice a2 gs.length r2) rd wr0)) (.cells (madeCells #[.int .u32 0] n) 31)
  have hsz : (w.alloc (oGr (.slice a1 ys.length r1) (.slice a2 gs.length r2) rd wr0)).heap.size = w.heap.size + 1 := by simp
  rw [← hn]
  rw [← hm]
  rw [← hn, ← hm] at c0 c1 c2 c3 hb hbx hmk hur hb2 hsz
  rw [← hn] at hv
  rw [← hm] at he
  obtain ⟨o, ho⟩ : ∃ o, o = oGr (.slice a1 n r1) (.slice a2 m r2) rd wr0 := ⟨_, rfl⟩
  obtain ⟨gb, hgb⟩ : ∃ gb, gb = w.heap.size := ⟨_, rfl⟩
  obtain ⟨W1, hW1⟩ : ∃ W1, W1 = w.alloc (oGr (.slice a1 n r1) (.slice a2 m r2) rd wr0) := ⟨_, rfl⟩
  obtain ⟨g, hg⟩ : ∃ g, g = W1.heap.size := ⟨_, rfl⟩
  rw [← hW1] at c0 c1 c2 c3 hb hbx hmk hur hb2 hsz
  rw [← hgb] at c0 c1 c2 c3 hbx hsz
  rw [← hg] at hmk hur hsz
  obtain ⟨W2, hW2⟩ : ∃ W2, W2 = W1.alloc (.cells (madeCells #[.int .u32 0] n) 31) := ⟨_, rfl⟩
  rw [← hW2] at hmk hur hb2
  have H0 : Hid (DsM w gb o g n (List.replicate n 0) W2) := ⟨hb.trans (hb2.mono hb.size), (hb2.block gb (Array.getElem?_eq_some_iff.1 hbx).1).trans (by rw [ho]; exact hbx), rrow_low hur (by omega), by omega⟩
  have HR : Hid (∀ W, Below w.heap.size w W → NRow W (.slice a1 n r1) ys ∧ ERow 0 W (.slice a2 m r2) gs) := fun W h => ⟨nrow_below hv h, rrow_below he h⟩
  have HN : Hid (n = ys.length ∧ m = gs.length ∧ n ≤ 1000 ∧ m ≤ 2000) := ⟨hn, hm, hn0, by rw [hm]; exact hL.l2⟩
  have HO : Hid (∀ W : World, W.heap[gb]? = some o → W.cell? ⟨gb, 0, none⟩ = some (.slice a1 n r1) ∧ W.cell? ⟨gb, 1, none⟩ = some (.slice a2 m r2) ∧ W.cell? ⟨gb, 2, none⟩ = some (.int .i64 rd) ∧ W.cell? ⟨gb, 3, none⟩ = some (.int .i64 wr0)) := fun W h => by
    rw [ho] at h
    obtain ⟨q0, q1, q2, q3, -⟩ := cellsGr h
    exact ⟨q0, q1, q2, q3⟩
  have HL := hide hL
  have HW1 := hide hW1
  have HGB := hide hgb
  have zl : (n : Int) < 1000000 := by omega
  clear hv he hL hb hbx hur hb2 hsz hn hm hn0 ho hgb hW1 hg hW2
  go_enter Try.func10, Try.ntmps10
  go_upto_region 1 with fail
  rw [show w.alloc (.cells #[.slice a1 n r1, .slice a2 m r2, .int .i64 rd, .int .i64 wr0] 28 (0, 0)) = W1 from (unhide HW1).symm, ← unhide HGB]
  clear HW1 HGB
  go_wp2_with fail
  clear hmk c0 c1 c2 c3 zl
  go_loopw [6] (fun s6 wr => ∃ i : Nat, s6 = .int .i64 (i : Nat) ∧ Hid (i ≤ n ∧ ∃ us, DsM w gb o g n us wr ∧ Begun ys s us i)) (fun s6 _ => n - (intOf s6).toNat)
  case atStart => exact ⟨0, rfl, Nat.zero_le _, _, unhide H0, by rw [List.length_replicate]; exact (unhide HN).1, fun j _ hj => absurd hj (Nat.not_lt_zero _)⟩
  case round =>
    clear H0
    obtain ⟨i, rfl, HI⟩ := hrel
    obtain ⟨i1, us, i2, i3⟩ := unhide HI
    obtain ⟨l1, l2, l3, l4⟩ := unhide HN
    by_cases hlt : i < n
    · obtain ⟨v, hv⟩ : ∃ v, ys[i]? = some v := ⟨_, List.getElem?_eq_getElem (by omega)⟩
      have hx := at_uA (us := us) (q := i) (by rw [i3.1]; omega)
      have k0 := urow_at i2.row hx
      have kf := rrow_frozen i2.row (by rw [i3.1]; omega)
      have h1 := i2.setFar hx
      obtain ⟨W3, hW3⟩ : ∃ W3, W3 = wr.setCell ⟨g, i, none⟩ (.int .u32 4294967295) := ⟨_, rfl⟩
      rw [← hW3] at h1
      have HW3 := hide hW3
      have H1 := hide h1
      have z1 : (i : Int) < (n : Int) := by omega
      obtain ⟨j, hj⟩ : ∃ j, j = i + 1 := ⟨_, rfl⟩
      have zw : Hid (wrap64 ((i : Int) + 1) = (j : Int)) := by show wrap64 ((i : Int) + 1) = (j : Int); unfold wrap64; omega
      have HJ : Hid (j = i + 1 ∧ n - j < n - i ∧ j ≤ n ∧ Begun ys s us i ∧ ys[i]? = some v ∧ i < ys.length) := ⟨hj, by omega, by omega, i3, hv, by omega⟩
      have HD := hide i2
      obtain ⟨q0, -, -, -⟩ := unhide HO W3 h1.bx
      have hvr := (unhide HR W3 h1.bl).1
      obtain ⟨ga, rfl⟩ := brow_some hvr (by omega)
      have q1 := brow_at hvr hv
      clear HI i1 i2 i3 l1 l2 l3 l4 hlt hv hx h1 hW3 hvr hj
      generalize uA us i = x0 at *
      go_upto_region 6 with fail
      rw [← unhide HW3]
      clear HW3 k0 kf
      by_cases hvs : v = s
      · have hx2 : (us.set i 4294967295)[i]? = some 4294967295 := List.getElem?_set_self (by rw [(unhide HJ).2.2.2.1.1]; exact (unhide HJ).2.2.2.2.2)
        have k0 := urow_at (unhide H1).row hx2
        have kf := rrow_frozen (unhide H1).row (by rw [List.length_set, (unhide HJ).2.2.2.1.1]; have := (unhide HJ).2.2.2.2.2; omega)
        have HJ2 : Hid (DsM w gb o g n (us.set i 0) (W3.setCell ⟨g, i, none⟩ (.int .u32 0)) ∧ Begun ys s (us.set i 0) j) := by
          have h2 := (unhide H1).set0 hx2
          rw [List.set_set] at h2
          refine ⟨h2, ?_⟩
          rw [(unhide HJ).1]
          exact (unhide HJ).2.2.2.1.next (unhide HJ).2.2.2.2.1 (by rw [if_pos hvs])
        subst hvs
        clear HD H1 hx2
        go_wp2_with fail
        (try rw [unhide zw])
        exact ⟨⟨j, by first | rfl | (rw [(unhide HJ).1]; rfl), (unhide HJ).2.2.1, _, unhide HJ2⟩, by have := unhide HJ; simp [intOf]; omega⟩
      · have z3 : (v == s) = false := by simpa using hvs
        have HJ2 : Hid (Begun ys s (us.set i 4294967295) j) := by
          show Begun ys s (us.set i 4294967295) j
          rw [(unhide HJ).1]
          exact (unhide HJ).2.2.2.1.next (unhide HJ).2.2.2.2.1 (by rw [if_neg hvs])
        clear HD hvs
        go_wp2_with fail
        (try rw [unhide zw])
        exact ⟨⟨j, by first | rfl | (rw [(unhide HJ).1]; rfl), (unhide HJ).2.2.1, _, unhide H1, unhide HJ2⟩, by have := unhide HJ; simp [intOf]; omega⟩
    · have z1 : ¬ (i : Int) < (n : Int) := by omega
      have hD := DI.init (unhide HL) i3.1 (fun j v hv => i3.2 j v (by have := (List.getElem?_eq_some_iff.1 hv).1; omega) hv)
      have HB : Hid (DsM w gb o g n us wr ∧ DI ys s far bits us) := ⟨i2, hD⟩
      clear HI i1 i2 i3 l1 l2 l3 l4 hlt hD
      go_wp2_with fail
      clear z1
      go_loopg [7] (2 * us.sum + 1) (fun gg s7 wr => ∃ (b : Bool) (g0 : Nat), s7 = .bool b ∧ Hid (g0 = gg ∧ ∃ us, DsM w gb o g n us wr ∧ DI ys s far bits us ∧ g0 = 2 * us.sum + b.toNat ∧ (b = false → ∀ y ∈ gs, Clos ys us y)))
      case atStart => exact ⟨true, _, rfl, rfl, us, (unhide HB).1, (unhide HB).2, rfl, fun z => by cases z⟩
      case round =>
        clear HB
        obtain ⟨b, g0, rfl, HI⟩ := hrel
        cases b with
        | false =>
          have HE : Hid (RDAns w (refD n far bits) (.returned (.slice (some ⟨g, 0, none⟩) n n)) wr) := by
            obtain ⟨-, us, h1, h2, -, h4⟩ := unhide HI
            have e := h2.done (unhide HL) (h4 rfl)
            rw [← (unhide HN).1] at e
            rw [← e]
            exact ⟨g, n, rfl, by rw [h2.len]; exact (unhide HN).1, h1.row, h1.bl⟩
          clear HI
          go_wp2_with fail
          go_ret
          exact HE
        | true =>
          obtain ⟨hg0, us0, h1, h2, h3, -⟩ := unhide HI
          have HG0 : Hid (g0 = _ ∧ g0 = 2 * us0.sum + 1) := ⟨hg0, h3⟩
          have HS : Hid (DsM w gb o g n us0 wr ∧ DI ys s far bits us0) := ⟨h1, h2⟩
          clear HI hg0 h1 h2 h3
          go_wp2_with fail
          go_loopw [8, 7] (fun s8 s7 wr => ∃ (k : Nat) (b : Bool), s8 = .int .i64 k ∧ s7 = .bool b ∧ Hid (k ≤ m ∧ ∃ us, DsM w gb o g n us wr ∧ DI ys s far bits us ∧ (b = false → us = us0 ∧ ∀ (j : Nat) (y : EdV), j < k → gs[j]? = some y → Clos ys us y) ∧ (b = true → us.sum < us0.sum))) (fun s8 _ _ => m - (intOf s8).toNat)
          case atStart => exact ⟨0, false, rfl, rfl, Nat.zero_le _, us0, (unhide HS).1, (unhide HS).2, fun _ => ⟨rfl, fun j _ hj => absurd hj (Nat.not_lt_zero _)⟩, fun z => by cases z⟩
          case round =>
            clear HS
            obtain ⟨k, b, rfl, rfl, HI⟩ := hrel
            obtain ⟨i1, us, i2, i3, i4, i5⟩ := unhide HI
            obtain ⟨l1, l2, l3, l4⟩ := unhide HN
            by_cases hlt : k < m
            · obtain ⟨x, hy⟩ : ∃ x, gs[k]? = some x := ⟨_, List.getElem?_eq_getElem (by omega)⟩
              have hym := List.mem_of_getElem? hy
              obtain ⟨o1, o2, o3, o4⟩ := (unhide HL).ok x hym
              have hul := plc_lt o1
              have hvl := plc_lt o2
              have CP : Hid (∀ x ∈ ys, ∀ W', Below w.heap.size w W' → Calls Try.prog 27 #[.agg #[.slice a1 n r1, .slice a2 m r2, .int .i64 rd, .int .i64 wr0], .int .i64 x] W' fun e w' => e = .returned (.int .i64 (plc ys x : Nat)) ∧ Below W'.heap.size W' w') := fun x hx W' hW => by
                have := placeR (ev := .slice a2 m r2) (rd := rd) (wr := wr0) (x := x) (unhide HR W' hW).1 (unhide HL).rise (by have := (unhide HL).l1; omega)
                rwa [placeOf_some (unhide HL).rise (at_plc (unhide HL).rise hx)] at this
              have CU := hide (unhide CP x.2.1 o1)
              have CV := hide (unhide CP x.2.2.1 o2)
              obtain ⟨-, hrow⟩ := unhide HR wr i2.bl
              obtain ⟨ge, rfl⟩ := rrow_some hrow (by omega)
              obtain ⟨d0, d1, d2, d3⟩ := erow_at hrow hy
              have hb := below_new wr (oEd x)
              have hblk := heap_alloc_new wr (oEd x)
              obtain ⟨W1, hW1⟩ : ∃ W1, W1 = wr.alloc (oEd x) := ⟨_, rfl⟩
              obtain ⟨wb, hwb⟩ : ∃ wb, wb = wr.heap.size := ⟨_, rfl⟩
              rw [← hW1] at hb hblk
              rw [← hwb] at hblk
              have hwl : wb < W1.heap.size := (Array.getElem?_eq_some_iff.1 hblk).1
              obtain ⟨tt, htt⟩ : ∃ tt : Nat, x.2.2.2 = (tt : Int) := ⟨x.2.2.2.toNat, by omega⟩
              have htn : x.2.2.2.toNat = tt := by omega
              have HX : Hid (∀ W', Below W1.heap.size W1 W' → W'.cell? ⟨wb, 0, none⟩ = some (.int .i64 x.1) ∧ W'.cell? ⟨wb, 1, none⟩ = some (.int .i64 x.2.1) ∧ W'.cell? ⟨wb, 2, none⟩ = some (.int .i64 x.2.2.1) ∧ W'.cell? ⟨wb, 3, none⟩ = some (.int .u32 (tt : Int))) := fun W' h => by
                have := cellsEd ((h.block wb hwl).trans hblk)
                rwa [htt] at this
              have HM : Hid (∀ W', Below W1.heap.size W1 W' → DsM w gb o g n us W') := fun W' h => i2.below (hb.trans (h.mono hb.size))
              obtain ⟨u, hu⟩ : ∃ u, u = plc ys x.2.1 := ⟨_, rfl⟩
              obtain ⟨v, hv⟩ : ∃ v, v = plc ys x.2.2.1 := ⟨_, rfl⟩
              rw [← hu] at CU hul
              rw [← hv] at CV hvl
              obtain ⟨k', hk'⟩ : ∃ k', k' = k + 1 := ⟨_, rfl⟩
              have zw : Hid (wrap64 ((k : Int) + 1) = (k' : Int)) := by show wrap64 ((k : Int) + 1) = (k' : Int); unfold wrap64; omega
              have HJ : Hid (k' = k + 1 ∧ m - k' < m - k ∧ k' ≤ m) := ⟨hk', by omega, by omega⟩
              have HY : Hid (gs[k]? = some x ∧ x ∈ gs ∧ u = plc ys x.2.1 ∧ v = plc ys x.2.2.1 ∧ x.2.2.2.toNat = tt ∧ tt < 2139095040 ∧ DI ys s far bits us ∧ us.length = n ∧ (b = false → us = us0 ∧ ∀ (j : Nat) (y : EdV), j < k → gs[j]? = some y → Clos ys us y) ∧ (b = true → us.sum < us0.sum)) := ⟨hy, hym, hu, hv, htn, by omega, i3, by rw [i3.len]; omega, i4, i5⟩
              have hau := at_uA (us := us) (q := u) (by rw [i3.len]; omega)
              have hav := at_uA (us := us) (q := v) (by rw [i3.len]; omega)
              have HAU := hide hau
              have HAV := hide hav
              have z1 : (k : Int) < (m : Int) := by omega
              have z2 : (u : Int) < (n : Int) := by omega
              have z3 : (v : Int) < (n : Int) := by omega
              obtain ⟨-, q1, -, -⟩ := unhide HO wr i2.bx
              have HW1 := hide hW1
              have HWB := hide hwb
              rw [htt] at d3
              obtain ⟨q4, q5, q6, q7⟩ := unhide HO W1 ((unhide HM) W1 (Below.refl _ _)).bx
              obtain ⟨x0, x1, x2, x3⟩ := unhide HX W1 (Below.refl _ _)
              clear HI i1 i2 i3 i4 i5 l1 l2 l3 l4 hlt hy hym o1 o2 o3 o4 hul hvl hrow hb hblk hW1 hwb hwl htn hu hv hk' hau hav CP
              (try dsimp only at d0 d1 d2 d3)
              go_upto_region 15 with fail
              rw [show wr.alloc (.cells #[.int .i64 x.1, .int .i64 x.2.1, .int .i64 x.2.2.1, .int .u32 (tt : Int)] 42) = W1 from by rw [unhide HW1]; unfold oEd; rw [htt], ← unhide HWB]
              clear HW1 HWB d0 d1 d2 d3 q1
              refine wp_region_noPanic ?_
              refine regionL [] (fun y => (y.cell? ⟨gb, 0, none⟩ = some (.slice a1 n r1) ∧ y.cell? ⟨gb, 1, none⟩ = some (.slice (some ⟨ge, 0, none⟩) m r2) ∧ y.cell? ⟨gb, 2, none⟩ = some (.int .i64 rd) ∧ y.cell? ⟨gb, 3, none⟩ = some (.int .i64 wr0)) ∧ y.cell? ⟨wb, 1, none⟩ = some (.int .i64 x.2.1) ∧ y.cell? ⟨wb, 2, none⟩ = some (.int .i64 x.2.2.1)) (by kernel_rfl) ⟨⟨q4, q5, q6, q7⟩, x1, x2⟩ (fun hHeld => ?_)
              refine takeL (i := 0) (v := ?t2v0) (some 49) rfl rfl (by kernel_rfl) (by kernel_rfl) (by kernel_rfl) (by kernel_rfl) (by kernel_rfl) (fun _ _ _ h => h) (Or.inl ⟨by rfl, ?t2h0⟩) (by assumption) ?t2r0
              case t2h0 => (intro y hSu; (try dsimp only at hSu); go_simp; first | done | with_reducible rfl)
              (try simp only [Act.put, List.setIfInBounds_toArray, List.set_cons_zero, List.set_cons_succ])
              refine takeL (i := 1) (v := ?t2v1) (some 50) rfl rfl (by kernel_rfl) (by kernel_rfl) (by kernel_rfl) (by kernel_rfl) (by kernel_rfl) (fun _ _ _ h => h) (Or.inl ⟨by rfl, ?t2h1⟩) (by assumption) ?t2r1
              case t2h1 => (intro y hSu; (try dsimp only at hSu); go_simp; first | done | with_reducible rfl)
              (try simp only [Act.put, List.setIfInBounds_toArray, List.set_cons_zero, List.set_cons_succ])
              refine takeL (i := 2) (v := ?t2v2) (some 51) rfl rfl (by kernel_rfl) (by kernel_rfl) (by kernel_rfl) (by kernel_rfl) (by kernel_rfl) (fun _ _ _ h => h) (Or.inl ⟨by rfl, ?t2h2⟩) (by assumption) ?t2r2
              case t2h2 => (intro y hSu; (try dsimp only at hSu); go_simp; first | done | with_reducible rfl)
              (try simp only [Act.put, List.setIfInBounds_toArray, List.set_cons_zero, List.set_cons_succ])
              refine takeL (i := 4) (v := ?t2v4) (some 53) rfl rfl (by kernel_rfl) (by kernel_rfl) (by kernel_rfl) (by kernel_rfl) (by kernel_rfl) (fun _ _ _ h => h) (Or.inl ⟨by rfl, ?t2h4⟩) (by assumption) ?t2r4
              case t2h4 => (intro y hSu; (try dsimp only at hSu); go_simp; first | done | with_reducible rfl)
              (try simp only [Act.put, List.setIfInBounds_toArray, List.set_cons_zero, List.set_cons_succ])
              refine takeL (i := 5) (v := ?t2v5) (some 54) rfl rfl (by kernel_rfl) (by kernel_rfl) (by kernel_rfl) (by kernel_rfl) (by kernel_rfl) (fun _ _ _ h => h) (Or.inl ⟨by rfl, ?t2h5⟩) (by assumption) ?t2r5
              case t2h5 => (intro y hSu; (try dsimp only at hSu); go_simp; first | done | with_reducible rfl)
              (try simp only [Act.put, List.setIfInBounds_toArray, List.set_cons_zero, List.set_cons_succ])
              refine takeL (i := 6) (v := ?t2v6) (some 55) rfl rfl (by kernel_rfl) (by kernel_rfl) (by kernel_rfl) (by kernel_rfl) (by kernel_rfl) (fun _ _ _ h => h) (Or.inl ⟨by rfl, ?t2h6⟩) (by assumption) ?t2r6
              case t2h6 => (intro y hSu; (try dsimp only at hSu); go_simp; first | done | with_reducible rfl)
              (try simp only [Act.put, List.setIfInBounds_toArray, List.set_cons_zero, List.set_cons_succ])
              refine readyL (i := 3) (by kernel_rfl) rfl (fun K hK => ?_)
              go_simp
              refine (unhide CU _ (below_drewN ((unhide HM) W1 (Below.refl _ _)).bl 1)).mono ?_
              rintro e w6 ⟨rfl, hb6⟩
              have HB6 : Hid (Below W1.heap.size W1 w6) := (below_drewN (Below.refl W1.heap.size W1) 1).trans (hb6.mono (below_drewN (Below.refl W1.heap.size W1) 1).size)
              clear CU hb6
              have HP6 : Hid (((w6.cell? ⟨gb, 0, none⟩ = some (.slice a1 n r1) ∧ w6.cell? ⟨gb, 1, none⟩ = some (.slice (some ⟨ge, 0, none⟩) m r2) ∧ w6.cell? ⟨gb, 2, none⟩ = some (.int .i64 rd) ∧ w6.cell? ⟨gb, 3, none⟩ = some (.int .i64 wr0)) ∧ w6.cell? ⟨wb, 1, none⟩ = some (.int .i64 x.2.1) ∧ w6.cell? ⟨wb, 2, none⟩ = some (.int .i64 x.2.2.1))) := ⟨unhide HO w6 (unhide HM w6 (unhide HB6)).bx, (unhide HX w6 (unhide HB6)).2.1, (unhide HX w6 (unhide HB6)).2.2.1⟩
              (try dsimp only)
              refine hK.out _ _ (fun _ => (unhide HP6)) ?_
              clear hK K
              (try simp only [Act.put, List.setIfInBounds_toArray, List.set_cons_zero, List.set_cons_succ])
              have hH4 := (unhide HP6)
              refine readyL (i := 7) (by kernel_rfl) rfl (fun K hK => ?_)
              go_simp
              refine (unhide CV _ (unhide HM w6 (unhide HB6)).bl).mono ?_
              rintro e w7 ⟨rfl, hb7⟩
              have HB7 : Hid (Below W1.heap.size W1 w7) := (unhide HB6).trans (hb7.mono (unhide HB6).size)
              clear CV hb7
              have HP7 : Hid (((w7.cell? ⟨gb, 0, none⟩ = some (.slice a1 n r1) ∧ w7.cell? ⟨gb, 1, none⟩ = some (.slice (some ⟨ge, 0, none⟩) m r2) ∧ w7.cell? ⟨gb, 2, none⟩ = some (.int .i64 rd) ∧ w7.cell? ⟨gb, 3, none⟩ = some (.int .i64 wr0)) ∧ w7.cell? ⟨wb, 1, none⟩ = some (.int .i64 x.2.1) ∧ w7.cell? ⟨wb, 2, none⟩ = some (.int .i64 x.2.2.1))) := ⟨unhide HO w7 (unhide HM w7 (unhide HB7)).bx, (unhide HX w7 (unhide HB7)).2.1, (unhide HX w7 (unhide HB7)).2.2.1⟩
              (try dsimp only)
              refine hK.out _ _ (fun _ => (unhide HP7)) ?_
              clear hK K
              (try simp only [Act.put, List.setIfInBounds_toArray, List.set_cons_zero, List.set_cons_succ])
              have hH6 := (unhide HP7)
              refine takeL (i := 8) (v := ?t7v8) (some 10) rfl rfl (by kernel_rfl) (by kernel_rfl) (by kernel_rfl) (by kernel_rfl) (by kernel_rfl) (fun _ _ _ h => h) (Or.inl ⟨by rfl, ?t7h8⟩) (by assumption) ?t7r8
              case t7h8 => (intro y hSu; (try dsimp only at hSu); go_simp; first | done | with_reducible rfl)
              (try simp only [Act.put, List.setIfInBounds_toArray, List.set_cons_zero, List.set_cons_succ])
              refine takeL (i := 9) (v := ?t7v9) (some 11) rfl rfl (by kernel_rfl) (by kernel_rfl) (by kernel_rfl) (by kernel_rfl) (by kernel_rfl) (fun _ _ _ h => h) (Or.inl ⟨by rfl, ?t7h9⟩) (by assumption) ?t7r9
              case t7h9 => (intro y hSu; (try dsimp only at hSu); go_simp; first | done | with_reducible rfl)
              (try simp only [Act.put, List.setIfInBounds_toArray, List.set_cons_zero, List.set_cons_succ])
              refine doneL (by kernel_rfl) ?_ _
              refine NoPanic.normal ?_
              clear hHeld q4 q5 q6 q7 x0 x1 x2 x3 HP6 HP7 HB6
              have hD7 := unhide HM w7 (unhide HB7)
              have k0 := urow_at hD7.row (unhide HAU)
              have k1 := urow_at hD7.row (unhide HAV)
              obtain ⟨-, -, -, x3⟩ := unhide HX w7 (unhide HB7)
              obtain ⟨xu, hxu⟩ : ∃ xu, xu = uA us u := ⟨_, rfl⟩
              obtain ⟨xv, hxv⟩ : ∃ xv, xv = uA us v := ⟨_, rfl⟩
              rw [← hxu] at k0
              rw [← hxv] at k1
              have HD7 := hide hD7
              have HXU := hide (And.intro hxu hxv)
              clear hD7 hxu hxv HM HX HB7 HAU htt
              by_cases hf : xu = 4294967295
              · have k2 : w7.cell? ⟨g, u, none⟩ = some (.int .u32 4294967295) := by rw [k0, hf]; rfl
                have HJ2 : Hid ((b = false → us = us0 ∧ ∀ (j : Nat) (y : EdV), j < k' → gs[j]? = some y → Clos ys us y) ∧ DI ys s far bits us ∧ (b = true → us.sum < us0.sum)) := by
                  obtain ⟨y1, y2, y3, y4, y5, y6, y7, y8, y9, y10⟩ := unhide HY
                  refine ⟨fun hb => ⟨(y9 hb).1, fun j z hj hz => ?_⟩, y7, y10⟩
                  by_cases e : j = k
                  · rw [e, y1] at hz
                    rw [← Option.some.inj hz]
                    intro q
                    rw [← y3, ← (unhide HXU).1] at q
                    exact absurd hf q
                  · exact (y9 hb).2 j z (by have := (unhide HJ).1; omega) hz
                clear k0 k1 HY HXU x3 HAV hf
                go_wp2_with fail
                (try rw [unhide zw])
                exact ⟨⟨k', b, by first | rfl | (rw [(unhide HJ).1]; rfl), rfl, (unhide HJ).2.2, us, unhide HD7, (unhide HJ2).2.1, (unhide HJ2).1, (unhide HJ2).2.2⟩, by have := unhide HJ; simp [intOf]; omega⟩
              · have zf : (((xu : Nat) : Int) == 4294967295) = false := by simpa using fun e => hf (by omega)
                have hxuI : xu ≤ 2139095040 := by
                  have := (unhide HY).2.2.2.2.2.2.1.fin u
                  rw [← (unhide HXU).1] at this
                  exact this.resolve_left hf
                have C3 := hide (refFold_step tt hxuI)
                rw [counts_cost (by have := (unhide HY).2.2.2.2.2.1; omega)] at C3
                obtain ⟨cc, hcc⟩ : ∃ cc, cc = M.addC xu tt := ⟨_, rfl⟩
                rw [← hcc] at C3
                have HCC : Hid (cc = M.addC xu tt ∧ xu ≠ 4294967295) := ⟨hcc, hf⟩
                clear hcc hxuI hf
                go_upto_region 17 with fail
                clear zf
                refine wp_region_noPanic ?_
                refine regionL [] (fun y => y.cell? ⟨g, u, none⟩ = some (.int .u32 (xu : Int)) ∧ y.cell? ⟨wb, 3, none⟩ = some (.int .u32 (tt : Int))) (by kernel_rfl) ⟨k0, x3⟩ (fun hHeld => ?_)
                refine takeL (i := 0) (v := ?t10v0) (some 62) rfl rfl (by kernel_rfl) (by kernel_rfl) (by kernel_rfl) (by kernel_rfl) (by kernel_rfl) (fun _ _ _ h => h) (Or.inl ⟨by rfl, ?t10h0⟩) (by assumption) ?t10r0
                case t10h0 => (intro y hSu; (try dsimp only at hSu); go_simp; first | done | with_reducible rfl)
                (try simp only [Act.put, List.setIfInBounds_toArray, List.set_cons_zero, List.set_cons_succ])
                refine takeL (i := 1) (v := ?t10v1) (some 63) rfl rfl (by kernel_rfl) (by kernel_rfl) (by kernel_rfl) (by kernel_rfl) (by kernel_rfl) (fun _ _ _ h => h) (Or.inl ⟨by rfl, ?t10h1⟩) (by assumption) ?t10r1
                case t10h1 => (intro y hSu; (try dsimp only at hSu); go_simp; first | done | with_reducible rfl)
                (try simp only [Act.put, List.setIfInBounds_toArray, List.set_cons_zero, List.set_cons_succ])
                refine takeL (i := 2) (v := ?t10v2) (some 64) rfl rfl (by kernel_rfl) (by kernel_rfl) (by kernel_rfl) (by kernel_rfl) (by kernel_rfl) (fun _ _ _ h => h) (Or.inl ⟨by rfl, ?t10h2⟩) (by assumption) ?t10r2
                case t10h2 => (intro y hSu; (try dsimp only at hSu); go_simp; first | done | with_reducible rfl)
                (try simp only [Act.put, List.setIfInBounds_toArray, List.set_cons_zero, List.set_cons_succ])
                refine takeL (i := 3) (v := ?t10v3) (some 65) rfl rfl (by kernel_rfl) (by kernel_rfl) (by kernel_rfl) (by kernel_rfl) (by kernel_rfl) (fun _ _ _ h => h) (Or.inl ⟨by rfl, ?t10h3⟩) (by assumption) ?t10r3
                case t10h3 => (intro y hSu; (try dsimp only at hSu); go_simp; first | done | with_reducible rfl)
                (try simp only [Act.put, List.setIfInBounds_toArray, List.set_cons_zero, List.set_cons_succ])
                refine takeL (i := 4) (v := ?t10v4) (some 66) rfl rfl (by kernel_rfl) (by kernel_rfl) (by kernel_rfl) (by kernel_rfl) (by kernel_rfl) (fun _ _ _ h => h) (Or.inl ⟨by rfl, ?t10h4⟩) (by assumption) ?t10r4
                case t10h4 => (intro y hSu; (try dsimp only at hSu); go_simp; first | done | with_reducible rfl)
                (try simp only [Act.put, List.setIfInBounds_toArray, List.set_cons_zero, List.set_cons_succ])
                refine takeL (i := 5) (v := ?t10v5) (some 67) rfl rfl (by kernel_rfl) (by kernel_rfl) (by kernel_rfl) (by kernel_rfl) (by kernel_rfl) (fun _ _ _ h => h) (Or.inl ⟨by rfl, ?t10h5⟩) (by assumption) ?t10r5
                case t10h5 => (intro y hSu; (try dsimp only at hSu); go_simp; first | done | with_reducible rfl)
                (try simp only [Act.put, List.setIfInBounds_toArray, List.set_cons_zero, List.set_cons_succ])
                refine readyL (i := 6) (by kernel_rfl) rfl (fun K hK => ?_)
                go_simp
                refine (unhide C3 _).mono ?_
                rintro e w8 ⟨rfl, qq, hw8⟩
                have HD8 : Hid (DsM w gb o g n us w8) := by
                  show DsM w gb o g n us w8
                  rw [hw8]; exact ((unhide HD7).below (below_drewN (Below.refl _ _) 1)).below (below_drewN (Below.refl _ _) qq)
                have hP8 : w8.cell? ⟨g, u, none⟩ = some (.int .u32 (xu : Int)) ∧ w8.cell? ⟨wb, 3, none⟩ = some (.int .u32 (tt : Int)) := by rw [hw8]; exact ⟨k0, x3⟩
                have k3 : w8.cell? ⟨g, v, none⟩ = some (.int .u32 (xv : Int)) := by rw [hw8]; exact k1
                clear C3 hw8
                (try dsimp only)
                refine hK.out _ _ (fun _ => hP8) ?_
                clear hK K
                (try simp only [Act.put, List.setIfInBounds_toArray, List.set_cons_zero, List.set_cons_succ])
                have hH12 := hP8
                refine takeL (i := 7) (v := ?t13v7) (some 12) rfl rfl (by kernel_rfl) (by kernel_rfl) (by kernel_rfl) (by kernel_rfl) (by kernel_rfl) (fun _ _ _ h => h) (Or.inl ⟨by rfl, ?t13h7⟩) (by assumption) ?t13r7
                case t13h7 => (intro y hSu; (try dsimp only at hSu); go_simp; first | done | with_reducible rfl)
                (try simp only [Act.put, List.setIfInBounds_toArray, List.set_cons_zero, List.set_cons_succ])
                refine doneL (by kernel_rfl) ?_ _
                refine NoPanic.normal ?_
                clear hHeld hP8 k0 k1 x3 HD7
                have kf := rrow_frozen (unhide HD8).row (by have := (unhide HY).2.2.2.2.2.2.2.1; omega)
                by_cases hlt : cc < xv
                · have z5 : (cc : Int) < (xv : Int) := by omega
                  have HJ2 : Hid (DsM w gb o g n (us.set v cc) (w8.setCell ⟨g, v, none⟩ (.int .u32 (cc : Nat))) ∧ DI ys s far bits (us.set v cc) ∧ (us.set v cc).sum < us0.sum) := by
                    obtain ⟨y1, y2, y3, y4, y5, y6, y7, y8, y9, y10⟩ := unhide HY
                    obtain ⟨x1, x2⟩ := unhide HXU
                    obtain ⟨c1, c2⟩ := unhide HCC
                    obtain ⟨g1, g2⟩ := y7.step (unhide HL) y2 (c := cc) (by rw [← y3, ← x1]; exact c2) (by rw [← y3, ← x1, y5]; exact c1) (by rw [← y4, ← x2]; exact hlt)
                    rw [← y4] at g1 g2
                    refine ⟨(unhide HD8).set (unhide HAV) cc, g1, ?_⟩
                    cases b with
                    | false => rw [← (y9 rfl).1]; exact g2
                    | true => have := y10 rfl; omega
                  clear HY HXU HCC HAV hlt
                  go_wp2_with fail
                  (try rw [unhide zw])
                  exact ⟨⟨k', true, by first | rfl | (rw [(unhide HJ).1]; rfl), rfl, (unhide HJ).2.2, _, (unhide HJ2).1, (unhide HJ2).2.1, (fun z => by cases z), fun _ => (unhide HJ2).2.2⟩, by have := unhide HJ; simp [intOf]; omega⟩
                · have z5 : ¬ (cc : Int) < (xv : Int) := by omega
                  have HJ2 : Hid ((b = false → us = us0 ∧ ∀ (j : Nat) (y : EdV), j < k' → gs[j]? = some y → Clos ys us y) ∧ DI ys s far bits us ∧ (b = true → us.sum < us0.sum)) := by
                    obtain ⟨y1, y2, y3, y4, y5, y6, y7, y8, y9, y10⟩ := unhide HY
                    refine ⟨fun hb => ⟨(y9 hb).1, fun j z hj hz => ?_⟩, y7, y10⟩
                    by_cases e : j = k
                    · rw [e, y1] at hz
                      rw [← Option.some.inj hz]
                      intro _
                      rw [← y3, ← y4, ← (unhide HXU).1, ← (unhide HXU).2, y5, ← (unhide HCC).1]
                      omega
                    · exact (y9 hb).2 j z (by have := (unhide HJ).1; omega) hz
                  clear HY HXU HCC HAV hlt kf
                  go_wp2_with fail
                  (try rw [unhide zw])
                  exact ⟨⟨k', b, by first | rfl | (rw [(unhide HJ).1]; rfl), rfl, (unhide HJ).2.2, us, unhide HD8, (unhide HJ2).2.1, (unhide HJ2).1, (unhide HJ2).2.2⟩, by have := unhide HJ; simp [intOf]; omega⟩
            · have z1 : ¬ (k : Int) < (m : Int) := by omega
              obtain ⟨-, q1, -, -⟩ := unhide HO wr i2.bx
              have HJ : Hid (DsM w gb o g n us wr ∧ DI ys s far bits us ∧ (b = false → ∀ y ∈ gs, Clos ys us y) ∧ 2 * us.sum + b.toNat < 2 * us0.sum + 1) := ⟨i2, i3, fun hb y hy => by
                obtain ⟨j, hj⟩ := List.mem_iff_getElem?.1 hy
                exact (i4 hb).2 j y (by have := (List.getElem?_eq_some_iff.1 hj).1; omega) hj, by
                cases b with
                | false => rw [(i4 rfl).1]; simp
                | true => have := i5 rfl; simp; omega⟩
              clear HI i1 i2 i3 i4 i5 l1 l2 l3 l4 hlt
              go_wp2_with fail
              go_roundg (2 * us.sum + b.toNat)
              case measure => have h1 := unhide HG0; have h2 := (unhide HJ).2.2.2; omega
              case rel => exact ⟨b, _, rfl, rfl, us, (unhide HJ).1, (unhide HJ).2.1, rfl, (unhide HJ).2.2.1⟩
end Go.Proofs.Ytbmcibofecigeaa
