/- waysOf, walked. -/
import Derived.Test.YtijgeoegeeejcaaWays13
namespace Go.Proofs.Ytijgeoegeeejcaa
open Go.RowKit Go.Maps
attribute [local go_sem] run_storeF
set_option maxHeartbeats 2000000 in
set_option maxRecDepth 100000 in
theorem waysOfS {w : World} {vv ev : Value} {ys : List Int} {es : List EdV} (hv : NRow w vv ys) (hs : ys.Pairwise (· ≤ ·)) (he : ERow 0 w ev es) (hl1 : ys.length ≤ 1000) (hl2 : es.length ≤ 1000) (hin : ∀ x ∈ es, x.2.1 ∈ ys ∧ x.2.2.1 ∈ ys ∧ (kept x.2.2.2).isSome = true) :
    Calls Try.prog 27 #[vv, ev] w fun e w' => ∃ a n c, e = .returned (.slice a n c) ∧ Hid (WysAns w ys es (.slice a n c) w') := by
  obtain ⟨a1, c1, e1, -⟩ := brow_shape hv
  obtain ⟨n, hn⟩ : ∃ n, n = ys.length := ⟨_, rfl⟩
  rw [← hn] at e1
  subst e1
  obtain ⟨a2, c2, e2⟩ := rrow_shape he
  obtain ⟨m, hm⟩ : ∃ m, m = es.length := ⟨_, rfl⟩
  rw [← hm] at e2
  subst e2
  have HH : Hid (NRow w (.slice a1 n c1) ys ∧ ys.Pairwise (· ≤ ·) ∧ ERow 0 w (.slice a2 m c2) es ∧ n = ys.length ∧ m = es.length ∧ n ≤ 1000 ∧ m ≤ 1000 ∧ ∀ x ∈ es, x.2.1 ∈ ys ∧ x.2.2.1 ∈ ys ∧ (kept x.2.2.2).isSome = true) := ⟨hv, hs, he, hn, hm, by omega, by omega, hin⟩
  have hmk := mkW (n := n) (by omega) w
  have hwm := wy_made (n := n) (by omega) w
  have hb1 := below_new w (.cells (madeCells #[.slice none 0 0] n) 95)
  obtain ⟨w1, hw1⟩ : ∃ w1, w1 = w.alloc (.cells (madeCells #[.slice none 0 0] n) 95) := ⟨_, rfl⟩
  rw [← hw1] at hmk hwm hb1
  obtain ⟨g, hg⟩ : ∃ g, g = w.heap.size := ⟨_, rfl⟩
  have HP : Hid (∃ xs, WyAt w.heap.size w1 (.slice (some ⟨g, 0, none⟩) n n) xs (waysL ys (es.take 0)) ∧ Below w.heap.size w w1) := by
    refine ⟨List.replicate n (none, 0, 0), ?_, hb1⟩
    rw [List.take_zero, waysL_nil, hg, ← hn]
    exact hwm
  rw [← hg] at hmk
  clear hv hs he hl1 hl2 hin hn hm hwm hb1 hw1 hg
  go_enter Try.func27, Try.ntmps27
  go_upto_region 3 with fail
  clear hmk
  go_loopw [19] (fun s19 W => ∃ i : Nat, s19 = .int .i64 i ∧ i ≤ m ∧ Hid (∃ xs, WyAt w.heap.size W (.slice (some ⟨g, 0, none⟩) n n) xs (waysL ys (es.take i)) ∧ Below w.heap.size w W)) (fun s19 _ => m - (intOf s19).toNat)
  case atStart => exact ⟨0, rfl, Nat.zero_le _, HP⟩
  case round =>
    obtain ⟨i, rfl, him, HI⟩ := hrel
    obtain ⟨xs, hW, hB⟩ := unhide HI
    obtain ⟨h1, h2, h3, h4, h5, h6, h7, h8⟩ := unhide HH
    by_cases hlt : i < m
    · obtain ⟨x, hx⟩ : ∃ x, es[i]? = some x := ⟨_, List.getElem?_eq_getElem (by omega)⟩
      obtain ⟨i1, i2, i3⟩ := h8 x (List.mem_of_getElem? hx)
      have hrow := rrow_below h3 hB
      obtain ⟨ge, rfl⟩ := rrow_some hrow (by omega)
      obtain ⟨d0, d1, d2, d3⟩ := erow_at hrow hx
      have hb := below_new wr (oEd x)
      obtain ⟨k0, k1, k2, k3⟩ := cellsEd (heap_alloc_new wr (oEd x))
      obtain ⟨eb, heb⟩ : ∃ eb, eb = wr.heap.size := ⟨_, rfl⟩
      rw [← heb] at k0 k1 k2 k3
      have hsz : (wr.alloc (oEd x)).heap.size = wr.heap.size + 1 := by simp
      obtain ⟨W1, hW1⟩ : ∃ W1, W1 = wr.alloc (oEd x) := ⟨_, rfl⟩
      rw [← hW1] at hb k0 k1 k2 k3 hsz
      have HW1 := hide hW1
      clear hW1
      have B1 : Hid (Below w.heap.size w W1) := hB.trans (hb.mono hB.size)
      have C1 : Hid (∀ q, Calls Try.prog 58 #[.slice a1 n c1, .int .i64 x.2.1] (W1.drewN q) fun e w' => ∃ f, e = .returned (.tuple #[.int .i64 (plc ys x.2.1 : Nat), .bool f]) ∧ ∃ q, w' = W1.drewN q) := fun q => by
        refine (findB _ ys x.2.1 _ (nrow_below h1 (below_drewN (unhide B1) q)) (by omega) h2).mono ?_
        rintro e w' ⟨rfl, q', rfl⟩
        exact ⟨_, rfl, q + q', World.drewN_drewN _ _ _⟩
      have C2 : Hid (∀ q, Calls Try.prog 58 #[.slice a1 n c1, .int .i64 x.2.2.1] (W1.drewN q) fun e w' => ∃ f, e = .returned (.tuple #[.int .i64 (plc ys x.2.2.1 : Nat), .bool f]) ∧ ∃ q, w' = W1.drewN q) := fun q => by
        refine (findB _ ys x.2.2.1 _ (nrow_below h1 (below_drewN (unhide B1) q)) (by omega) h2).mono ?_
        rintro e w' ⟨rfl, q', rfl⟩
        exact ⟨_, rfl, q + q', World.drewN_drewN _ _ _⟩
      have C3 : Hid (∀ W, Calls Try.prog 35 #[.int .u32 x.2.2.2] W fun e w' => e = .returned (.tuple #[.float .f32 (wtN x), .int .i64 0]) ∧ w' = W) := fun W => by
        have := admitS x.2.2.2 W
        obtain ⟨z, hz⟩ := Option.isSome_iff_exists.1 i3
        unfold ansAd at this
        rw [hz] at this
        unfold wtN
        rw [hz]; exact this
      have hfl : plc ys x.2.1 < n := by rw [h4]; exact plc_lt i1
      obtain ⟨y0, hy0⟩ : ∃ y0, xs[plc ys x.2.1]? = some y0 := ⟨_, List.getElem?_eq_getElem (by rw [hW.len, waysL_len, ← h4]; exact hfl)⟩
      obtain ⟨ws, hws⟩ : ∃ ws, (waysL ys (es.take i))[plc ys x.2.1]? = some ws := ⟨_, List.getElem?_eq_getElem (by rw [waysL_len, ← h4]; exact hfl)⟩
      have hwl : ws.length ≤ 1000 := by
        rw [waysL_at (by omega)] at hws
        injection hws with hws
        rw [← hws, List.length_map]
        have := List.length_filter_le (fun x_1 => decide (plc ys x_1.2.1 = plc ys x.2.1)) (es.take i)
        rw [List.length_take] at this; omega
      have hsn := waysL_snoc (x := x) (by omega) hws
      have etk : es.take (i + 1) = es.take i ++ [x] := by rw [List.take_add_one, hx]; rfl
      have HST : Hid (∀ q, ∃ a' n' c' w', (∀ ty, (Builtin.append_ #[95, 95] ty #[slv y0, .slice (some ⟨(W1.drewN q).heap.size, 0, none⟩) 1 1]).run Try.prog ((W1.drewN q).alloc (.cells #[.int .i64 x.1, .int .i64 (plc ys x.2.2.1 : Nat), .float .f32 (wtN x)] 97)) = .ok (.slice a' n' c') w') ∧ w'.cell? ⟨g, plc ys x.2.1, none⟩ = some (slv y0) ∧ (∀ o, w'.frozen? ⟨g, o, none⟩ = false) ∧ w'.cell? ⟨eb, 0, none⟩ = some (.int .i64 x.1) ∧ ∃ xs, WyAt w.heap.size (w'.setCell ⟨g, plc ys x.2.1, none⟩ (.slice a' n' c')) (.slice (some ⟨g, 0, none⟩) n n) xs (waysL ys (es.take (i + 1))) ∧ Below w.heap.size w (w'.setCell ⟨g, plc ys x.2.1, none⟩ (.slice a' n' c'))) := fun q => by
        have hWq := (hW.below hb).below (below_drewN (Below.refl _ W1) q)
        have hBq := below_drewN (unhide B1) q
        obtain ⟨a', n', c', w', r, s1, s2, s3, s4⟩ := wy_step hWq hBq.size hy0 hws hwl (wayOf ys x)
        have hinr := hWq.inner _ _ _ hy0 hws
        refine ⟨a', n', c', w', r, s1, s2, ?_, _, by rw [etk, hsn]; exact s4, ?_⟩
        · have hne : (slv y0).ownBlock ≠ some eb := fun e => by
            have := ((hW.inner _ _ _ hy0 hws).lt eb e).2; omega
          have hbl := s3.block eb (show eb < (W1.drewN q).heap.size by show eb < W1.heap.size; omega) hne
          unfold World.cell? at k0 ⊢
          rw [hbl]; exact k0
        · have hb3 : Below w.heap.size w w' := hBq.trans (s3.below hBq.size (fun b e => (hinr.lt b e).1))
          exact hb3.setCell (p := ⟨g, plc ys x.2.1, none⟩) (hW.outer.lt g rfl).1 _
      have hcell : W1.cell? ⟨g, plc ys x.2.1, none⟩ = some (slv y0) := hdrow_at (hW.below hb).outer hy0
      have z1 : (i : Int) < (m : Int) := by omega
      have z2 : ((plc ys x.2.1 : Nat) : Int) < (n : Int) := by omega
      obtain ⟨j, hj⟩ : ∃ j, j = i + 1 := ⟨_, rfl⟩
      have zw : Hid (wrap64 ((i : Int) + 1) = (j : Int)) := by show wrap64 ((i : Int) + 1) = (j : Int); unfold wrap64; omega
      have HJ : Hid (j = i + 1 ∧ j ≤ m ∧ m - j < m - i) := ⟨hj, by omega, by omega⟩
      rw [← hj] at HST
      clear HP HI hW hB h1 h2 h3 h4 h5 h6 h7 h8 hrow hx i1 i2 i3 hb hfl hy0 hws hwl hsn etk him hlt hj hsz
      generalize plc ys x.2.1 = f0 at *
      generalize plc ys x.2.2.1 = t0 at *
      generalize wtN x = wt at *
      obtain ⟨xe, xu, xv, xb⟩ := x
      dsimp only at *
      obtain ⟨ya, yn, yc⟩ := y0
      unfold slv at *
      dsimp only at *
      go_upto_region 5 with fail
      rw [show wr.alloc (.cells #[.int .i64 xe, .int .i64 xu, .int .i64 xv, .int .u32 xb] 42) = W1 from (unhide HW1).symm, ← heb]
      clear HW1 d0 d1 d2 d3 heb
      have C10 := hide (unhide C1 0)
      rw [World.drewN_zero] at C10
      go_wp2_with fail
      refine (unhide C10).mono ?_
      rintro e w2 ⟨f2, rfl, q2, hw2⟩
      rw [hw2]
      clear C10 C1 hw2 w2
      go_wp2_with fail
      refine (unhide C2 _).mono ?_
      rintro e w3 ⟨f3, rfl, q3, hw3⟩
      rw [hw3]
      clear C2 hw3 w3
      go_wp2_with fail
      refine (unhide C3 _).mono ?_
      rintro e w4 ⟨rfl, hw4⟩
      rw [hw4]
      clear C3 hw4 w4
      obtain ⟨a', n', c', w5, r, s1, s2, s3, s4⟩ := unhide HST (q3 + 1)
      have HR := hide r
      have HN := hide s4
      have HA1 : Hid (((W1.drewN q3).drew.alloc (.cells #[.int .i64 xe, .int .i64 (t0 : Nat), .float .f32 wt] 97)).cell? ⟨g, f0, none⟩ = some (.slice ya yn yc) ∧ ((W1.drewN q3).drew.alloc (.cells #[.int .i64 xe, .int .i64 (t0 : Nat), .float .f32 wt] 97)).cell? ⟨eb, 0, none⟩ = some (.int .i64 xe)) := by
        have hb := below_new (W1.drewN q3).drew (.cells #[.int .i64 xe, .int .i64 (t0 : Nat), .float .f32 wt] 97)
        exact ⟨(hb.cell (p := ⟨g, f0, none⟩) (show g < W1.heap.size from cell_lt13 hcell)).trans hcell, (hb.cell (p := ⟨eb, 0, none⟩) (show eb < W1.heap.size from cell_lt13 k0)).trans k0⟩
      clear r s4 HST
      go_upto_region 8 with fail
      refine wp_region_noPanic ?_
      refine regionL [14] (fun y => y.cell? ⟨g, f0, none⟩ = some (.slice ya yn yc) ∧ y.cell? ⟨eb, 0, none⟩ = some (.int .i64 xe)) (by kernel_rfl) ⟨hcell, k0⟩ (fun hHeld => ?_)
      refine takeL (i := 0) (v := ?t2v0) (some 43) rfl rfl (by kernel_rfl) (by kernel_rfl) (by kernel_rfl) (by kernel_rfl) (by kernel_rfl) (fun _ _ _ h => h) (Or.inl ⟨by rfl, ?t2h0⟩) (by assumption) ?t2r0
      case t2h0 => (intro y hSu; (try dsimp only at hSu); go_simp; first | done | with_reducible rfl)
      (try simp only [Act.put, List.setIfInBounds_toArray, List.set_cons_zero, List.set_cons_succ])
      refine takeL (i := 1) (v := ?t2v1) (some 44) rfl rfl (by kernel_rfl) (by kernel_rfl) (by kernel_rfl) (by kernel_rfl) (by kernel_rfl) (fun _ _ _ h => h) (Or.inl ⟨by rfl, ?t2h1⟩) (by assumption) ?t2r1
      case t2h1 => (intro y hSu; (try dsimp only at hSu); go_simp; first | done | with_reducible rfl)
      (try simp only [Act.put, List.setIfInBounds_toArray, List.set_cons_zero, List.set_cons_succ])
      refine takeL (i := 2) (v := ?t2v2) (some 45) rfl rfl (by kernel_rfl) (by kernel_rfl) (by kernel_rfl) (by kernel_rfl) (by kernel_rfl) (fun _ _ _ h => h) (Or.inl ⟨by rfl, ?t2h2⟩) (by assumption) ?t2r2
      case t2h2 => (intro y hSu; (try dsimp only at hSu); go_simp; first | done | with_reducible rfl)
      (try simp only [Act.put, List.setIfInBounds_toArray, List.set_cons_zero, List.set_cons_succ])
      refine takeL (i := 3) (v := ?t2v3) (some 46) rfl rfl (by kernel_rfl) (by kernel_rfl) (by kernel_rfl) (by kernel_rfl) (by kernel_rfl) (fun _ _ _ h => h) (Or.inl ⟨by rfl, ?t2h3⟩) (by assumption) ?t2r3
      case t2h3 => (intro y hSu; (try dsimp only at hSu); go_simp; first | done | with_reducible rfl)
      (try simp only [Act.put, List.setIfInBounds_toArray, List.set_cons_zero, List.set_cons_succ])
      refine takeL (i := 4) (v := ?t2v4) (some 47) rfl rfl (by kernel_rfl) (by kernel_rfl) (by kernel_rfl) (by kernel_rfl) (by kernel_rfl) (fun _ _ _ h => h) (Or.inl ⟨by rfl, ?t2h4⟩) (by assumption) ?t2r4
      case t2h4 => (intro y hSu; (try dsimp only at hSu); go_simp; first | done | with_reducible rfl)
      (try simp only [Act.put, List.setIfInBounds_toArray, List.set_cons_zero, List.set_cons_succ])
      refine takeL (i := 5) (v := ?t2v5) (some 48) rfl rfl (by kernel_rfl) (by kernel_rfl) (by kernel_rfl) (by kernel_rfl) (by kernel_rfl) (fun _ _ _ h => h) (Or.inl ⟨by rfl, ?t2h5⟩) (by assumption) ?t2r5
      case t2h5 => (intro y hSu; (try dsimp only at hSu); go_simp; first | done | with_reducible rfl)
      (try simp only [Act.put, List.setIfInBounds_toArray, List.set_cons_zero, List.set_cons_succ])
      refine takeL (i := 6) (v := ?t2v6) (some 49) rfl rfl (by kernel_rfl) (by kernel_rfl) (by kernel_rfl) (by kernel_rfl) (by kernel_rfl) (fun _ _ _ h => h) (Or.inl ⟨by rfl, ?t2h6⟩) (by assumption) ?t2r6
      case t2h6 => (intro y hSu; (try dsimp only at hSu); go_simp; first | done | with_reducible rfl)
      (try simp only [Act.put, List.setIfInBounds_toArray, List.set_cons_zero, List.set_cons_succ])
      refine takeL (i := 7) (v := ?t2v7) (some 50) rfl rfl (by kernel_rfl) (by kernel_rfl) (by kernel_rfl) (by kernel_rfl) (by kernel_rfl) (fun _ _ _ h => h) (Or.inl ⟨by rfl, ?t2h7⟩) (by assumption) ?t2r7
      case t2h7 => (intro y hSu; (try dsimp only at hSu); go_simp; first | done | with_reducible rfl)
      (try simp only [Act.put, List.setIfInBounds_toArray, List.set_cons_zero, List.set_cons_succ])
      refine takeL (i := 8) (v := ?t2v8) (some 51) rfl rfl (by kernel_rfl) (by kernel_rfl) (by kernel_rfl) (by kernel_rfl) (by kernel_rfl) (fun _ _ _ h => h) (Or.inl ⟨by rfl, ?t2h8⟩) (by assumption) ?t2r8
      case t2h8 => (intro y hSu; (try dsimp only at hSu); go_simp; first | done | with_reducible rfl)
      (try simp only [Act.put, List.setIfInBounds_toArray, List.set_cons_zero, List.set_cons_succ])
      refine takeL (i := 9) (v := ?t2v9) (some 52) rfl rfl (by kernel_rfl) (by kernel_rfl) (by kernel_rfl) (by kernel_rfl) (by kernel_rfl) (fun _ _ _ h => h) (Or.inl ⟨by rfl, ?t2h9⟩) (by assumption) ?t2r9
      case t2h9 => (intro y hSu; (try dsimp only at hSu); go_simp; first | done | with_reducible rfl)
      (try simp only [Act.put, List.setIfInBounds_toArray, List.set_cons_zero, List.set_cons_succ])
      refine takeL (i := 10) (v := ?t2v10) (some 53) rfl rfl (by kernel_rfl) (by kernel_rfl) (by kernel_rfl) (by kernel_rfl) (by kernel_rfl) (fun _ _ _ h => h) (Or.inl ⟨by rfl, ?t2h10⟩) (by assumption) ?t2r10
      case t2h10 => (intro y hSu; (try dsimp only at hSu); go_simp; first | done | with_reducible rfl)
      (try simp only [Act.put, List.setIfInBounds_toArray, List.set_cons_zero, List.set_cons_succ])
      refine readyL (i := 11) (by kernel_rfl) rfl (fun K hK => ?_)
      go_simp
      refine hK.out _ _ (fun _ => (unhide HA1)) ?_
      clear hK K
      (try simp only [Act.put, List.setIfInBounds_toArray, List.set_cons_zero, List.set_cons_succ])
      have hH4 := (unhide HA1)
      refine readyL (i := 12) (by kernel_rfl) rfl (fun K hK => ?_)
      refine step_append_run rfl (.tmp 48) (.tmp 54) 95 rfl _ _ (by simp [Act.eval]; first | rfl | done) (by simp [Act.eval]; first | rfl | done) _ _ (unhide HR _) ?_
      refine hK.out _ _ (fun _ => (And.intro s1 s3)) ?_
      clear hK K
      (try simp only [Act.put, List.setIfInBounds_toArray])
      have hH5 := (And.intro s1 s3)
      refine takeL (i := 13) (v := ?t6v13) (some 56) rfl rfl (by kernel_rfl) (by kernel_rfl) (by kernel_rfl) (by kernel_rfl) (by kernel_rfl) (fun _ _ _ h => h) (Or.inl ⟨by rfl, ?t6h13⟩) (by assumption) ?t6r13
      case t6h13 => (intro y hSu; (try dsimp only at hSu); go_simp; first | done | with_reducible rfl)
      (try simp only [Act.put])
      refine readyL (i := 14) (by kernel_rfl) rfl (fun K hK => ?_)
      go_simp
      refine hK.out _ _ (fun h => by cases h) ?_
      clear hK K
      (try simp only [Act.put, List.setIfInBounds_toArray, List.set_cons_zero, List.set_cons_succ])
      refine doneL (by kernel_rfl) ?_ _
      refine NoPanic.normal ?_
      clear hHeld HR HA1 s1 s2 s3 hcell k0 k1 k2 k3
      go_wp2_with fail
      (try rw [unhide zw])
      exact ⟨⟨j, by first | rfl | (rw [(unhide HJ).1]; rfl), (unhide HJ).2.1, HN⟩, by have := unhide HJ; simp [intOf]; omega⟩
    · have z1 : ¬ (i : Int) < (m : Int) := by omega
      have HE : Hid (WysAns w ys es (.slice (some ⟨g, 0, none⟩) n n) wr) := by
        rw [List.take_of_length_le (by omega)] at hW
        exact ⟨xs, hW, hB⟩
      clear HP HI hW hB h1 h2 h3 h4 h5 h6 h7 h8 him hlt
      go_wp2_with fail
      go_ret
      exact ⟨_, _, _, rfl, HE⟩
end Go.Proofs.Ytijgeoegeeejcaa
