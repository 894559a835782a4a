/- CondPlays, walked. -/
import Derived.Test.YtkmhcgmmbkchaaaGreatLawM10
import Derived.Test.YtkmhcgmmbkchaaaGreatWh10
namespace Go.Proofs.YtkmhcgmmbkchaaaGreat
open Go.RowKit Go.Maps T9
theorem readyL2 {P : Program} {ops : Array Oper} {Q : Exit → Act → World → Prop} {md : Region.Mode} {S : World → Prop} {T : List Nat} {i k : Nat} {o o2 : Oper} {fuel : Nat} {listed : Array Bool} {a : Act} {w : World} (hr : Region.ready md ops listed = [i, k]) (ho : ops[i]? = some o) (ho2 : ops[k]? = some o2)
    (h : ∀ K' : Act → World → Prop, Shut (∀ a w, (T.contains i = false → S w) → wpAnyL P md ops Q S T fuel (listed.setIfInBounds i true) a w → K' a w) → if Region.wanted o (yielded ops a.tmps) = true then Oper.wp P o a w K' Q else K' (a.put o.dst undef) w)
    (h2 : ∀ K' : Act → World → Prop, Shut (∀ a w, (T.contains k = false → S w) → wpAnyL P md ops Q S T fuel (listed.setIfInBounds k true) a w → K' a w) → if Region.wanted o2 (yielded ops a.tmps) = true then Oper.wp P o2 a w K' Q else K' (a.put o2.dst undef) w) :
    wpAnyL P md ops Q S T (fuel + 1) listed a w := by
  refine ⟨fun h0 => (by rw [hr] at h0; cases h0), fun j hj => ?_⟩
  rw [hr] at hj
  rcases List.mem_cons.1 hj with e | e
  · subst e
    exact wpOp_step ho (fun K' hK => h K' (fun a w hS hW => hK a w ⟨hS, hW⟩))
  · obtain rfl : j = k := by simpa using e
    exact wpOp_step ho2 (fun K' hK => h2 K' (fun a w hS hW => hK a w ⟨hS, hW⟩))
theorem opAt_lt {w : World} {b off : Nat} {o : OpV} (h : OpAt w b off o) : b < w.heap.size := cell_lt10 h.1
theorem opAt_block {w W : World} {b off : Nat} {o : OpV} (hb : W.heap[b]? = w.heap[b]?) (h : OpAt w b off o) : OpAt W b off o := by
  have e : ∀ j, W.cell? ⟨b, j, none⟩ = w.cell? ⟨b, j, none⟩ := fun j => by unfold World.cell?; rw [hb]
  obtain ⟨h1, h2, h3, h4⟩ := h
  exact ⟨(e _).trans h1, (e _).trans h2, (e _).trans h3, (e _).trans h4⟩
set_option maxHeartbeats 8000000 in
set_option maxRecDepth 100000 in
theorem plays_any (a : Option Addr) (len cap : Nat) (o : Nat → OpV) (w : World) (h : IsOps w a len o) :
    Calls Tryz.prog 3 #[.slice a len cap] w fun e w' => e = .returned (.bool true) ∧ Below w.heap.size w w' := by
  have CW : Hid (∀ W, Calls Tryz.prog 8 #[] W fun e w' => e = .returned (.bool true) ∧ Hid (Below W.heap.size W w')) := fun W => awakeS W
  have HO := hide h
  clear h
  go_enter Tryz.func3, Tryz.ntmps3
  go_wp2_with fail
  refine (kNewS w).mono ?_
  rintro e w1 ⟨c, p, m, ma, ml, me, rfl, HN⟩
  have HL0 := hide (ls_new (unhide HN))
  clear HN
  go_upto_region 2 with fail
  change Code.wp _ _ _ _ (w1.alloc oZ)
  obtain ⟨gb, hgb⟩ : ∃ gb, gb = w1.heap.size := ⟨_, rfl⟩
  rw [← hgb] at HL0
  rw [← hgb]
  clear hgb
  generalize lab (labN c p m ma ml me) gb 0 = L0 at *
  generalize w1.alloc oZ = w2 at *
  go_wp2_with fail
  refine (unhide CW _).mono ?_
  rintro e w3 ⟨rfl, hb⟩
  have HL3 := hide ((unhide HL0).below (unhide hb))
  clear HL0 hb CW
  go_upto_region 5 with fail
  go_loopw [5] (fun s5 W => ∃ i : Nat, s5 = .int .i64 i ∧ Hid (i ≤ 60 ∧ ∃ lk V es vv ev wr L, LS w gb c p m ma ml me lk V es (3 * i) vv ev wr L W)) (fun s5 _ => 60 - (intOf s5).toNat)
  case atStart => exact ⟨0, rfl, by omega, 0, [], [], _, _, 0, L0, unhide HL3⟩
  case round =>
    obtain ⟨i, rfl, HR⟩ := hrel
    clear HL3
    obtain ⟨hi60, lk, V, es, vv, ev, wr0, L1, hls⟩ := unhide HR
    by_cases hlt : i < len ∧ i < 60
    · obtain ⟨hl1, hl2⟩ := hlt
      obtain ⟨b, off, rfl, -, hops⟩ := (unhide HO).resolve_left (by omega)
      obtain ⟨hop, hok⟩ := hops i hl1
      obtain ⟨f0, f1, f2, f3⟩ := opAt_below hop hls.bel
      have hbl := opAt_lt hop
      clear hops
      generalize o i = oi at f0 f1 f2 f3 hok hop
      obtain ⟨k, e, u, v⟩ := oi
      obtain ⟨ok0, ok1, ok2, ok3⟩ := hok
      (try dsimp only at f0 f1 f2 f3 ok0 ok1 ok2 ok3)
      obtain ⟨i1, hi1⟩ : ∃ i1, i1 = i + 1 := ⟨_, rfl⟩
      have HI : Hid (i1 = i + 1 ∧ i < 60 ∧ 3 * i ≤ 180 ∧ 60 - i1 < 60 - i) := ⟨hi1, hl2, by omega, by omega⟩
      have zw : Hid (wrap64 ((i : Int) + 1) = (i1 : Int)) := by show wrap64 ((i : Int) + 1) = (i1 : Int); unfold wrap64; omega
      have y1 : (i : Int) < (len : Int) := by omega
      have y2 : (i : Int) < 60 := by omega
      obtain ⟨va, vc, hv1, -⟩ := brow_shape hls.vs
      obtain ⟨vn, hv1'⟩ : ∃ vn, vv = .slice va vn vc := ⟨_, hv1⟩
      clear hv1
      obtain ⟨ea, en, ec, he1⟩ := grow_shape hls.es_
      subst hv1' he1
      obtain ⟨c0, c1, c2, c3, cf⟩ := cellsG hls.box
      have hls1 := hls.below (below_drewN (Below.refl _ wr) 1)
      have CP := hide (ls_play (k := k) hls1 (by omega) ok1 ok2 ok3)
      have HLS := hide hls1
      have HBG : Hid (b < w.heap.size ∧ w.heap.size ≤ gb) := ⟨hbl, hls.hg⟩
      have HOP : Hid (OpAt wr b (off + i * 4) (k, e, u, v)) := ⟨f0, f1, f2, f3⟩
      clear HR hls hls1 hbl hop ok0 ok1 ok2 ok3 hi60 hl1 hl2 hi1
      go_upto_region 8 with fail
      refine wp_region_noPanic ?_
      refine regionL [8, 9, 10, 11] (fun y => (y.cell? ⟨gb, 0, none⟩ = some (.slice va vn vc) ∧ y.cell? ⟨gb, 1, none⟩ = some (.slice ea en ec) ∧ y.cell? ⟨gb, 2, none⟩ = some (.int .i64 0) ∧ y.cell? ⟨gb, 3, none⟩ = some (.int .i64 wr0)) ∧ y.cell? ⟨b, off + i * 4, none⟩ = some (.int .i64 k) ∧ y.cell? ⟨b, off + i * 4 + 1, none⟩ = some (.int .i64 e) ∧ y.cell? ⟨b, off + i * 4 + 2, none⟩ = some (.int .i64 u) ∧ y.cell? ⟨b, off + i * 4 + 3, none⟩ = some (.int .i64 v)) (by kernel_rfl) ⟨⟨c0, c1, c2, c3⟩, f0, f1, f2, f3⟩ (fun hHeld => ?_)
      refine takeL (i := 0) (v := ?t2v0) (some 26) rfl rfl (by kernel_rfl) (by kernel_rfl) (by kernel_rfl) (by kernel_rfl) (by kernel_rfl) (fun _ _ _ h => h) (Or.inl ⟨by rfl, ?t2h0⟩) (by assumption) ?t2r0
      case t2h0 => (intro y hSu; (try dsimp only at hSu); go_simp; first | done | with_reducible rfl)
      (try simp only [Act.put, List.setIfInBounds_toArray, List.set_cons_zero, List.set_cons_succ])
      refine takeL (i := 1) (v := ?t2v1) (some 27) rfl rfl (by kernel_rfl) (by kernel_rfl) (by kernel_rfl) (by kernel_rfl) (by kernel_rfl) (fun _ _ _ h => h) (Or.inl ⟨by rfl, ?t2h1⟩) (by assumption) ?t2r1
      case t2h1 => (intro y hSu; (try dsimp only at hSu); go_simp; first | done | with_reducible rfl)
      (try simp only [Act.put, List.setIfInBounds_toArray, List.set_cons_zero, List.set_cons_succ])
      refine takeL (i := 2) (v := ?t2v2) (some 28) rfl rfl (by kernel_rfl) (by kernel_rfl) (by kernel_rfl) (by kernel_rfl) (by kernel_rfl) (fun _ _ _ h => h) (Or.inl ⟨by rfl, ?t2h2⟩) (by assumption) ?t2r2
      case t2h2 => (intro y hSu; (try dsimp only at hSu); go_simp; first | done | with_reducible rfl)
      (try simp only [Act.put, List.setIfInBounds_toArray, List.set_cons_zero, List.set_cons_succ])
      refine takeL (i := 3) (v := ?t2v3) (some 29) rfl rfl (by kernel_rfl) (by kernel_rfl) (by kernel_rfl) (by kernel_rfl) (by kernel_rfl) (fun _ _ _ h => h) (Or.inl ⟨by rfl, ?t2h3⟩) (by assumption) ?t2r3
      case t2h3 => (intro y hSu; (try dsimp only at hSu); go_simp; first | done | with_reducible rfl)
      (try simp only [Act.put, List.setIfInBounds_toArray, List.set_cons_zero, List.set_cons_succ])
      refine takeL (i := 4) (v := ?t2v4) (some 30) rfl rfl (by kernel_rfl) (by kernel_rfl) (by kernel_rfl) (by kernel_rfl) (by kernel_rfl) (fun _ _ _ h => h) (Or.inl ⟨by rfl, ?t2h4⟩) (by assumption) ?t2r4
      case t2h4 => (intro y hSu; (try dsimp only at hSu); go_simp; first | done | with_reducible rfl)
      (try simp only [Act.put, List.setIfInBounds_toArray, List.set_cons_zero, List.set_cons_succ])
      refine takeL (i := 5) (v := ?t2v5) (some 31) rfl rfl (by kernel_rfl) (by kernel_rfl) (by kernel_rfl) (by kernel_rfl) (by kernel_rfl) (fun _ _ _ h => h) (Or.inl ⟨by rfl, ?t2h5⟩) (by assumption) ?t2r5
      case t2h5 => (intro y hSu; (try dsimp only at hSu); go_simp; first | done | with_reducible rfl)
      (try simp only [Act.put, List.setIfInBounds_toArray, List.set_cons_zero, List.set_cons_succ])
      refine readyL (i := 6) (by kernel_rfl) rfl (fun K hK => ?_)
      go_simp
      refine (unhide CP).mono ?_
      intro r6 w5 hp
      obtain ⟨vv', ev', wr', V', es', lk', L', rfl, hbx, hls6, hbd, hkeep⟩ := (unhide HLS).play (unhide hp)
      obtain ⟨va', vc', hv1, -⟩ := brow_shape hls6.vs
      obtain ⟨vn', hv1'⟩ : ∃ vn', vv' = .slice va' vn' vc' := ⟨_, hv1⟩
      clear hv1
      obtain ⟨ea', en', ec', he1⟩ := grow_shape hls6.es_
      subst hv1' he1
      clear CP hp hbd c0 c1 c2 c3 cf f0 f1 f2 f3
      obtain ⟨c0, c1, c2, c3, cf⟩ := cellsG hbx
      have HOP5 : Hid (OpAt w5 b (off + i * 4) (k, e, u, v)) := by
        obtain ⟨q1, q2⟩ := unhide HBG
        have hbw : b < (wr.drewN 1).heap.size := Nat.lt_of_lt_of_le q1 (unhide HLS).bel.size
        have hb0 := hkeep b hbw ((unhide HLS).low b q1) (by omega)
        rw [set4_other (show b ≠ gb by omega)] at hb0
        exact opAt_block (show w5.heap[b]? = wr.heap[b]? from hb0) (unhide HOP)
      obtain ⟨w6, hw6⟩ : ∃ w6, w6 = set4 w5 gb (.slice va' vn' vc') (.slice ea' en' ec') (.int .i64 0) (.int .i64 wr') := ⟨_, rfl⟩
      rw [← hw6] at hls6 hkeep
      have HLS6 := hide hls6
      have HW6 := hide hw6
      have HE5 : Hid ((w5.cell? ⟨gb, 0, none⟩ = some (.slice va vn vc) ∧ w5.cell? ⟨gb, 1, none⟩ = some (.slice ea en ec) ∧ w5.cell? ⟨gb, 2, none⟩ = some (.int .i64 0) ∧ w5.cell? ⟨gb, 3, none⟩ = some (.int .i64 wr0)) ∧ w5.cell? ⟨b, off + i * 4, none⟩ = some (.int .i64 k) ∧ w5.cell? ⟨b, off + i * 4 + 1, none⟩ = some (.int .i64 e) ∧ w5.cell? ⟨b, off + i * 4 + 2, none⟩ = some (.int .i64 u) ∧ w5.cell? ⟨b, off + i * 4 + 3, none⟩ = some (.int .i64 v)) := by
        obtain ⟨q0, q1, q2, q3⟩ := unhide HOP5
        exact ⟨⟨c0, c1, c2, c3⟩, q0, q1, q2, q3⟩
      clear hls6 hkeep hbx hw6 HLS HOP HOP5 HBG
      (try dsimp only)
      refine hK.out _ _ (fun _ => (unhide HE5)) ?_
      clear hK K
      (try simp only [Act.put, List.setIfInBounds_toArray, List.set_cons_zero, List.set_cons_succ])
      have hH4 := (unhide HE5)
      have HNX : Hid (i1 ≤ 60 ∧ ∃ lk V es vv ev wr L, LS w gb c p m ma ml me lk V es (3 * i1) vv ev wr L w6) := by
        obtain ⟨q1, q2, q3, q4⟩ := unhide HI
        refine ⟨by omega, lk', V', es', .slice va' vn' vc', .slice ea' en' ec', wr', L', ?_⟩
        have := unhide HLS6
        rw [show 3 * i1 = 3 * i + 3 by omega]
        exact this
      refine takeL (i := 7) (v := ?t5v7) (some 25) rfl rfl (by kernel_rfl) (by kernel_rfl) (by kernel_rfl) (by kernel_rfl) (by kernel_rfl) (fun _ _ _ h => h) (Or.inl ⟨by rfl, ?t5h7⟩) (by assumption) ?t5r7
      case t5h7 => (intro y hSu; (try dsimp only at hSu); go_simp; first | done | with_reducible rfl)
      (try simp only [Act.put, List.setIfInBounds_toArray, List.set_cons_zero, List.set_cons_succ])
      refine readyL2 (i := 8) (k := 9) (by kernel_rfl) rfl rfl (fun K hK => ?_) (fun K hK => ?_)
      · go_simp
        refine hK.out _ _ (fun h => by cases h) ?_
        clear hK K
        (try simp only [Act.put, List.setIfInBounds_toArray, List.set_cons_zero, List.set_cons_succ])
        refine readyL2 (i := 9) (k := 10) (by kernel_rfl) rfl rfl (fun K hK => ?_) (fun K hK => ?_)
        · go_simp
          refine hK.out _ _ (fun h => by cases h) ?_
          clear hK K
          (try simp only [Act.put, List.setIfInBounds_toArray, List.set_cons_zero, List.set_cons_succ])
          refine readyL (i := 10) (by kernel_rfl) rfl (fun K hK => ?_)
          go_simp
          refine hK.out _ _ (fun h => by cases h) ?_
          clear hK K
          (try simp only [Act.put, List.setIfInBounds_toArray, List.set_cons_zero, List.set_cons_succ])
          refine readyL (i := 11) (by kernel_rfl) rfl (fun K hK => ?_)
          go_simp
          refine hK.out _ _ (fun h => by cases h) ?_
          clear hK K
          (try simp only [Act.put, List.setIfInBounds_toArray, List.set_cons_zero, List.set_cons_succ])
          refine doneL (by kernel_rfl) ?_ _
          refine NoPanic.normal ?_
          clear HE5 c0 c1 c2 c3 cf
          rw [show (((w5.setCell ⟨gb, 0, none⟩ (.slice va' vn' vc')).setCell ⟨gb, 1, none⟩ (.slice ea' en' ec')).setCell ⟨gb, 2, none⟩ (.int .i64 0)).setCell ⟨gb, 3, none⟩ (.int .i64 wr') = w6 from (unhide HW6).symm]
          clear HW6
          clear HLS6
          go_wp2_with fail
          (try rw [unhide zw])
          exact ⟨⟨i1, by first | rfl | (rw [(unhide HI).1]; rfl), unhide HNX⟩, by have := (unhide HI).2.2.2; have := (unhide HI).1; simp [intOf]; omega⟩
        · go_simp
          refine hK.out _ _ (fun h => by cases h) ?_
          clear hK K
          (try simp only [Act.put, List.setIfInBounds_toArray, List.set_cons_zero, List.set_cons_succ])
          refine readyL (i := 9) (by kernel_rfl) rfl (fun K hK => ?_)
          go_simp
          refine hK.out _ _ (fun h => by cases h) ?_
          clear hK K
          (try simp only [Act.put, List.setIfInBounds_toArray, List.set_cons_zero, List.set_cons_succ])
          refine readyL (i := 11) (by kernel_rfl) rfl (fun K hK => ?_)
          go_simp
          refine hK.out _ _ (fun h => by cases h) ?_
          clear hK K
          (try simp only [Act.put, List.setIfInBounds_toArray, List.set_cons_zero, List.set_cons_succ])
          refine doneL (by kernel_rfl) ?_ _
          refine NoPanic.normal ?_
          clear HE5 c0 c1 c2 c3 cf
          rw [show (((w5.setCell ⟨gb, 0, none⟩ (.slice va' vn' vc')).setCell ⟨gb, 1, none⟩ (.slice ea' en' ec')).setCell ⟨gb, 2, none⟩ (.int .i64 0)).setCell ⟨gb, 3, none⟩ (.int .i64 wr') = w6 from (unhide HW6).symm]
          clear HW6
          clear HLS6
          go_wp2_with fail
          (try rw [unhide zw])
          exact ⟨⟨i1, by first | rfl | (rw [(unhide HI).1]; rfl), unhide HNX⟩, by have := (unhide HI).2.2.2; have := (unhide HI).1; simp [intOf]; omega⟩
      · go_simp
        refine hK.out _ _ (fun h => by cases h) ?_
        clear hK K
        (try simp only [Act.put, List.setIfInBounds_toArray, List.set_cons_zero, List.set_cons_succ])
        refine readyL (i := 8) (by kernel_rfl) rfl (fun K hK => ?_)
        go_simp
        refine hK.out _ _ (fun h => by cases h) ?_
        clear hK K
        (try simp only [Act.put, List.setIfInBounds_toArray, List.set_cons_zero, List.set_cons_succ])
        refine readyL (i := 10) (by kernel_rfl) rfl (fun K hK => ?_)
        go_simp
        refine hK.out _ _ (fun h => by cases h) ?_
        clear hK K
        (try simp only [Act.put, List.setIfInBounds_toArray, List.set_cons_zero, List.set_cons_succ])
        refine readyL (i := 11) (by kernel_rfl) rfl (fun K hK => ?_)
        go_simp
        refine hK.out _ _ (fun h => by cases h) ?_
        clear hK K
        (try simp only [Act.put, List.setIfInBounds_toArray, List.set_cons_zero, List.set_cons_succ])
        refine doneL (by kernel_rfl) ?_ _
        refine NoPanic.normal ?_
        clear HE5 c0 c1 c2 c3 cf
        rw [show (((w5.setCell ⟨gb, 0, none⟩ (.slice va' vn' vc')).setCell ⟨gb, 1, none⟩ (.slice ea' en' ec')).setCell ⟨gb, 2, none⟩ (.int .i64 0)).setCell ⟨gb, 3, none⟩ (.int .i64 wr') = w6 from (unhide HW6).symm]
        clear HW6
        clear HLS6
        go_wp2_with fail
        (try rw [unhide zw])
        exact ⟨⟨i1, by first | rfl | (rw [(unhide HI).1]; rfl), unhide HNX⟩, by have := (unhide HI).2.2.2; have := (unhide HI).1; simp [intOf]; omega⟩
    · obtain ⟨va, vc, hv1, -⟩ := brow_shape hls.vs
      obtain ⟨vn, hv1'⟩ : ∃ vn, vv = .slice va vn vc := ⟨_, hv1⟩
      clear hv1
      obtain ⟨ea, en, ec, he1⟩ := grow_shape hls.es_
      subst hv1' he1
      obtain ⟨c0, c1, c2, c3, cf⟩ := cellsG hls.box
      have HLS := hide hls
      have HI60 : Hid (3 * i ≤ 180) := by show 3 * i ≤ 180; omega
      clear HR hls
      by_cases hl1 : i < len
      · have y1 : (i : Int) < (len : Int) := by omega
        have y2 : ¬ (i : Int) < 60 := by omega
        clear hlt hl1 hi60
        have CQ := hide (wholeS (rd := 0) (wr_0 := wr0) (unhide HLS).k (unhide HLS).g (by have := unhide HI60; omega) (unhide HLS).vs (unhide HLS).es_)
        have HB := hide (unhide HLS).bel
        clear HLS HI60
        go_wp2_with fail
        refine (unhide CQ).mono ?_
        rintro e w9 ⟨rfl, hb9⟩
        have HE : Hid (Below w.heap.size w w9) := (unhide HB).trans ((unhide hb9).mono (unhide HB).size)
        clear CQ hb9 HB c0 c1 c2 c3 cf
        go_wp2_with fail
        go_ret
        exact ⟨rfl, unhide HE⟩
      · have y1 : ¬ (i : Int) < (len : Int) := by omega
        clear hlt hl1 hi60
        have CQ := hide (wholeS (rd := 0) (wr_0 := wr0) (unhide HLS).k (unhide HLS).g (by have := unhide HI60; omega) (unhide HLS).vs (unhide HLS).es_)
        have HB := hide (unhide HLS).bel
        clear HLS HI60
        go_wp2_with fail
        refine (unhide CQ).mono ?_
        rintro e w9 ⟨rfl, hb9⟩
        have HE : Hid (Below w.heap.size w w9) := (unhide HB).trans ((unhide hb9).mono (unhide HB).size)
        clear CQ hb9 HB c0 c1 c2 c3 cf
        go_wp2_with fail
        go_ret
        exact ⟨rfl, unhide HE⟩
end Go.Proofs.YtkmhcgmmbkchaaaGreat
