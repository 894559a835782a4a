/- CondOwn, walked. -/
import Derived.Test.YtkmhcgmmbkchaaaGreatLawM10
import Derived.Test.YtkmhcgmmbkchaaaGreatOwnN10
namespace Go.Proofs.YtkmhcgmmbkchaaaGreat
open Go.RowKit Go.Maps T9
set_option maxHeartbeats 8000000 in
set_option maxRecDepth 100000 in
theorem own_any (a : Option Addr) (len cap : Nat) (o : Nat → OpV) (x : Int) (w : World) (h : IsOps w a len o) (hx : okN x) :
    Calls Tryz.prog 6 #[.slice a len cap, .int .i64 x] w fun e w' => e = .returned (.bool true) ∧ Below w.heap.size w w' := by
  have CW : Hid (∀ W, Calls Tryz.prog 8 #[] W fun e w' => e = .returned (.bool true) ∧ Hid (Below W.heap.size W w')) := fun W => awakeS W
  have HO := hide h
  have HXX := hide hx
  clear hx
  clear h
  go_enter Tryz.func6, Tryz.ntmps6
  go_wp2_with fail
  refine (kNewS w).mono ?_
  rintro e w1 ⟨c, p, m, ma, ml, me, rfl, HN⟩
  have HL0 := hide (ls_new (unhide HN))
  clear HN
  go_upto_region 2 with fail
  change Code.wp _ _ _ _ (w1.alloc oZ)
  obtain ⟨gb, hgb⟩ : ∃ gb, gb = w1.heap.size := ⟨_, rfl⟩
  rw [← hgb] at HL0
  rw [← hgb]
  clear hgb
  generalize lab (labN c p m ma ml me) gb 0 = L0 at *
  generalize w1.alloc oZ = w2 at *
  go_wp2_with fail
  refine (unhide CW _).mono ?_
  rintro e w3 ⟨rfl, hb⟩
  have HL3 := hide ((unhide HL0).below (unhide hb))
  clear HL0 hb CW
  go_upto_region 5 with fail
  go_loopw [7] (fun s5 W => ∃ i : Nat, s5 = .int .i64 i ∧ Hid (i ≤ 60 ∧ ∃ lk V es vv ev wr L, LS w gb c p m ma ml me lk V es (3 * i) vv ev wr L W)) (fun s5 _ => 60 - (intOf s5).toNat)
  case atStart => exact ⟨0, rfl, by omega, 0, [], [], _, _, 0, L0, unhide HL3⟩
  case round =>
    obtain ⟨i, rfl, HR⟩ := hrel
    clear HL3
    obtain ⟨hi60, lk, V, es, vv, ev, wr0, L1, hls⟩ := unhide HR
    by_cases hlt : i < len ∧ i < 60
    · obtain ⟨hl1, hl2⟩ := hlt
      obtain ⟨b, off, rfl, -, hops⟩ := (unhide HO).resolve_left (by omega)
      obtain ⟨hop, hok⟩ := hops i hl1
      obtain ⟨f0, f1, f2, f3⟩ := opAt_below hop hls.bel
      have hbl := opAt_lt hop
      clear hops
      generalize o i = oi at f0 f1 f2 f3 hok hop
      obtain ⟨k, e, u, v⟩ := oi
      obtain ⟨ok0, ok1, ok2, ok3⟩ := hok
      (try dsimp only at f0 f1 f2 f3 ok0 ok1 ok2 ok3)
      obtain ⟨i1, hi1⟩ : ∃ i1, i1 = i + 1 := ⟨_, rfl⟩
      have HI : Hid (i1 = i + 1 ∧ i < 60 ∧ 3 * i ≤ 180 ∧ 60 - i1 < 60 - i) := ⟨hi1, hl2, by omega, by omega⟩
      have zw : Hid (wrap64 ((i : Int) + 1) = (i1 : Int)) := by show wrap64 ((i : Int) + 1) = (i1 : Int); unfold wrap64; omega
      have y1 : (i : Int) < (len : Int) := by omega
      have y2 : (i : Int) < 60 := by omega
      obtain ⟨va, vc, hv1, -⟩ := brow_shape hls.vs
      obtain ⟨vn, hv1'⟩ : ∃ vn, vv = .slice va vn vc := ⟨_, hv1⟩
      clear hv1
      obtain ⟨ea, en, ec, he1⟩ := grow_shape hls.es_
      subst hv1' he1
      obtain ⟨c0, c1, c2, c3, cf⟩ := cellsG hls.box
      have hls1 := hls.below (below_drewN (Below.refl _ wr) 1)
      have CP := hide (ls_play (k := k) hls1 (by omega) ok1 ok2 ok3)
      have HLS := hide hls1
      have HBG : Hid (b < w.heap.size ∧ w.heap.size ≤ gb) := ⟨hbl, hls.hg⟩
      have HOP : Hid (OpAt wr b (off + i * 4) (k, e, u, v)) := ⟨f0, f1, f2, f3⟩
      clear HR hls hls1 hbl hop ok0 ok1 ok2 ok3 hi60 hl1 hl2 hi1
      go_upto_region 8 with fail
      refine wp_region_noPanic ?_
      refine regionL [8, 9, 10, 11] (fun y => (y.cell? ⟨gb, 0, none⟩ = some (.slice va vn vc) ∧ y.cell? ⟨gb, 1, none⟩ = some (.slice ea en ec) ∧ y.cell? ⟨gb, 2, none⟩ = some (.int .i64 0) ∧ y.cell? ⟨gb, 3, none⟩ = some (.int .i64 wr0)) ∧ y.cell? ⟨b, off + i * 4, none⟩ = some (.int .i64 k) ∧ y.cell? ⟨b, off + i * 4 + 1, none⟩ = some (.int .i64 e) ∧ y.cell? ⟨b, off + i * 4 + 2, none⟩ = some (.int .i64 u) ∧ y.cell? ⟨b, off + i * 4 + 3, none⟩ = some (.int .i64 v)) (by kernel_rfl) ⟨⟨c0, c1, c2, c3⟩, f0, f1, f2, f3⟩ (fun hHeld => ?_)
      refine takeL (i := 0) (v := ?t2v0) (some 38) rfl rfl (by kernel_rfl) (by kernel_rfl) (by kernel_rfl) (by kernel_rfl) (by kernel_rfl) (fun _ _ _ h => h) (Or.inl ⟨by rfl, ?t2h0⟩) (by assumption) ?t2r0
      case t2h0 => (intro y hSu; (try dsimp only at hSu); go_simp; first | done | with_reducible rfl)
      (try simp only [Act.put, List.setIfInBounds_toArray, List.set_cons_zero, List.set_cons_succ])
      refine takeL (i := 1) (v := ?t2v1) (some 39) rfl rfl (by kernel_rfl) (by kernel_rfl) (by kernel_rfl) (by kernel_rfl) (by kernel_rfl) (fun _ _ _ h => h) (Or.inl ⟨by rfl, ?t2h1⟩) (by assumption) ?t2r1
      case t2h1 => (intro y hSu; (try dsimp only at hSu); go_simp; first | done | with_reducible rfl)
      (try simp only [Act.put, List.setIfInBounds_toArray, List.set_cons_zero, List.set_cons_succ])
      refine takeL (i := 2) (v := ?t2v2) (some 40) rfl rfl (by kernel_rfl) (by kernel_rfl) (by kernel_rfl) (by kernel_rfl) (by kernel_rfl) (fun _ _ _ h => h) (Or.inl ⟨by rfl, ?t2h2⟩) (by assumption) ?t2r2
      case t2h2 => (intro y hSu; (try dsimp only at hSu); go_simp; first | done | with_reducible rfl)
      (try simp only [Act.put, List.setIfInBounds_toArray, List.set_cons_zero, List.set_cons_succ])
      refine takeL (i := 3) (v := ?t2v3) (some 41) rfl rfl (by kernel_rfl) (by kernel_rfl) (by kernel_rfl) (by kernel_rfl) (by kernel_rfl) (fun _ _ _ h => h) (Or.inl ⟨by rfl, ?t2h3⟩) (by assumption) ?t2r3
      case t2h3 => (intro y hSu; (try dsimp only at hSu); go_simp; first | done | with_reducible rfl)
      (try simp only [Act.put, List.setIfInBounds_toArray, List.set_cons_zero, List.set_cons_succ])
      refine takeL (i := 4) (v := ?t2v4) (some 42) rfl rfl (by kernel_rfl) (by kernel_rfl) (by kernel_rfl) (by kernel_rfl) (by kernel_rfl) (fun _ _ _ h => h) (Or.inl ⟨by rfl, ?t2h4⟩) (by assumption) ?t2r4
      case t2h4 => (intro y hSu; (try dsimp only at hSu); go_simp; first | done | with_reducible rfl)
      (try simp only [Act.put, List.setIfInBounds_toArray, List.set_cons_zero, List.set_cons_succ])
      refine takeL (i := 5) (v := ?t2v5) (some 43) rfl rfl (by kernel_rfl) (by kernel_rfl) (by kernel_rfl) (by kernel_rfl) (by kernel_rfl) (fun _ _ _ h => h) (Or.inl ⟨by rfl, ?t2h5⟩) (by assumption) ?t2r5
      case t2h5 => (intro y hSu; (try dsimp only at hSu); go_simp; first | done | with_reducible rfl)
      (try simp only [Act.put, List.setIfInBounds_toArray, List.set_cons_zero, List.set_cons_succ])
      refine readyL (i := 6) (by kernel_rfl) rfl (fun K hK => ?_)
      go_simp
      refine (unhide CP).mono ?_
      intro r6 w5 hp
      obtain ⟨vv', ev', wr', V', es', lk', L', rfl, hbx, hls6, hbd, hkeep⟩ := (unhide HLS).play (unhide hp)
      obtain ⟨va', vc', hv1, -⟩ := brow_shape hls6.vs
      obtain ⟨vn', hv1'⟩ : ∃ vn', vv' = .slice va' vn' vc' := ⟨_, hv1⟩
      clear hv1
      obtain ⟨ea', en', ec', he1⟩ := grow_shape hls6.es_
      subst hv1' he1
      clear CP hp hbd c0 c1 c2 c3 cf f0 f1 f2 f3
      obtain ⟨c0, c1, c2, c3, cf⟩ := cellsG hbx
      have HOP5 : Hid (OpAt w5 b (off + i * 4) (k, e, u, v)) := by
        obtain ⟨q1, q2⟩ := unhide HBG
        have hbw : b < (wr.drewN 1).heap.size := Nat.lt_of_lt_of_le q1 (unhide HLS).bel.size
        have hb0 := hkeep b hbw ((unhide HLS).low b q1) (by omega)
        rw [set4_other (show b ≠ gb by omega)] at hb0
        exact opAt_block (show w5.heap[b]? = wr.heap[b]? from hb0) (unhide HOP)
      obtain ⟨w6, hw6⟩ : ∃ w6, w6 = set4 w5 gb (.slice va' vn' vc') (.slice ea' en' ec') (.int .i64 0) (.int .i64 wr') := ⟨_, rfl⟩
      rw [← hw6] at hls6 hkeep
      have HLS6 := hide hls6
      have HW6 := hide hw6
      have HE5 : Hid ((w5.cell? ⟨gb, 0, none⟩ = some (.slice va vn vc) ∧ w5.cell? ⟨gb, 1, none⟩ = some (.slice ea en ec) ∧ w5.cell? ⟨gb, 2, none⟩ = some (.int .i64 0) ∧ w5.cell? ⟨gb, 3, none⟩ = some (.int .i64 wr0)) ∧ w5.cell? ⟨b, off + i * 4, none⟩ = some (.int .i64 k) ∧ w5.cell? ⟨b, off + i * 4 + 1, none⟩ = some (.int .i64 e) ∧ w5.cell? ⟨b, off + i * 4 + 2, none⟩ = some (.int .i64 u) ∧ w5.cell? ⟨b, off + i * 4 + 3, none⟩ = some (.int .i64 v)) := by
        obtain ⟨q0, q1, q2, q3⟩ := unhide HOP5
        exact ⟨⟨c0, c1, c2, c3⟩, q0, q1, q2, q3⟩
      clear hls6 hkeep hbx hw6 HLS HOP HOP5 HBG
      (try dsimp only)
      refine hK.out _ _ (fun _ => (unhide HE5)) ?_
      clear hK K
      (try simp only [Act.put, List.setIfInBounds_toArray, List.set_cons_zero, List.set_cons_succ])
      have hH4 := (unhide HE5)
      have HNX : Hid (i1 ≤ 60 ∧ ∃ lk V es vv ev wr L, LS w gb c p m ma ml me lk V es (3 * i1) vv ev wr L w6) := by
        obtain ⟨q1, q2, q3, q4⟩ := unhide HI
        refine ⟨by omega, lk', V', es', .slice va' vn' vc', .slice ea' en' ec', wr', L', ?_⟩
        have := unhide HLS6
        rw [show 3 * i1 = 3 * i + 3 by omega]
        exact this
      refine takeL (i := 7) (v := ?t5v7) (some 37) rfl rfl (by kernel_rfl) (by kernel_rfl) (by kernel_rfl) (by kernel_rfl) (by kernel_rfl) (fun _ _ _ h => h) (Or.inl ⟨by rfl, ?t5h7⟩) (by assumption) ?t5r7
      case t5h7 => (intro y hSu; (try dsimp only at hSu); go_simp; first | done | with_reducible rfl)
      (try simp only [Act.put, List.setIfInBounds_toArray, List.set_cons_zero, List.set_cons_succ])
      refine readyL2 (i := 8) (k := 9) (by kernel_rfl) rfl rfl (fun K hK => ?_) (fun K hK => ?_)
      · go_simp
        refine hK.out _ _ (fun h => by cases h) ?_
        clear hK K
        (try simp only [Act.put, List.setIfInBounds_toArray, List.set_cons_zero, List.set_cons_succ])
        refine readyL2 (i := 9) (k := 10) (by kernel_rfl) rfl rfl (fun K hK => ?_) (fun K hK => ?_)
        · go_simp
          refine hK.out _ _ (fun h => by cases h) ?_
          clear hK K
          (try simp only [Act.put, List.setIfInBounds_toArray, List.set_cons_zero, List.set_cons_succ])
          refine readyL (i := 10) (by kernel_rfl) rfl (fun K hK => ?_)
          go_simp
          refine hK.out _ _ (fun h => by cases h) ?_
          clear hK K
          (try simp only [Act.put, List.setIfInBounds_toArray, List.set_cons_zero, List.set_cons_succ])
          refine readyL (i := 11) (by kernel_rfl) rfl (fun K hK => ?_)
          go_simp
          refine hK.out _ _ (fun h => by cases h) ?_
          clear hK K
          (try simp only [Act.put, List.setIfInBounds_toArray, List.set_cons_zero, List.set_cons_succ])
          refine doneL (by kernel_rfl) ?_ _
          refine NoPanic.normal ?_
          clear HE5 c0 c1 c2 c3 cf
          rw [show (((w5.setCell ⟨gb, 0, none⟩ (.slice va' vn' vc')).setCell ⟨gb, 1, none⟩ (.slice ea' en' ec')).setCell ⟨gb, 2, none⟩ (.int .i64 0)).setCell ⟨gb, 3, none⟩ (.int .i64 wr') = w6 from (unhide HW6).symm]
          clear HW6
          clear HLS6
          go_wp2_with fail
          (try rw [unhide zw])
          exact ⟨⟨i1, by first | rfl | (rw [(unhide HI).1]; rfl), unhide HNX⟩, by have := (unhide HI).2.2.2; have := (unhide HI).1; simp [intOf]; omega⟩
        · go_simp
          refine hK.out _ _ (fun h => by cases h) ?_
          clear hK K
          (try simp only [Act.put, List.setIfInBounds_toArray, List.set_cons_zero, List.set_cons_succ])
          refine readyL (i := 9) (by kernel_rfl) rfl (fun K hK => ?_)
          go_simp
          refine hK.out _ _ (fun h => by cases h) ?_
          clear hK K
          (try simp only [Act.put, List.setIfInBounds_toArray, List.set_cons_zero, List.set_cons_succ])
          refine readyL (i := 11) (by kernel_rfl) rfl (fun K hK => ?_)
          go_simp
          refine hK.out _ _ (fun h => by cases h) ?_
          clear hK K
          (try simp only [Act.put, List.setIfInBounds_toArray, List.set_cons_zero, List.set_cons_succ])
          refine doneL (by kernel_rfl) ?_ _
          refine NoPanic.normal ?_
          clear HE5 c0 c1 c2 c3 cf
          rw [show (((w5.setCell ⟨gb, 0, none⟩ (.slice va' vn' vc')).setCell ⟨gb, 1, none⟩ (.slice ea' en' ec')).setCell ⟨gb, 2, none⟩ (.int .i64 0)).setCell ⟨gb, 3, none⟩ (.int .i64 wr') = w6 from (unhide HW6).symm]
          clear HW6
          clear HLS6
          go_wp2_with fail
          (try rw [unhide zw])
          exact ⟨⟨i1, by first | rfl | (rw [(unhide HI).1]; rfl), unhide HNX⟩, by have := (unhide HI).2.2.2; have := (unhide HI).1; simp [intOf]; omega⟩
      · go_simp
        refine hK.out _ _ (fun h => by cases h) ?_
        clear hK K
        (try simp only [Act.put, List.setIfInBounds_toArray, List.set_cons_zero, List.set_cons_succ])
        refine readyL (i := 8) (by kernel_rfl) rfl (fun K hK => ?_)
        go_simp
        refine hK.out _ _ (fun h => by cases h) ?_
        clear hK K
        (try simp only [Act.put, List.setIfInBounds_toArray, List.set_cons_zero, List.set_cons_succ])
        refine readyL (i := 10) (by kernel_rfl) rfl (fun K hK => ?_)
        go_simp
        refine hK.out _ _ (fun h => by cases h) ?_
        clear hK K
        (try simp only [Act.put, List.setIfInBounds_toArray, List.set_cons_zero, List.set_cons_succ])
        refine readyL (i := 11) (by kernel_rfl) rfl (fun K hK => ?_)
        go_simp
        refine hK.out _ _ (fun h => by cases h) ?_
        clear hK K
        (try simp only [Act.put, List.setIfInBounds_toArray, List.set_cons_zero, List.set_cons_succ])
        refine doneL (by kernel_rfl) ?_ _
        refine NoPanic.normal ?_
        clear HE5 c0 c1 c2 c3 cf
        rw [show (((w5.setCell ⟨gb, 0, none⟩ (.slice va' vn' vc')).setCell ⟨gb, 1, none⟩ (.slice ea' en' ec')).setCell ⟨gb, 2, none⟩ (.int .i64 0)).setCell ⟨gb, 3, none⟩ (.int .i64 wr') = w6 from (unhide HW6).symm]
        clear HW6
        clear HLS6
        go_wp2_with fail
        (try rw [unhide zw])
        exact ⟨⟨i1, by first | rfl | (rw [(unhide HI).1]; rfl), unhide HNX⟩, by have := (unhide HI).2.2.2; have := (unhide HI).1; simp [intOf]; omega⟩
    · obtain ⟨va, vc, hv1, -⟩ := brow_shape hls.vs
      obtain ⟨vn, hv1'⟩ : ∃ vn, vv = .slice va vn vc := ⟨_, hv1⟩
      clear hv1
      obtain ⟨ea, en, ec, he1⟩ := grow_shape hls.es_
      subst hv1' he1
      obtain ⟨c0, c1, c2, c3, cf⟩ := cellsG hls.box
      have HLS := hide hls
      have HI60 : Hid (3 * i ≤ 180) := by show 3 * i ≤ 180; omega
      clear HR hls
      by_cases hl1 : i < len
      · have y1 : (i : Int) < (len : Int) := by omega
        have y2 : ¬ (i : Int) < 60 := by omega
        clear hlt hl1 hi60
        clear c0 c1 c2 c3 cf
        obtain ⟨W0, hW0⟩ : ∃ W0, W0 = wr := ⟨_, rfl⟩
        rw [← hW0] at HLS ⊢
        clear hW0 wr
        obtain ⟨h0, H⟩ := heads_ex (nextOf V (arcsE es)) V.length
        obtain ⟨hsl, hhsl⟩ : ∃ hsl, hsl = hdsOf (compsV V h0 V.length) := ⟨_, rfl⟩
        obtain ⟨asl, hasl⟩ : ∃ asl, asl = arcA (compsV V h0 V.length) es (compsV V h0 V.length).length := ⟨_, rfl⟩
        obtain ⟨msl, hml, hmll⟩ := memL_ex (unhide HLS) (by have := unhide HI60; omega) x
        have CM : Hid (∀ W, Below W0.heap.size W0 W → Calls Tryz.prog 11 #[.pointer (some ⟨c, 0, none⟩), .int .i64 x] W fun e w' => ∃ a n c', e = .returned (.slice a n c') ∧ Hid (BRow W.heap.size w' (.slice a n c') msl ∧ Below W.heap.size W w')) := fun W hW => by
          refine (ls_memL ((unhide HLS).below hW) (by have := unhide HI60; omega) (unhide HXX)).mono ?_
          rintro e w' ⟨a, n, c', rfl, hq⟩
          obtain ⟨ms, q1, -, q3, q4⟩ := unhide hq
          obtain rfl := q1.uni hml
          exact ⟨a, n, c', rfl, q3, q4⟩
        have CH : Hid (∀ W, Below W0.heap.size W0 W → Calls Tryz.prog 18 #[.pointer (some ⟨c, 0, none⟩)] W fun e w' => ∃ a n c', e = .returned (.slice a n c') ∧ Hid (BRow W.heap.size w' (.slice a n c') hsl ∧ Below W.heap.size W w')) := fun W hW => by
          rw [hhsl]
          exact ls_hds ((unhide HLS).below hW) (by have := unhide HI60; omega) H
        have CA : Hid (∀ W, Below W0.heap.size W0 W → Calls Tryz.prog 20 #[.pointer (some ⟨c, 0, none⟩)] W fun e w' => ∃ a n c', e = .returned (.slice a n c') ∧ Hid (ABRow W.heap.size w' (.slice a n c') asl ∧ asl.length ≤ 900 ∧ Below W.heap.size W w')) := fun W hW => by
          refine (ls_arcs ((unhide HLS).below hW) (by have := unhide HI60; omega) H).mono ?_
          rintro e w' ⟨a, n, c', rfl, hq⟩
          obtain ⟨q1, q2, q3⟩ := unhide hq
          rw [← hasl] at q1 q2
          exact ⟨a, n, c', rfl, q1, by have := unhide HI60; omega, q3⟩
        have HHL : Hid (hsl.length ≤ 900 ∧ msl.length ≤ 900) := ⟨by
          rw [hhsl]
          have q := outR_len V h0 V.length V.length
          rw [outR_all] at q
          unfold hdsOf
          rw [List.length_map]
          have := (unhide HLS).g.lenV
          have := unhide HI60
          omega, hmll⟩
        clear H hhsl hasl hml hmll
        go_wp2_with fail
        refine (unhide CM _ (Below.refl _ _)).mono ?_
        rintro e W1 ⟨la, ln, lc, rfl, Q1⟩
        have B1 := hide (unhide Q1).2
        go_wp2_with fail
        refine (unhide CH _ (unhide B1)).mono ?_
        rintro e W2 ⟨ha, hn, hc, rfl, Q2⟩
        have B2 : Hid (Below W0.heap.size W0 W2) := (unhide B1).trans ((unhide Q2).2.mono (unhide B1).size)
        go_wp2_with fail
        refine (unhide CA _ (unhide B2)).mono ?_
        rintro e W3 ⟨aa, an, ac, rfl, Q3⟩
        have B3 : Hid (Below W0.heap.size W0 W3) := (unhide B2).trans ((unhide Q3).2.2.mono (unhide B2).size)
        go_wp2_with fail
        refine (unhide CM _ (unhide B3)).mono ?_
        rintro e W4 ⟨ma', mn, mc, rfl, Q4⟩
        have B4 : Hid (Below W0.heap.size W0 W4) := (unhide B3).trans ((unhide Q4).2.mono (unhide B3).size)
        go_wp2_with fail
        refine (unhide CH _ (unhide B4)).mono ?_
        rintro e W5 ⟨ia, inn, ic, rfl, Q5⟩
        have B5 : Hid (Below W0.heap.size W0 W5) := (unhide B4).trans ((unhide Q5).2.mono (unhide B4).size)
        go_wp2_with fail
        refine (unhide CA _ (unhide B5)).mono ?_
        rintro e W6 ⟨ba, bn, bc, rfl, Q6⟩
        have HO6 := hide (o6_start (unhide Q1).2 (unhide Q1).1 (unhide Q2).2 (unhide Q2).1 (unhide Q3).2.2 (unhide Q3).1 (unhide Q4).2 (unhide Q4).1 (unhide Q5).2 (unhide Q5).1 (unhide Q6).2.2 (unhide Q6).1)
        have HLN : Hid (ln = msl.length ∧ hn = hsl.length ∧ an = asl.length ∧ asl.length ≤ 900) := ⟨brow_len (unhide Q1).1, brow_len (unhide Q2).1, abrow_len (unhide Q3).1, (unhide Q3).2.1⟩
        clear Q1 Q2 Q3 Q4 Q5 Q6 B1 B2 B3 B4 B5
        have HQ : Hid (QO W0 (.slice la ln lc) (.slice ha hn hc) (.slice aa an ac) (.slice ma' mn mc) (.slice ia inn ic) (.slice ba bn bc) ln hn an msl hsl asl W6) := ⟨msl, hsl, asl, _, (unhide HLN).1.symm, (unhide HLN).2.1.symm, (unhide HLN).2.2.1.symm, unhide HO6⟩
        have HMN : Hid (mn = ln ∧ inn = hn ∧ bn = an) := by
          obtain ⟨q1, q2, q3, -⟩ := unhide HLN
          have e1 := brow_len (unhide HO6).m
          have e2 := brow_len (unhide HO6).i
          have e3 := abrow_len (unhide HO6).b
          exact ⟨by omega, by omega, by omega⟩
        clear HO6
        go_upto_region 14 with fail
        go_loopw [65] (fun s5 W => ∃ k : Nat, s5 = .int .i64 k ∧ k ≤ ln ∧ Hid (QO W0 (.slice la ln lc) (.slice ha hn hc) (.slice aa an ac) (.slice ma' mn mc) (.slice ia inn ic) (.slice ba bn bc) ln hn an msl hsl asl W)) (fun s5 _ => ln - (intOf s5).toNat)
        case atStart => exact ⟨0, rfl, Nat.zero_le _, HQ⟩
        case round =>
          obtain ⟨k, rfl, hk, HQ⟩ := hrel
          by_cases hlt : k < ln
          · obtain ⟨g, y, hg, f1, f2, hq⟩ := (unhide HQ).setL hlt rfl (-1)
            subst hg
            have z1 : (k : Int) < (ln : Int) := by omega
            obtain ⟨k1, hk1⟩ : ∃ k1, k1 = k + 1 := ⟨_, rfl⟩
            have zk : Hid (wrap64 ((k : Int) + 1) = (k1 : Int)) := by
              have := unhide HLN
              have := unhide HHL
              show wrap64 ((k : Int) + 1) = (k1 : Int); unfold wrap64; omega
            have HI : Hid (k1 ≤ ln ∧ ln - k1 < ln - k) := ⟨by omega, by omega⟩
            have HD := hide hq
            clear HQ hq hk hlt hk1
            go_wp2_with fail
            (try rw [unhide zk])
            exact ⟨⟨k1, rfl, (unhide HI).1, HD⟩, by have := (unhide HI).2; simp [intOf]; omega⟩
          · have z1 : ¬ (k : Int) < (ln : Int) := by omega
            clear hk hlt
            go_upto_region 19 with fail
            go_loopw [74] (fun s5 W => ∃ k : Nat, s5 = .int .i64 k ∧ k ≤ hn ∧ Hid (QO W0 (.slice la ln lc) (.slice ha hn hc) (.slice aa an ac) (.slice ma' mn mc) (.slice ia inn ic) (.slice ba bn bc) ln hn an msl hsl asl W)) (fun s5 _ => hn - (intOf s5).toNat)
            case atStart => exact ⟨0, rfl, Nat.zero_le _, HQ⟩
            case round =>
              obtain ⟨k, rfl, hk, HQ⟩ := hrel
              by_cases hlt : k < hn
              · obtain ⟨g, y, hg, f1, f2, hq⟩ := (unhide HQ).setH hlt rfl (-2)
                subst hg
                have z1 : (k : Int) < (hn : Int) := by omega
                obtain ⟨k1, hk1⟩ : ∃ k1, k1 = k + 1 := ⟨_, rfl⟩
                have zk : Hid (wrap64 ((k : Int) + 1) = (k1 : Int)) := by
                  have := unhide HLN
                  have := unhide HHL
                  show wrap64 ((k : Int) + 1) = (k1 : Int); unfold wrap64; omega
                have HI : Hid (k1 ≤ hn ∧ hn - k1 < hn - k) := ⟨by omega, by omega⟩
                have HD := hide hq
                clear HQ hq hk hlt hk1
                go_wp2_with fail
                (try rw [unhide zk])
                exact ⟨⟨k1, rfl, (unhide HI).1, HD⟩, by have := (unhide HI).2; simp [intOf]; omega⟩
              · have z1 : ¬ (k : Int) < (hn : Int) := by omega
                clear hk hlt
                go_upto_region 24 with fail
                go_loopw [83] (fun s5 W => ∃ k : Nat, s5 = .int .i64 k ∧ k ≤ an ∧ Hid (QO W0 (.slice la ln lc) (.slice ha hn hc) (.slice aa an ac) (.slice ma' mn mc) (.slice ia inn ic) (.slice ba bn bc) ln hn an msl hsl asl W)) (fun s5 _ => an - (intOf s5).toNat)
                case atStart => exact ⟨0, rfl, Nat.zero_le _, HQ⟩
                case round =>
                  obtain ⟨k, rfl, hk, HQ⟩ := hrel
                  by_cases hlt : k < an
                  · obtain ⟨g, y, yy, hg, f1, f3, f2, hq⟩ := (unhide HQ).setA hlt rfl (-3) 0
                    subst hg
                    have z1 : (k : Int) < (an : Int) := by omega
                    obtain ⟨k1, hk1⟩ : ∃ k1, k1 = k + 1 := ⟨_, rfl⟩
                    have zk : Hid (wrap64 ((k : Int) + 1) = (k1 : Int)) := by
                      have := unhide HLN
                      have := unhide HHL
                      show wrap64 ((k : Int) + 1) = (k1 : Int); unfold wrap64; omega
                    have HI : Hid (k1 ≤ an ∧ an - k1 < an - k) := ⟨by omega, by omega⟩
                    have HD := hide hq
                    clear HQ hq hk hlt hk1
                    go_wp2_with fail
                    (try rw [unhide zk])
                    exact ⟨⟨k1, rfl, (unhide HI).1, HD⟩, by have := (unhide HI).2; simp [intOf]; omega⟩
                  · have z1 : ¬ (k : Int) < (an : Int) := by omega
                    clear hk hlt
                    have HA0 := hide (unhide HQ).start
                    clear HQ
                    go_upto_region 29 with fail
                    go_loopw [18, 9, 10, 11] (fun s18 s9 s10 s11 W => ∃ (k : Nat) (a1 : Option Addr) (n1 c1 : Nat) (a2 : Option Addr) (n2 c2 : Nat) (a3 : Option Addr) (n3 c3 : Nat), s18 = .int .i64 k ∧ s9 = .slice a1 n1 c1 ∧ s10 = .slice a2 n2 c2 ∧ s11 = .slice a3 n3 c3 ∧ k ≤ 20 ∧ Hid (QA W0 (.slice a1 n1 c1) (.slice a2 n2 c2) (.slice a3 n3 c3) (.slice ma' mn mc) (.slice ia inn ic) (.slice ba bn bc) ln hn an k msl hsl asl W)) (fun s18 _ _ _ _ => 20 - (intOf s18).toNat)
                    case atStart => exact ⟨0, _, _, _, _, _, _, _, _, _, rfl, rfl, rfl, rfl, by omega, HA0⟩
                    case round =>
                      obtain ⟨k, a1, n1, c1, a2, n2, c2, a3, n3, c3, rfl, rfl, rfl, rfl, hk, HA⟩ := hrel
                      clear HA0
                      by_cases hlt : k < 20
                      · have z1 : (k : Int) < 20 := by omega
                        obtain ⟨k1, hk1⟩ : ∃ k1, k1 = k + 1 := ⟨_, rfl⟩
                        have zk : Hid (wrap64 ((k : Int) + 1) = (k1 : Int)) := by show wrap64 ((k : Int) + 1) = (k1 : Int); unfold wrap64; omega
                        have HI : Hid (k1 = k + 1 ∧ k1 ≤ 20 ∧ 20 - k1 < 20 - k) := ⟨hk1, by omega, by omega⟩
                        obtain ⟨x1, m1, d1, w1, x2, m2, d2, w2, x3, m3, d3, w3, r1, r2, r3, hq⟩ := (unhide HA).app (by have := unhide HLN; have := unhide HHL; omega) (by have := unhide HLN; have := unhide HHL; omega) (by have := unhide HLN; omega) hk
                        rw [← hk1] at hq
                        have HD := hide hq
                        have HR1 := hide r1
                        have HR2 := hide r2
                        have HR3 := hide r3
                        clear HA hq hk hlt hk1 r1 r2 r3
                        go_wp2_with (at_builtin; first | (have h := HR1; clear HR1; refine Lib.wpList_append_run _ rfl _ _ 25 25 rfl _ _ rfl rfl _ _ (unhide h _) ?_) | (have h := HR2; clear HR2; refine Lib.wpList_append_run _ rfl _ _ 25 25 rfl _ _ rfl rfl _ _ (unhide h _) ?_) | (have h := HR3; clear HR3; refine Lib.wpList_append_run _ rfl _ _ 50 50 rfl _ _ rfl rfl _ _ (unhide h _) ?_))
                        (try rw [unhide zk])
                        exact ⟨⟨k1, _, _, _, _, _, _, _, _, _, (by first | rfl | (rw [(unhide HI).1]; rfl)), rfl, rfl, rfl, (unhide HI).2.1, HD⟩, by have := (unhide HI).1; have := (unhide HI).2.2; simp [intOf]; omega⟩
                      · have z1 : ¬ (k : Int) < 20 := by omega
                        obtain rfl : k = 20 := by omega
                        obtain ⟨g1, g2, g3, e1, e2, e3, y1, y2, y3, u1, u2, u3⟩ := (unhide HA).last
                        subst e1 e2 e3
                        obtain ⟨e4, e5, e6⟩ := unhide HMN
                        have HM : Hid (Below W0.heap.size W0 wr ∧ NRow wr (.slice ma' mn mc) msl ∧ NRow wr (.slice ia inn ic) hsl ∧ ABRow 0 wr (.slice ba bn bc) asl) := by
                          obtain ⟨X, Y, Z, L6, -, -, -, h4⟩ := unhide HA
                          exact ⟨h4.bel, brow_low h4.m (Nat.zero_le _), brow_low h4.i (Nat.zero_le _), abrow_low h4.b (Nat.zero_le _)⟩
                        subst e4 e5 e6
                        have HU : Hid (∀ W, Below wr.heap.size wr W → W.cell? ⟨g1, mn, none⟩ = some (.int .i64 7) ∧ W.cell? ⟨g2, inn, none⟩ = some (.int .i64 8) ∧ W.cell? ⟨g3, bn * 2 + 1, none⟩ = some (.int .i64 9)) := fun W hW => ⟨(hW.cell (p := ⟨g1, mn, none⟩) (cell_lt10 u1)).trans u1, (hW.cell (p := ⟨g2, inn, none⟩) (cell_lt10 u2)).trans u2, (hW.cell (p := ⟨g3, bn * 2 + 1, none⟩) (cell_lt10 u3)).trans u3⟩
                        have v1 : (mn : Int) < (n1 : Int) := by omega
                        have v2 : (inn : Int) < (n2 : Int) := by omega
                        have v3 : (bn : Int) < (n3 : Int) := by omega
                        clear HA hk hlt HMN u1 u2 u3
                        obtain ⟨w0, hw0⟩ : ∃ w0, w0 = wr := ⟨_, rfl⟩
                        rw [← hw0] at HM HU ⊢
                        clear hw0 wr
                        have CM1 := hide (unhide CM w0 (unhide HM).1)
                        clear CM
                        go_wp2_with fail
                        refine (unhide CM1).mono ?_
                        rintro e w1 ⟨xa, xn, xc, rfl, Q⟩
                        have B1 := hide (unhide Q).2
                        have CS1 := hide (sameInts9 (nrow_below (unhide HM).2.1 (unhide B1)) (brow_low (unhide Q).1 (Nat.zero_le _)) (by have := unhide HHL; omega))
                        rw [decide_eq_true rfl] at CS1
                        clear CM1 Q
                        go_wp2_with fail
                        refine (unhide CS1).mono ?_
                        rintro e w2 ⟨rfl, q2, hw2⟩
                        have B2 : Hid (Below w0.heap.size w0 w2) := by rw [hw2]; exact below_drewN (unhide B1) q2
                        have CH1 := hide (unhide CH w2 ((unhide HM).1.trans ((unhide B2).mono (unhide HM).1.size)))
                        clear CS1 B1 hw2 CH
                        go_wp2_with fail
                        refine (unhide CH1).mono ?_
                        rintro e w3 ⟨ya, yn, yc, rfl, Q⟩
                        have B3 : Hid (Below w0.heap.size w0 w3) := (unhide B2).trans ((unhide Q).2.mono (unhide B2).size)
                        have CS2 := hide (sameInts9 (nrow_below (unhide HM).2.2.1 (unhide B3)) (brow_low (unhide Q).1 (Nat.zero_le _)) (by have := unhide HHL; omega))
                        rw [decide_eq_true rfl] at CS2
                        clear CH1 Q B2
                        go_wp2_with fail
                        refine (unhide CS2).mono ?_
                        rintro e w4 ⟨rfl, q4, hw4⟩
                        have B4 : Hid (Below w0.heap.size w0 w4) := by rw [hw4]; exact below_drewN (unhide B3) q4
                        have CA1 := hide (unhide CA w4 ((unhide HM).1.trans ((unhide B4).mono (unhide HM).1.size)))
                        clear CS2 B3 hw4 CA
                        go_wp2_with fail
                        refine (unhide CA1).mono ?_
                        rintro e w5 ⟨za, zn, zc, rfl, Q⟩
                        have B5 : Hid (Below w0.heap.size w0 w5) := (unhide B4).trans ((unhide Q).2.2.mono (unhide B4).size)
                        have CS3 := hide (sameArcsS (abrow_kept (unhide HM).2.2.2 (fun b q => (unhide B5).block b ((unhide HM).2.2.2.lt b q).2)) (unhide Q).1 (by have := unhide HLN; omega))
                        clear CA1 Q B4
                        go_wp2_with fail
                        refine (unhide CS3).mono ?_
                        rintro e w6 ⟨rfl, q6, hw6⟩
                        have B6 : Hid (Below w0.heap.size w0 w6) := by rw [hw6]; exact below_drewN (unhide B5) q6
                        have HL6 := hide ((unhide HLS).below ((unhide HM).1.trans ((unhide B6).mono (unhide HM).1.size)))
                        obtain ⟨c0, c1', c2', c3', cf⟩ := cellsG (unhide HL6).box
                        have CQ := hide (wholeS (rd := 0) (wr_0 := wr0) (unhide HL6).k (unhide HL6).g (by have := unhide HI60; omega) (unhide HL6).vs (unhide HL6).es_)
                        clear CS3 B5 hw6
                        go_wp2_with fail
                        refine (unhide CQ).mono ?_
                        rintro e w9 ⟨rfl, hb9⟩
                        have HE : Hid (Below w.heap.size w w9) := (unhide HL6).bel.trans ((unhide hb9).mono (unhide HL6).bel.size)
                        obtain ⟨u1, u2, u3⟩ := unhide HU w9 ((unhide B6).trans ((unhide hb9).mono (unhide B6).size))
                        clear CQ hb9 HL6 B6 HU HM c0 c1' c2' c3' cf
                        go_wp2_with fail
                        go_ret
                        exact ⟨rfl, unhide HE⟩
      · have y1 : ¬ (i : Int) < (len : Int) := by omega
        clear hlt hl1 hi60
        clear c0 c1 c2 c3 cf
        obtain ⟨W0, hW0⟩ : ∃ W0, W0 = wr := ⟨_, rfl⟩
        rw [← hW0] at HLS ⊢
        clear hW0 wr
        obtain ⟨h0, H⟩ := heads_ex (nextOf V (arcsE es)) V.length
        obtain ⟨hsl, hhsl⟩ : ∃ hsl, hsl = hdsOf (compsV V h0 V.length) := ⟨_, rfl⟩
        obtain ⟨asl, hasl⟩ : ∃ asl, asl = arcA (compsV V h0 V.length) es (compsV V h0 V.length).length := ⟨_, rfl⟩
        obtain ⟨msl, hml, hmll⟩ := memL_ex (unhide HLS) (by have := unhide HI60; omega) x
        have CM : Hid (∀ W, Below W0.heap.size W0 W → Calls Tryz.prog 11 #[.pointer (some ⟨c, 0, none⟩), .int .i64 x] W fun e w' => ∃ a n c', e = .returned (.slice a n c') ∧ Hid (BRow W.heap.size w' (.slice a n c') msl ∧ Below W.heap.size W w')) := fun W hW => by
          refine (ls_memL ((unhide HLS).below hW) (by have := unhide HI60; omega) (unhide HXX)).mono ?_
          rintro e w' ⟨a, n, c', rfl, hq⟩
          obtain ⟨ms, q1, -, q3, q4⟩ := unhide hq
          obtain rfl := q1.uni hml
          exact ⟨a, n, c', rfl, q3, q4⟩
        have CH : Hid (∀ W, Below W0.heap.size W0 W → Calls Tryz.prog 18 #[.pointer (some ⟨c, 0, none⟩)] W fun e w' => ∃ a n c', e = .returned (.slice a n c') ∧ Hid (BRow W.heap.size w' (.slice a n c') hsl ∧ Below W.heap.size W w')) := fun W hW => by
          rw [hhsl]
          exact ls_hds ((unhide HLS).below hW) (by have := unhide HI60; omega) H
        have CA : Hid (∀ W, Below W0.heap.size W0 W → Calls Tryz.prog 20 #[.pointer (some ⟨c, 0, none⟩)] W fun e w' => ∃ a n c', e = .returned (.slice a n c') ∧ Hid (ABRow W.heap.size w' (.slice a n c') asl ∧ asl.length ≤ 900 ∧ Below W.heap.size W w')) := fun W hW => by
          refine (ls_arcs ((unhide HLS).below hW) (by have := unhide HI60; omega) H).mono ?_
          rintro e w' ⟨a, n, c', rfl, hq⟩
          obtain ⟨q1, q2, q3⟩ := unhide hq
          rw [← hasl] at q1 q2
          exact ⟨a, n, c', rfl, q1, by have := unhide HI60; omega, q3⟩
        have HHL : Hid (hsl.length ≤ 900 ∧ msl.length ≤ 900) := ⟨by
          rw [hhsl]
          have q := outR_len V h0 V.length V.length
          rw [outR_all] at q
          unfold hdsOf
          rw [List.length_map]
          have := (unhide HLS).g.lenV
          have := unhide HI60
          omega, hmll⟩
        clear H hhsl hasl hml hmll
        go_wp2_with fail
        refine (unhide CM _ (Below.refl _ _)).mono ?_
        rintro e W1 ⟨la, ln, lc, rfl, Q1⟩
        have B1 := hide (unhide Q1).2
        go_wp2_with fail
        refine (unhide CH _ (unhide B1)).mono ?_
        rintro e W2 ⟨ha, hn, hc, rfl, Q2⟩
        have B2 : Hid (Below W0.heap.size W0 W2) := (unhide B1).trans ((unhide Q2).2.mono (unhide B1).size)
        go_wp2_with fail
        refine (unhide CA _ (unhide B2)).mono ?_
        rintro e W3 ⟨aa, an, ac, rfl, Q3⟩
        have B3 : Hid (Below W0.heap.size W0 W3) := (unhide B2).trans ((unhide Q3).2.2.mono (unhide B2).size)
        go_wp2_with fail
        refine (unhide CM _ (unhide B3)).mono ?_
        rintro e W4 ⟨ma', mn, mc, rfl, Q4⟩
        have B4 : Hid (Below W0.heap.size W0 W4) := (unhide B3).trans ((unhide Q4).2.mono (unhide B3).size)
        go_wp2_with fail
        refine (unhide CH _ (unhide B4)).mono ?_
        rintro e W5 ⟨ia, inn, ic, rfl, Q5⟩
        have B5 : Hid (Below W0.heap.size W0 W5) := (unhide B4).trans ((unhide Q5).2.mono (unhide B4).size)
        go_wp2_with fail
        refine (unhide CA _ (unhide B5)).mono ?_
        rintro e W6 ⟨ba, bn, bc, rfl, Q6⟩
        have HO6 := hide (o6_start (unhide Q1).2 (unhide Q1).1 (unhide Q2).2 (unhide Q2).1 (unhide Q3).2.2 (unhide Q3).1 (unhide Q4).2 (unhide Q4).1 (unhide Q5).2 (unhide Q5).1 (unhide Q6).2.2 (unhide Q6).1)
        have HLN : Hid (ln = msl.length ∧ hn = hsl.length ∧ an = asl.length ∧ asl.length ≤ 900) := ⟨brow_len (unhide Q1).1, brow_len (unhide Q2).1, abrow_len (unhide Q3).1, (unhide Q3).2.1⟩
        clear Q1 Q2 Q3 Q4 Q5 Q6 B1 B2 B3 B4 B5
        have HQ : Hid (QO W0 (.slice la ln lc) (.slice ha hn hc) (.slice aa an ac) (.slice ma' mn mc) (.slice ia inn ic) (.slice ba bn bc) ln hn an msl hsl asl W6) := ⟨msl, hsl, asl, _, (unhide HLN).1.symm, (unhide HLN).2.1.symm, (unhide HLN).2.2.1.symm, unhide HO6⟩
        have HMN : Hid (mn = ln ∧ inn = hn ∧ bn = an) := by
          obtain ⟨q1, q2, q3, -⟩ := unhide HLN
          have e1 := brow_len (unhide HO6).m
          have e2 := brow_len (unhide HO6).i
          have e3 := abrow_len (unhide HO6).b
          exact ⟨by omega, by omega, by omega⟩
        clear HO6
        go_upto_region 14 with fail
        go_loopw [65] (fun s5 W => ∃ k : Nat, s5 = .int .i64 k ∧ k ≤ ln ∧ Hid (QO W0 (.slice la ln lc) (.slice ha hn hc) (.slice aa an ac) (.slice ma' mn mc) (.slice ia inn ic) (.slice ba bn bc) ln hn an msl hsl asl W)) (fun s5 _ => ln - (intOf s5).toNat)
        case atStart => exact ⟨0, rfl, Nat.zero_le _, HQ⟩
        case round =>
          obtain ⟨k, rfl, hk, HQ⟩ := hrel
          by_cases hlt : k < ln
          · obtain ⟨g, y, hg, f1, f2, hq⟩ := (unhide HQ).setL hlt rfl (-1)
            subst hg
            have z1 : (k : Int) < (ln : Int) := by omega
            obtain ⟨k1, hk1⟩ : ∃ k1, k1 = k + 1 := ⟨_, rfl⟩
            have zk : Hid (wrap64 ((k : Int) + 1) = (k1 : Int)) := by
              have := unhide HLN
              have := unhide HHL
              show wrap64 ((k : Int) + 1) = (k1 : Int); unfold wrap64; omega
            have HI : Hid (k1 ≤ ln ∧ ln - k1 < ln - k) := ⟨by omega, by omega⟩
            have HD := hide hq
            clear HQ hq hk hlt hk1
            go_wp2_with fail
            (try rw [unhide zk])
            exact ⟨⟨k1, rfl, (unhide HI).1, HD⟩, by have := (unhide HI).2; simp [intOf]; omega⟩
          · have z1 : ¬ (k : Int) < (ln : Int) := by omega
            clear hk hlt
            go_upto_region 19 with fail
            go_loopw [74] (fun s5 W => ∃ k : Nat, s5 = .int .i64 k ∧ k ≤ hn ∧ Hid (QO W0 (.slice la ln lc) (.slice ha hn hc) (.slice aa an ac) (.slice ma' mn mc) (.slice ia inn ic) (.slice ba bn bc) ln hn an msl hsl asl W)) (fun s5 _ => hn - (intOf s5).toNat)
            case atStart => exact ⟨0, rfl, Nat.zero_le _, HQ⟩
            case round =>
              obtain ⟨k, rfl, hk, HQ⟩ := hrel
              by_cases hlt : k < hn
              · obtain ⟨g, y, hg, f1, f2, hq⟩ := (unhide HQ).setH hlt rfl (-2)
                subst hg
                have z1 : (k : Int) < (hn : Int) := by omega
                obtain ⟨k1, hk1⟩ : ∃ k1, k1 = k + 1 := ⟨_, rfl⟩
                have zk : Hid (wrap64 ((k : Int) + 1) = (k1 : Int)) := by
                  have := unhide HLN
                  have := unhide HHL
                  show wrap64 ((k : Int) + 1) = (k1 : Int); unfold wrap64; omega
                have HI : Hid (k1 ≤ hn ∧ hn - k1 < hn - k) := ⟨by omega, by omega⟩
                have HD := hide hq
                clear HQ hq hk hlt hk1
                go_wp2_with fail
                (try rw [unhide zk])
                exact ⟨⟨k1, rfl, (unhide HI).1, HD⟩, by have := (unhide HI).2; simp [intOf]; omega⟩
              · have z1 : ¬ (k : Int) < (hn : Int) := by omega
                clear hk hlt
                go_upto_region 24 with fail
                go_loopw [83] (fun s5 W => ∃ k : Nat, s5 = .int .i64 k ∧ k ≤ an ∧ Hid (QO W0 (.slice la ln lc) (.slice ha hn hc) (.slice aa an ac) (.slice ma' mn mc) (.slice ia inn ic) (.slice ba bn bc) ln hn an msl hsl asl W)) (fun s5 _ => an - (intOf s5).toNat)
                case atStart => exact ⟨0, rfl, Nat.zero_le _, HQ⟩
                case round =>
                  obtain ⟨k, rfl, hk, HQ⟩ := hrel
                  by_cases hlt : k < an
                  · obtain ⟨g, y, yy, hg, f1, f3, f2, hq⟩ := (unhide HQ).setA hlt rfl (-3) 0
                    subst hg
                    have z1 : (k : Int) < (an : Int) := by omega
                    obtain ⟨k1, hk1⟩ : ∃ k1, k1 = k + 1 := ⟨_, rfl⟩
                    have zk : Hid (wrap64 ((k : Int) + 1) = (k1 : Int)) := by
                      have := unhide HLN
                      have := unhide HHL
                      show wrap64 ((k : Int) + 1) = (k1 : Int); unfold wrap64; omega
                    have HI : Hid (k1 ≤ an ∧ an - k1 < an - k) := ⟨by omega, by omega⟩
                    have HD := hide hq
                    clear HQ hq hk hlt hk1
                    go_wp2_with fail
                    (try rw [unhide zk])
                    exact ⟨⟨k1, rfl, (unhide HI).1, HD⟩, by have := (unhide HI).2; simp [intOf]; omega⟩
                  · have z1 : ¬ (k : Int) < (an : Int) := by omega
                    clear hk hlt
                    have HA0 := hide (unhide HQ).start
                    clear HQ
                    go_upto_region 29 with fail
                    go_loopw [18, 9, 10, 11] (fun s18 s9 s10 s11 W => ∃ (k : Nat) (a1 : Option Addr) (n1 c1 : Nat) (a2 : Option Addr) (n2 c2 : Nat) (a3 : Option Addr) (n3 c3 : Nat), s18 = .int .i64 k ∧ s9 = .slice a1 n1 c1 ∧ s10 = .slice a2 n2 c2 ∧ s11 = .slice a3 n3 c3 ∧ k ≤ 20 ∧ Hid (QA W0 (.slice a1 n1 c1) (.slice a2 n2 c2) (.slice a3 n3 c3) (.slice ma' mn mc) (.slice ia inn ic) (.slice ba bn bc) ln hn an k msl hsl asl W)) (fun s18 _ _ _ _ => 20 - (intOf s18).toNat)
                    case atStart => exact ⟨0, _, _, _, _, _, _, _, _, _, rfl, rfl, rfl, rfl, by omega, HA0⟩
                    case round =>
                      obtain ⟨k, a1, n1, c1, a2, n2, c2, a3, n3, c3, rfl, rfl, rfl, rfl, hk, HA⟩ := hrel
                      clear HA0
                      by_cases hlt : k < 20
                      · have z1 : (k : Int) < 20 := by omega
                        obtain ⟨k1, hk1⟩ : ∃ k1, k1 = k + 1 := ⟨_, rfl⟩
                        have zk : Hid (wrap64 ((k : Int) + 1) = (k1 : Int)) := by show wrap64 ((k : Int) + 1) = (k1 : Int); unfold wrap64; omega
                        have HI : Hid (k1 = k + 1 ∧ k1 ≤ 20 ∧ 20 - k1 < 20 - k) := ⟨hk1, by omega, by omega⟩
                        obtain ⟨x1, m1, d1, w1, x2, m2, d2, w2, x3, m3, d3, w3, r1, r2, r3, hq⟩ := (unhide HA).app (by have := unhide HLN; have := unhide HHL; omega) (by have := unhide HLN; have := unhide HHL; omega) (by have := unhide HLN; omega) hk
                        rw [← hk1] at hq
                        have HD := hide hq
                        have HR1 := hide r1
                        have HR2 := hide r2
                        have HR3 := hide r3
                        clear HA hq hk hlt hk1 r1 r2 r3
                        go_wp2_with (at_builtin; first | (have h := HR1; clear HR1; refine Lib.wpList_append_run _ rfl _ _ 25 25 rfl _ _ rfl rfl _ _ (unhide h _) ?_) | (have h := HR2; clear HR2; refine Lib.wpList_append_run _ rfl _ _ 25 25 rfl _ _ rfl rfl _ _ (unhide h _) ?_) | (have h := HR3; clear HR3; refine Lib.wpList_append_run _ rfl _ _ 50 50 rfl _ _ rfl rfl _ _ (unhide h _) ?_))
                        (try rw [unhide zk])
                        exact ⟨⟨k1, _, _, _, _, _, _, _, _, _, (by first | rfl | (rw [(unhide HI).1]; rfl)), rfl, rfl, rfl, (unhide HI).2.1, HD⟩, by have := (unhide HI).1; have := (unhide HI).2.2; simp [intOf]; omega⟩
                      · have z1 : ¬ (k : Int) < 20 := by omega
                        obtain rfl : k = 20 := by omega
                        obtain ⟨g1, g2, g3, e1, e2, e3, y1, y2, y3, u1, u2, u3⟩ := (unhide HA).last
                        subst e1 e2 e3
                        obtain ⟨e4, e5, e6⟩ := unhide HMN
                        have HM : Hid (Below W0.heap.size W0 wr ∧ NRow wr (.slice ma' mn mc) msl ∧ NRow wr (.slice ia inn ic) hsl ∧ ABRow 0 wr (.slice ba bn bc) asl) := by
                          obtain ⟨X, Y, Z, L6, -, -, -, h4⟩ := unhide HA
                          exact ⟨h4.bel, brow_low h4.m (Nat.zero_le _), brow_low h4.i (Nat.zero_le _), abrow_low h4.b (Nat.zero_le _)⟩
                        subst e4 e5 e6
                        have HU : Hid (∀ W, Below wr.heap.size wr W → W.cell? ⟨g1, mn, none⟩ = some (.int .i64 7) ∧ W.cell? ⟨g2, inn, none⟩ = some (.int .i64 8) ∧ W.cell? ⟨g3, bn * 2 + 1, none⟩ = some (.int .i64 9)) := fun W hW => ⟨(hW.cell (p := ⟨g1, mn, none⟩) (cell_lt10 u1)).trans u1, (hW.cell (p := ⟨g2, inn, none⟩) (cell_lt10 u2)).trans u2, (hW.cell (p := ⟨g3, bn * 2 + 1, none⟩) (cell_lt10 u3)).trans u3⟩
                        have v1 : (mn : Int) < (n1 : Int) := by omega
                        have v2 : (inn : Int) < (n2 : Int) := by omega
                        have v3 : (bn : Int) < (n3 : Int) := by omega
                        clear HA hk hlt HMN u1 u2 u3
                        obtain ⟨w0, hw0⟩ : ∃ w0, w0 = wr := ⟨_, rfl⟩
                        rw [← hw0] at HM HU ⊢
                        clear hw0 wr
                        have CM1 := hide (unhide CM w0 (unhide HM).1)
                        clear CM
                        go_wp2_with fail
                        refine (unhide CM1).mono ?_
                        rintro e w1 ⟨xa, xn, xc, rfl, Q⟩
                        have B1 := hide (unhide Q).2
                        have CS1 := hide (sameInts9 (nrow_below (unhide HM).2.1 (unhide B1)) (brow_low (unhide Q).1 (Nat.zero_le _)) (by have := unhide HHL; omega))
                        rw [decide_eq_true rfl] at CS1
                        clear CM1 Q
                        go_wp2_with fail
                        refine (unhide CS1).mono ?_
                        rintro e w2 ⟨rfl, q2, hw2⟩
                        have B2 : Hid (Below w0.heap.size w0 w2) := by rw [hw2]; exact below_drewN (unhide B1) q2
                        have CH1 := hide (unhide CH w2 ((unhide HM).1.trans ((unhide B2).mono (unhide HM).1.size)))
                        clear CS1 B1 hw2 CH
                        go_wp2_with fail
                        refine (unhide CH1).mono ?_
                        rintro e w3 ⟨ya, yn, yc, rfl, Q⟩
                        have B3 : Hid (Below w0.heap.size w0 w3) := (unhide B2).trans ((unhide Q).2.mono (unhide B2).size)
                        have CS2 := hide (sameInts9 (nrow_below (unhide HM).2.2.1 (unhide B3)) (brow_low (unhide Q).1 (Nat.zero_le _)) (by have := unhide HHL; omega))
                        rw [decide_eq_true rfl] at CS2
                        clear CH1 Q B2
                        go_wp2_with fail
                        refine (unhide CS2).mono ?_
                        rintro e w4 ⟨rfl, q4, hw4⟩
                        have B4 : Hid (Below w0.heap.size w0 w4) := by rw [hw4]; exact below_drewN (unhide B3) q4
                        have CA1 := hide (unhide CA w4 ((unhide HM).1.trans ((unhide B4).mono (unhide HM).1.size)))
                        clear CS2 B3 hw4 CA
                        go_wp2_with fail
                        refine (unhide CA1).mono ?_
                        rintro e w5 ⟨za, zn, zc, rfl, Q⟩
                        have B5 : Hid (Below w0.heap.size w0 w5) := (unhide B4).trans ((unhide Q).2.2.mono (unhide B4).size)
                        have CS3 := hide (sameArcsS (abrow_kept (unhide HM).2.2.2 (fun b q => (unhide B5).block b ((unhide HM).2.2.2.lt b q).2)) (unhide Q).1 (by have := unhide HLN; omega))
                        clear CA1 Q B4
                        go_wp2_with fail
                        refine (unhide CS3).mono ?_
                        rintro e w6 ⟨rfl, q6, hw6⟩
                        have B6 : Hid (Below w0.heap.size w0 w6) := by rw [hw6]; exact below_drewN (unhide B5) q6
                        have HL6 := hide ((unhide HLS).below ((unhide HM).1.trans ((unhide B6).mono (unhide HM).1.size)))
                        obtain ⟨c0, c1', c2', c3', cf⟩ := cellsG (unhide HL6).box
                        have CQ := hide (wholeS (rd := 0) (wr_0 := wr0) (unhide HL6).k (unhide HL6).g (by have := unhide HI60; omega) (unhide HL6).vs (unhide HL6).es_)
                        clear CS3 B5 hw6
                        go_wp2_with fail
                        refine (unhide CQ).mono ?_
                        rintro e w9 ⟨rfl, hb9⟩
                        have HE : Hid (Below w.heap.size w w9) := (unhide HL6).bel.trans ((unhide hb9).mono (unhide HL6).bel.size)
                        obtain ⟨u1, u2, u3⟩ := unhide HU w9 ((unhide B6).trans ((unhide hb9).mono (unhide B6).size))
                        clear CQ hb9 HL6 B6 HU HM c0 c1' c2' c3' cf
                        go_wp2_with fail
                        go_ret
                        exact ⟨rfl, unhide HE⟩
end Go.Proofs.YtkmhcgmmbkchaaaGreat
