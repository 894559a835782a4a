/- CondOrders, walked. -/
import Derived.Test.YtkmhcgmmbkchaaaGreatOrdM10
import Derived.Deep.CutRange
namespace Go.Proofs.YtkmhcgmmbkchaaaGreat
open Go.RowKit Go.Maps T9
theorem growLen {B : Nat} {w : World} {a : Option Addr} {n c : Nat} {es : List EdV} (h : GRow B w (.slice a n c) es) : n = es.length := by
  rcases h.2 with ⟨e, h0⟩ | ⟨g, cap, cur, e, -⟩
  · injection e with e1 e2 e3; omega
  · injection e with e1 e2 e3
theorem pickL (x : Int) (m : Nat) (h : 0 < m) (h2 : m ≤ 1000) : ∃ l : Nat, IntKind.i64.wrap ((IntKind.u64.wrap x).tmod (m : Int)) = (l : Int) ∧ l < m := by
  have h0 : 0 ≤ IntKind.u64.wrap x := by unfold IntKind.wrap; simp [IntKind.signed, IntKind.bits]; omega
  rw [Int.tmod_eq_emod_of_nonneg h0]
  have h3 : 0 ≤ IntKind.u64.wrap x % (m : Int) := Int.emod_nonneg _ (by omega)
  have h4 : IntKind.u64.wrap x % (m : Int) < (m : Int) := Int.emod_lt_of_pos _ (by omega)
  refine ⟨(IntKind.u64.wrap x % (m : Int)).toNat, ?_, by omega⟩
  rw [IntKind.wrap_i64]
  omega
theorem pickU (m : Nat) (h2 : m ≤ 1000) : IntKind.u64.wrap (m : Int) = (m : Int) := by unfold IntKind.wrap; simp [IntKind.signed, IntKind.bits]; omega
set_option maxHeartbeats 16000000 in
set_option maxRecDepth 100000 in
theorem orders_any (a : Option Addr) (len cap : Nat) (o : Nat → OpV) (a1 : Option Addr) (len1 cap1 : Nat) (o1 : Nat → OpV) (w : World) (h : IsOps w a len o) (h1 : IsOps w a1 len1 o1) :
    Calls Tryz.prog 5 #[.slice a len cap, .slice a1 len1 cap1] w fun e w' => e = .returned (.bool true) ∧ Below w.heap.size w w' := by
  have CW : Hid (∀ W, Calls Tryz.prog 8 #[] W fun e w' => e = .returned (.bool true) ∧ Hid (Below W.heap.size W w')) := fun W => awakeS W
  have HO := hide h
  have HO1 := hide h1
  clear h h1
  go_enter Tryz.func5, Tryz.ntmps5
  go_wp2_with fail
  refine (kNewS w).mono ?_
  rintro e w1 ⟨c, p, m, ma, ml, me, rfl, HN⟩
  go_wp2_with fail
  refine (kNewS w1).mono ?_
  rintro e w2 ⟨d, p2, m2, ma2, ml2, me2, rfl, HN2⟩
  obtain ⟨L0, L20, hl0⟩ := duo_new (unhide HN) (unhide HN2)
  have HL0 := hide hl0
  clear HN HN2 hl0
  go_upto_region 2 with fail
  change Code.wp _ _ _ _ (w2.alloc oZ)
  obtain ⟨gb, hgb⟩ : ∃ gb, gb = w2.heap.size := ⟨_, rfl⟩
  rw [← hgb] at HL0
  rw [← hgb]
  clear hgb
  generalize w2.alloc oZ = w20 at *
  go_wp2_with fail
  refine (unhide CW _).mono ?_
  rintro e w3 ⟨rfl, hb⟩
  have HL3 := hide ((unhide HL0).below (unhide hb))
  clear HL0 hb CW
  go_upto_region 5 with fail
  go_loopw [8] (fun s8 W => ∃ i : Nat, s8 = .int .i64 i ∧ Hid (i ≤ 60 ∧ ∃ lk V es vv ev wr L L2, Duo w gb c p m ma ml me lk d p2 m2 ma2 ml2 me2 0 V es (3 * i) [] [] 0 vv ev wr (.slice none 0 0) [] L L2 W)) (fun s8 _ => 60 - (intOf s8).toNat)
  case atStart => exact ⟨0, rfl, by omega, 0, [], [], _, _, 0, L0, L20, unhide HL3⟩
  case round =>
    obtain ⟨i, rfl, HR⟩ := hrel
    clear HL3
    obtain ⟨hi60, lk, V, es, vv, ev, wr0, L1, L2, hdu⟩ := unhide HR
    by_cases hlt : i < len ∧ i < 60
    · obtain ⟨hl1, hl2⟩ := hlt
      obtain ⟨b, off, rfl, -, hops⟩ := (unhide HO).resolve_left (by omega)
      obtain ⟨hop, hok⟩ := hops i hl1
      obtain ⟨f0, f1, f2, f3⟩ := opAt_below hop hdu.a.bel
      have hbl := opAt_lt hop
      clear hops
      generalize o i = oi at f0 f1 f2 f3 hok hop
      obtain ⟨k, e, u, v⟩ := oi
      obtain ⟨ok0, ok1, ok2, ok3⟩ := hok
      (try dsimp only at f0 f1 f2 f3 ok0 ok1 ok2 ok3)
      obtain ⟨i1, hi1⟩ : ∃ i1, i1 = i + 1 := ⟨_, rfl⟩
      have HI : Hid (i1 = i + 1 ∧ i < 60 ∧ 3 * i ≤ 180 ∧ 60 - i1 < 60 - i) := ⟨hi1, hl2, by omega, by omega⟩
      have zw : Hid (wrap64 ((i : Int) + 1) = (i1 : Int)) := by show wrap64 ((i : Int) + 1) = (i1 : Int); unfold wrap64; omega
      have y1 : (i : Int) < (len : Int) := by omega
      have y2 : (i : Int) < 60 := by omega
      obtain ⟨va, vc, hv1, -⟩ := brow_shape hdu.a.vs
      obtain ⟨vn, hvn⟩ : ∃ vn, vn = V.length := ⟨_, rfl⟩
      rw [← hvn] at hv1
      obtain ⟨ea, en, ec, he1⟩ := grow_shape hdu.a.es_
      subst hv1 he1
      clear hvn
      obtain ⟨c0, c1, c2, c3, cf⟩ := cellsG hdu.a.box
      have hdu1 := hdu.below (below_drewN (Below.refl _ wr) 1)
      have CP := hide (ls_play (k := k) hdu1.a (by omega) ok1 ok2 ok3)
      have HDU := hide hdu1
      have HBG : Hid (b < w.heap.size ∧ w.heap.size ≤ gb) := ⟨hbl, hdu.a.hg⟩
      have HOP : Hid (OpAt wr b (off + i * 4) (k, e, u, v)) := ⟨f0, f1, f2, f3⟩
      clear HR hdu hdu1 hbl hop ok0 ok1 ok2 ok3 hi60 hl1 hl2 hi1
      go_upto_region 8 with fail
      refine wp_region_noPanic ?_
      refine regionL [8, 9, 10, 11] (fun y => (y.cell? ⟨gb, 0, none⟩ = some (.slice va vn vc) ∧ y.cell? ⟨gb, 1, none⟩ = some (.slice ea en ec) ∧ y.cell? ⟨gb, 2, none⟩ = some (.int .i64 0) ∧ y.cell? ⟨gb, 3, none⟩ = some (.int .i64 wr0)) ∧ y.cell? ⟨b, off + i * 4, none⟩ = some (.int .i64 k) ∧ y.cell? ⟨b, off + i * 4 + 1, none⟩ = some (.int .i64 e) ∧ y.cell? ⟨b, off + i * 4 + 2, none⟩ = some (.int .i64 u) ∧ y.cell? ⟨b, off + i * 4 + 3, none⟩ = some (.int .i64 v)) (by kernel_rfl) ⟨⟨c0, c1, c2, c3⟩, f0, f1, f2, f3⟩ (fun hHeld => ?_)
      refine takeL (i := 0) (v := ?t2v0) (some 45) rfl rfl (by kernel_rfl) (by kernel_rfl) (by kernel_rfl) (by kernel_rfl) (by kernel_rfl) (fun _ _ _ h => h) (Or.inl ⟨by rfl, ?t2h0⟩) (by assumption) ?t2r0
      case t2h0 => (intro y hSu; (try dsimp only at hSu); go_simp; first | done | with_reducible rfl)
      (try simp only [Act.put, List.setIfInBounds_toArray, List.set_cons_zero, List.set_cons_succ])
      refine takeL (i := 1) (v := ?t2v1) (some 46) rfl rfl (by kernel_rfl) (by kernel_rfl) (by kernel_rfl) (by kernel_rfl) (by kernel_rfl) (fun _ _ _ h => h) (Or.inl ⟨by rfl, ?t2h1⟩) (by assumption) ?t2r1
      case t2h1 => (intro y hSu; (try dsimp only at hSu); go_simp; first | done | with_reducible rfl)
      (try simp only [Act.put, List.setIfInBounds_toArray, List.set_cons_zero, List.set_cons_succ])
      refine takeL (i := 2) (v := ?t2v2) (some 47) rfl rfl (by kernel_rfl) (by kernel_rfl) (by kernel_rfl) (by kernel_rfl) (by kernel_rfl) (fun _ _ _ h => h) (Or.inl ⟨by rfl, ?t2h2⟩) (by assumption) ?t2r2
      case t2h2 => (intro y hSu; (try dsimp only at hSu); go_simp; first | done | with_reducible rfl)
      (try simp only [Act.put, List.setIfInBounds_toArray, List.set_cons_zero, List.set_cons_succ])
      refine takeL (i := 3) (v := ?t2v3) (some 48) rfl rfl (by kernel_rfl) (by kernel_rfl) (by kernel_rfl) (by kernel_rfl) (by kernel_rfl) (fun _ _ _ h => h) (Or.inl ⟨by rfl, ?t2h3⟩) (by assumption) ?t2r3
      case t2h3 => (intro y hSu; (try dsimp only at hSu); go_simp; first | done | with_reducible rfl)
      (try simp only [Act.put, List.setIfInBounds_toArray, List.set_cons_zero, List.set_cons_succ])
      refine takeL (i := 4) (v := ?t2v4) (some 49) rfl rfl (by kernel_rfl) (by kernel_rfl) (by kernel_rfl) (by kernel_rfl) (by kernel_rfl) (fun _ _ _ h => h) (Or.inl ⟨by rfl, ?t2h4⟩) (by assumption) ?t2r4
      case t2h4 => (intro y hSu; (try dsimp only at hSu); go_simp; first | done | with_reducible rfl)
      (try simp only [Act.put, List.setIfInBounds_toArray, List.set_cons_zero, List.set_cons_succ])
      refine takeL (i := 5) (v := ?t2v5) (some 50) rfl rfl (by kernel_rfl) (by kernel_rfl) (by kernel_rfl) (by kernel_rfl) (by kernel_rfl) (fun _ _ _ h => h) (Or.inl ⟨by rfl, ?t2h5⟩) (by assumption) ?t2r5
      case t2h5 => (intro y hSu; (try dsimp only at hSu); go_simp; first | done | with_reducible rfl)
      (try simp only [Act.put, List.setIfInBounds_toArray, List.set_cons_zero, List.set_cons_succ])
      refine readyL (i := 6) (by kernel_rfl) rfl (fun K hK => ?_)
      go_simp
      refine (unhide CP).mono ?_
      intro r6 w5 hp
      obtain ⟨vv', ev', wr', V', es', lk', L', L2', rfl, hbx, hdu6, hkeep⟩ := (unhide HDU).play (unhide hp)
      obtain ⟨va', vc', hv1, -⟩ := brow_shape hdu6.a.vs
      obtain ⟨vn', hv1'⟩ : ∃ vn', vv' = .slice va' vn' vc' := ⟨_, hv1⟩
      clear hv1
      obtain ⟨ea', en', ec', he1⟩ := grow_shape hdu6.a.es_
      subst hv1' he1
      clear CP hp c0 c1 c2 c3 cf f0 f1 f2 f3
      obtain ⟨c0, c1, c2, c3, cf⟩ := cellsG hbx
      have HOP5 : Hid (OpAt w5 b (off + i * 4) (k, e, u, v)) := opAt_block (show w5.heap[b]? = wr.heap[b]? from hkeep b (unhide HBG).1) (unhide HOP)
      obtain ⟨w6, hw6⟩ : ∃ w6, w6 = set4 w5 gb (.slice va' vn' vc') (.slice ea' en' ec') (.int .i64 0) (.int .i64 wr') := ⟨_, rfl⟩
      rw [← hw6] at hdu6
      have HDU6 := hide hdu6
      have HW6 := hide hw6
      have HE5 : Hid ((w5.cell? ⟨gb, 0, none⟩ = some (.slice va vn vc) ∧ w5.cell? ⟨gb, 1, none⟩ = some (.slice ea en ec) ∧ w5.cell? ⟨gb, 2, none⟩ = some (.int .i64 0) ∧ w5.cell? ⟨gb, 3, none⟩ = some (.int .i64 wr0)) ∧ w5.cell? ⟨b, off + i * 4, none⟩ = some (.int .i64 k) ∧ w5.cell? ⟨b, off + i * 4 + 1, none⟩ = some (.int .i64 e) ∧ w5.cell? ⟨b, off + i * 4 + 2, none⟩ = some (.int .i64 u) ∧ w5.cell? ⟨b, off + i * 4 + 3, none⟩ = some (.int .i64 v)) := by
        obtain ⟨q0, q1, q2, q3⟩ := unhide HOP5
        exact ⟨⟨c0, c1, c2, c3⟩, q0, q1, q2, q3⟩
      clear hdu6 hkeep hbx hw6 HDU HOP HOP5 HBG
      (try dsimp only)
      refine hK.out _ _ (fun _ => (unhide HE5)) ?_
      clear hK K
      (try simp only [Act.put, List.setIfInBounds_toArray, List.set_cons_zero, List.set_cons_succ])
      have hH4 := (unhide HE5)
      have HNX : Hid (i1 ≤ 60 ∧ ∃ lk V es vv ev wr L L2, Duo w gb c p m ma ml me lk d p2 m2 ma2 ml2 me2 0 V es (3 * i1) [] [] 0 vv ev wr (.slice none 0 0) [] L L2 w6) := by
        obtain ⟨q1, q2, q3, q4⟩ := unhide HI
        refine ⟨by omega, lk', V', es', .slice va' vn' vc', .slice ea' en' ec', wr', L', L2', ?_⟩
        have := unhide HDU6
        rw [show 3 * i1 = 3 * i + 3 by omega]
        exact this
      refine takeL (i := 7) (v := ?t5v7) (some 44) rfl rfl (by kernel_rfl) (by kernel_rfl) (by kernel_rfl) (by kernel_rfl) (by kernel_rfl) (fun _ _ _ h => h) (Or.inl ⟨by rfl, ?t5h7⟩) (by assumption) ?t5r7
      case t5h7 => (intro y hSu; (try dsimp only at hSu); go_simp; first | done | with_reducible rfl)
      (try simp only [Act.put, List.setIfInBounds_toArray, List.set_cons_zero, List.set_cons_succ])
      refine readyL2 (i := 8) (k := 9) (by kernel_rfl) rfl rfl (fun K hK => ?_) (fun K hK => ?_)
      · go_simp
        refine hK.out _ _ (fun h => by cases h) ?_
        clear hK K
        (try simp only [Act.put, List.setIfInBounds_toArray, List.set_cons_zero, List.set_cons_succ])
        refine readyL2 (i := 9) (k := 10) (by kernel_rfl) rfl rfl (fun K hK => ?_) (fun K hK => ?_)
        · go_simp
          refine hK.out _ _ (fun h => by cases h) ?_
          clear hK K
          (try simp only [Act.put, List.setIfInBounds_toArray, List.set_cons_zero, List.set_cons_succ])
          refine readyL (i := 10) (by kernel_rfl) rfl (fun K hK => ?_)
          go_simp
          refine hK.out _ _ (fun h => by cases h) ?_
          clear hK K
          (try simp only [Act.put, List.setIfInBounds_toArray, List.set_cons_zero, List.set_cons_succ])
          refine readyL (i := 11) (by kernel_rfl) rfl (fun K hK => ?_)
          go_simp
          refine hK.out _ _ (fun h => by cases h) ?_
          clear hK K
          (try simp only [Act.put, List.setIfInBounds_toArray, List.set_cons_zero, List.set_cons_succ])
          refine doneL (by kernel_rfl) ?_ _
          refine NoPanic.normal ?_
          clear HE5 c0 c1 c2 c3 cf
          rw [show (((w5.setCell ⟨gb, 0, none⟩ (.slice va' vn' vc')).setCell ⟨gb, 1, none⟩ (.slice ea' en' ec')).setCell ⟨gb, 2, none⟩ (.int .i64 0)).setCell ⟨gb, 3, none⟩ (.int .i64 wr') = w6 from (unhide HW6).symm]
          clear HW6
          clear HDU6
          go_wp2_with fail
          (try rw [unhide zw])
          exact ⟨⟨i1, by first | rfl | (rw [(unhide HI).1]; rfl), unhide HNX⟩, by have := (unhide HI).2.2.2; have := (unhide HI).1; simp [intOf]; omega⟩
        · go_simp
          refine hK.out _ _ (fun h => by cases h) ?_
          clear hK K
          (try simp only [Act.put, List.setIfInBounds_toArray, List.set_cons_zero, List.set_cons_succ])
          refine readyL (i := 9) (by kernel_rfl) rfl (fun K hK => ?_)
          go_simp
          refine hK.out _ _ (fun h => by cases h) ?_
          clear hK K
          (try simp only [Act.put, List.setIfInBounds_toArray, List.set_cons_zero, List.set_cons_succ])
          refine readyL (i := 11) (by kernel_rfl) rfl (fun K hK => ?_)
          go_simp
          refine hK.out _ _ (fun h => by cases h) ?_
          clear hK K
          (try simp only [Act.put, List.setIfInBounds_toArray, List.set_cons_zero, List.set_cons_succ])
          refine doneL (by kernel_rfl) ?_ _
          refine NoPanic.normal ?_
          clear HE5 c0 c1 c2 c3 cf
          rw [show (((w5.setCell ⟨gb, 0, none⟩ (.slice va' vn' vc')).setCell ⟨gb, 1, none⟩ (.slice ea' en' ec')).setCell ⟨gb, 2, none⟩ (.int .i64 0)).setCell ⟨gb, 3, none⟩ (.int .i64 wr') = w6 from (unhide HW6).symm]
          clear HW6
          clear HDU6
          go_wp2_with fail
          (try rw [unhide zw])
          exact ⟨⟨i1, by first | rfl | (rw [(unhide HI).1]; rfl), unhide HNX⟩, by have := (unhide HI).2.2.2; have := (unhide HI).1; simp [intOf]; omega⟩
      · go_simp
        refine hK.out _ _ (fun h => by cases h) ?_
        clear hK K
        (try simp only [Act.put, List.setIfInBounds_toArray, List.set_cons_zero, List.set_cons_succ])
        refine readyL (i := 8) (by kernel_rfl) rfl (fun K hK => ?_)
        go_simp
        refine hK.out _ _ (fun h => by cases h) ?_
        clear hK K
        (try simp only [Act.put, List.setIfInBounds_toArray, List.set_cons_zero, List.set_cons_succ])
        refine readyL (i := 10) (by kernel_rfl) rfl (fun K hK => ?_)
        go_simp
        refine hK.out _ _ (fun h => by cases h) ?_
        clear hK K
        (try simp only [Act.put, List.setIfInBounds_toArray, List.set_cons_zero, List.set_cons_succ])
        refine readyL (i := 11) (by kernel_rfl) rfl (fun K hK => ?_)
        go_simp
        refine hK.out _ _ (fun h => by cases h) ?_
        clear hK K
        (try simp only [Act.put, List.setIfInBounds_toArray, List.set_cons_zero, List.set_cons_succ])
        refine doneL (by kernel_rfl) ?_ _
        refine NoPanic.normal ?_
        clear HE5 c0 c1 c2 c3 cf
        rw [show (((w5.setCell ⟨gb, 0, none⟩ (.slice va' vn' vc')).setCell ⟨gb, 1, none⟩ (.slice ea' en' ec')).setCell ⟨gb, 2, none⟩ (.int .i64 0)).setCell ⟨gb, 3, none⟩ (.int .i64 wr') = w6 from (unhide HW6).symm]
        clear HW6
        clear HDU6
        go_wp2_with fail
        (try rw [unhide zw])
        exact ⟨⟨i1, by first | rfl | (rw [(unhide HI).1]; rfl), unhide HNX⟩, by have := (unhide HI).2.2.2; have := (unhide HI).1; simp [intOf]; omega⟩
    · have HR0 := hide hdu
      obtain ⟨va, vc, hv1, -⟩ := brow_shape hdu.a.vs
      obtain ⟨vn, hvn⟩ : ∃ vn, vn = V.length := ⟨_, rfl⟩
      rw [← hvn] at hv1
      obtain ⟨ea, en, ec, he1⟩ := grow_shape hdu.a.es_
      subst hv1 he1
      have hen := growLen hdu.a.es_
      obtain ⟨N, hN⟩ : ∃ N, N = 3 * i := ⟨_, rfl⟩
      rw [← hN] at hdu
      have HNN : Hid (vn = V.length ∧ en = es.length ∧ V.length ≤ 180 ∧ es.length ≤ 180 ∧ N ≤ 180) := ⟨hvn, hen, by have := hdu.a.g.lenV; omega, by have := hdu.a.g.lenE; omega, by omega⟩
      have HD0 : Hid (∃ lk2 L L2, Duo w gb c p m ma ml me lk d p2 m2 ma2 ml2 me2 lk2 V es N (V.drop V.length) [] (V.length - V.length) (.slice va vn vc) (.slice ea en ec) wr0 (.slice none 0 0) [] L L2 wr) := by
        refine ⟨0, L1, L2, ?_⟩
        rw [List.drop_length, Nat.sub_self]; exact hdu
      have HLT := hide hlt
      have HI60 := hide hi60
      clear HR HR0 hdu hvn hen hN hlt hi60
      go_upto_region 5 with fail
      go_cut [41] from 34 to 41 (fun s41 W => s41 = .bool false ∧ W = wr)
      case first =>
        have hlt := unhide HLT
        by_cases hl1 : i < len
        · have y1 : (i : Int) < (len : Int) := by omega
          have y2 : ¬ (i : Int) < 60 := by omega
          clear hl1 hlt
          go_wp2_with fail
          go_meet
          case rel => exact ⟨rfl, rfl⟩
        · have y1 : ¬ (i : Int) < (len : Int) := by omega
          clear hl1 hlt
          go_wp2_with fail
          go_meet
          case rel => exact ⟨rfl, rfl⟩
      case rest =>
        obtain ⟨rfl, rfl⟩ := hcut
        clear HLT HI60 HO
        obtain ⟨c0, c1, c2, c3, cf⟩ := cellsG (Exists.choose_spec (Exists.choose_spec (Exists.choose_spec (unhide HD0)))).a.box
        have zi : Hid (wrap64 ((vn : Int) - 1) = (vn : Int) - 1) := by have := unhide HNN; show wrap64 ((vn : Int) - 1) = (vn : Int) - 1; unfold wrap64; omega
        go_upto_region 12 with fail
        clear c0 c1 c2 c3 cf
        go_loopw [10] (fun s10 W => ∃ (k : Nat) (i : Int), s10 = .int .i64 i ∧ Hid (i = (k : Int) - 1 ∧ k ≤ vn ∧ (∃ lk2 L L2, Duo w gb c p m ma ml me lk d p2 m2 ma2 ml2 me2 lk2 V es N (V.drop k) [] (V.length - k) (.slice va vn vc) (.slice ea en ec) wr0 (.slice none 0 0) [] L L2 W))) (fun s10 _ => (intOf s10 + 1).toNat)
        case atStart => exact ⟨V.length, wrap64 ((vn : Int) - 1), rfl, by rw [← (unhide HNN).1]; exact unhide zi, by have := (unhide HNN).1; omega, unhide HD0⟩
        case round =>
          obtain ⟨k, i, rfl, hR⟩ := hrel
          obtain ⟨hi, hkn, lk2, L, L2, hdu⟩ := unhide hR
          clear hR HD0 zi
          rcases k with _ | j
          · obtain rfl : i = -1 := by omega
            have HD1 : Hid (∃ lk2 L L2, Duo w gb c p m ma ml me lk d p2 m2 ma2 ml2 me2 lk2 V es N V [] V.length (.slice va vn vc) (.slice ea en ec) wr0 (.slice none 0 0) [] L L2 wr) := ⟨lk2, L, L2, by rw [List.drop_zero, Nat.sub_zero] at hdu; exact hdu⟩
            have z1 : ¬ (0 : Int) ≤ -1 := by omega
            clear hdu hi hkn
            go_upto_region 17 with fail
            clear z1
            go_loopw [12, 11] (fun s12 s11 W => ∃ (i : Nat) (y : Option Addr) (yn yc : Nat), s12 = .int .i64 i ∧ s11 = .slice y yn yc ∧ Hid (i ≤ 60 ∧ ∃ X gone, Extra es X gone i ∧ (∃ lk2 L L2, Duo w gb c p m ma ml me lk d p2 m2 ma2 ml2 me2 lk2 V es N V X (V.length + 3 * i) (.slice va vn vc) (.slice ea en ec) wr0 (.slice y yn yc) gone L L2 W))) (fun s12 _ _ => 60 - (intOf s12).toNat)
            case atStart => exact ⟨0, none, 0, 0, rfl, rfl, by omega, [], [], extra_start es, unhide HD1⟩
            case round =>
              obtain ⟨i, y, yn, yc, rfl, rfl, hR⟩ := hrel
              obtain ⟨hi60, X, gone, hX, lk2, L, L2, hdu⟩ := unhide hR
              obtain ⟨c0, c1, c2, c3, cf⟩ := cellsG hdu.a.box
              clear hR HD1
              by_cases hlt : i < len1 ∧ i < 60 ∧ 0 < vn
              · obtain ⟨hl1, hl2, hl3⟩ := hlt
                obtain ⟨q1, q2, q3, q4, q5⟩ := unhide HNN
                have y1 : (i : Int) < (len1 : Int) := by omega
                have y2 : (i : Int) < 60 := by omega
                have y3 : (0 : Int) < (vn : Int) := by omega
                have y4 : ¬ (vn : Int) = 0 := by omega
                obtain ⟨b, off, rfl, -, hops⟩ := (unhide HO1).resolve_left (by omega)
                obtain ⟨hop, hok⟩ := hops i hl1
                obtain ⟨-, -, f2, f3⟩ := opAt_below hop hdu.a.bel
                clear hops hop hok
                generalize o1 i = oi at f2 f3
                obtain ⟨ok, oe, ou, ov⟩ := oi
                (try dsimp only at f2 f3)
                obtain ⟨l1, hp1, hl1'⟩ := pickL ou vn (by omega) (by omega)
                obtain ⟨l2, hp2, hl2'⟩ := pickL ov vn (by omega) (by omega)
                have hu := pickU vn (by omega)
                obtain ⟨x1, hx1⟩ : ∃ x1, V[l1]? = some x1 := ⟨_, List.getElem?_eq_getElem (by omega)⟩
                obtain ⟨x2, hx2⟩ : ∃ x2, V[l2]? = some x2 := ⟨_, List.getElem?_eq_getElem (by omega)⟩
                obtain ⟨vg, rfl⟩ := brow_some hdu.a.vs (by omega)
                have d1 := brow_at hdu.a.vs hx1
                have d2 := brow_at hdu.a.vs hx2
                have y5 : (l1 : Int) < (vn : Int) := by omega
                have y6 : (l2 : Int) < (vn : Int) := by omega
                obtain ⟨ei, hei⟩ : ∃ ei, ei = -1 - (i : Int) := ⟨_, rfl⟩
                have hok : okN ei := WalkArith.wf_i64 (by omega)
                obtain ⟨i1, hi1⟩ : ∃ i1, i1 = i + 1 := ⟨_, rfl⟩
                have zw : Hid (wrap64 ((i : Int) + 1) = (i1 : Int)) := by show wrap64 ((i : Int) + 1) = (i1 : Int); unfold wrap64; omega
                have HI : Hid (i1 = i + 1 ∧ i1 ≤ 60 ∧ 60 - i1 < 60 - i ∧ ei = -1 - (i : Int) ∧ okN ei ∧ x1 ∈ V ∧ x2 ∈ V ∧ V.length + 3 * i ≤ 900 ∧ V.length + 3 * i + 3 = V.length + 3 * i1 ∧ es.length ≤ 180) := ⟨hi1, by omega, by omega, hei, hok, List.mem_of_getElem? hx1, List.mem_of_getElem? hx2, by omega, by omega, q4⟩
                have HX := hide hX
                have HDU := hide hdu
                have ze : wrap64 (-1 - (i : Int)) = ei := by rw [hei]; unfold wrap64; omega
                clear hdu hX hx1 hx2 hl1 hl2 hl3 hl1' hl2' hi60 hi1 hei hok q1 q2 q3 q4 q5
                go_upto_region 20 with fail
                clear ze
                rw [show (-1 : Int) - (i : Int) = ei from (unhide HI).2.2.2.1.symm]
                go_quiet (fail)
                clear f2 f3 hp1 hp2 hu y1 y2 y3 y4 y5 y6 d1 d2
                have HB1 : Hid (∀ q, Below wr.heap.size wr (wr.drewN q)) := fun q => below_drewN (Below.refl _ wr) q
                by_cases hno : arcF es ei = none
                · have CA : Hid (∀ q, Calls Tryz.prog 14 #[.agg #[.slice (some ⟨vg, 0, none⟩) vn vc, .slice ea en ec, .int .i64 0, .int .i64 wr0], .int .i64 ei] (wr.drewN q) fun e w' => e = .returned (.int .i64 (-1)) ∧ Hid (Below wr.heap.size wr w')) := fun q => by
                    have hb := unhide HB1 q
                    refine (refAt ei (grow_below (unhide HDU).a.es_ hb) (by have := (unhide HI).2.2.2.2.2.2.2.2.2; omega)).mono ?_
                    rintro e w' ⟨r, rfl, hh⟩
                    obtain ⟨h1, h2⟩ := unhide hh
                    obtain rfl := at_none h1 (arcF_none.1 hno)
                    exact ⟨rfl, hb.trans (h2.mono hb.size)⟩
                  have HNO := hide hno
                  clear hno
                  go_wp2_with fail
                  refine (unhide CA _).mono ?_
                  rintro e w6 ⟨rfl, hb6⟩
                  have HDU6 := hide ((unhide HDU).below (unhide hb6))
                  have C2 := hide (kAddAYes (unhide HDU6).k2 (unhide HDU6).g2 (by have := (unhide HI).2.2.2.2.2.2.2.1; omega) (unhide HI).2.2.2.2.1 (by rw [(unhide HI).2.2.2.1]; exact (unhide HX).fresh) (unhide HI).2.2.2.2.2.1 (unhide HI).2.2.2.2.2.2.1)
                  have HGO := hide (gok_snoc (u := x1) (v := x2) (unhide HDU6).g2 (unhide HI).2.2.2.2.1 (by rw [(unhide HI).2.2.2.1]; exact (unhide HX).fresh) (unhide HI).2.2.2.2.2.1 (unhide HI).2.2.2.2.2.2.1)
                  clear CA HDU hb6 HB1
                  have zneg : (-1 : Int) < 0 := by omega
                  go_wp2_with fail
                  refine (unhide C2).mono ?_
                  rintro e w7 ⟨rfl, hq⟩
                  clear zneg
                  obtain ⟨kk, hgo, -, -⟩ := unhide hq
                  obtain ⟨L7, L27, hdu7⟩ := (unhide HDU6).edit hgo ((unhide HGO).mono (by omega))
                  obtain ⟨y', yn', yc', w8, L8, L28, hr8, hdu8⟩ := hdu7.push ei (by have := (unhide HX).2.1; have := (unhide HI).2.1; have := (unhide HI).1; omega)
                  have HR8 := hide hr8
                  have HNX : Hid (i1 ≤ 60 ∧ ∃ X gone, Extra es X gone i1 ∧ (∃ lk2 L L2, Duo w gb c p m ma ml me lk d p2 m2 ma2 ml2 me2 lk2 V es N V X (V.length + 3 * i1) (.slice (some ⟨vg, 0, none⟩) vn vc) (.slice ea en ec) wr0 (.slice y' yn' yc') gone L L2 w8)) := by
                    obtain ⟨h1, h2, -, h4, -, -, -, -, h9, -⟩ := unhide HI
                    refine ⟨h2, X ++ [(ei, x1, x2, 0)], gone ++ [ei], ?_, (kk : Int), L8, L28, ?_⟩
                    · have := (unhide HX).more (u := x1) (v := x2) (i := i) (by rw [← h4]; exact unhide HNO)
                      rw [← h4, ← h1] at this; exact this
                    · rw [← h9]; exact hdu8
                  clear C2 hq hgo hdu7 hr8 hdu8 HDU6 HGO HNO HX c0 c1 c2 c3 cf
                  go_wp2_with (at_builtin; refine Lib.wpList_append_run _ rfl _ _ 25 25 rfl _ _ rfl rfl _ _ (unhide HR8 _) ?_)
                  (try rw [unhide zw])
                  exact ⟨⟨i1, y', yn', yc', by first | rfl | (rw [(unhide HI).1]; rfl), rfl, unhide HNX⟩, by have := (unhide HI).2.2.1; have := (unhide HI).1; simp [intOf]; omega⟩
                · have CA : Hid (∀ q, Calls Tryz.prog 14 #[.agg #[.slice (some ⟨vg, 0, none⟩) vn vc, .slice ea en ec, .int .i64 0, .int .i64 wr0], .int .i64 ei] (wr.drewN q) fun e w' => ∃ r : Nat, e = .returned (.int .i64 (r : Int)) ∧ Hid (Below wr.heap.size wr w')) := fun q => by
                    have hb := unhide HB1 q
                    refine (refAt ei (grow_below (unhide HDU).a.es_ hb) (by have := (unhide HI).2.2.2.2.2.2.2.2.2; omega)).mono ?_
                    rintro e w' ⟨r, rfl, hh⟩
                    obtain ⟨h1, h2⟩ := unhide hh
                    have hs : ∃ x ∈ es, x.1 = ei := Classical.byContradiction (fun z => hno (arcF_none.2 (fun x hx e => z ⟨x, hx, e⟩)))
                    obtain ⟨j, -, rfl, -, -⟩ := at_some h1 hs
                    exact ⟨j, rfl, hb.trans (h2.mono hb.size)⟩
                  clear hno
                  go_wp2_with fail
                  refine (unhide CA _).mono ?_
                  rintro e w6 ⟨r, rfl, hb6⟩
                  have HNX : Hid (i1 ≤ 60 ∧ ∃ X gone, Extra es X gone i1 ∧ (∃ lk2 L L2, Duo w gb c p m ma ml me lk d p2 m2 ma2 ml2 me2 lk2 V es N V X (V.length + 3 * i1) (.slice (some ⟨vg, 0, none⟩) vn vc) (.slice ea en ec) wr0 (.slice y yn yc) gone L L2 w6)) := by
                    obtain ⟨h1, h2, -, h4, -, -, -, -, h9, -⟩ := unhide HI
                    refine ⟨h2, X, gone, by rw [h1]; exact (unhide HX).stay, lk2, L, L2, ?_⟩
                    have h := (unhide HDU).below (unhide hb6)
                    rw [← h9]
                    exact ⟨h.a, h.k2.mono (by omega), h.g2.mono (by omega), h.ap, h.v2, h.e2, h.b2, h.lo2, h.gr, h.gl⟩
                  have zneg : ¬ (r : Int) < 0 := by omega
                  clear CA HDU hb6 HB1 HX c0 c1 c2 c3 cf
                  go_wp2_with fail
                  clear zneg
                  (try rw [unhide zw])
                  exact ⟨⟨i1, y, yn, yc, by first | rfl | (rw [(unhide HI).1]; rfl), rfl, unhide HNX⟩, by have := (unhide HI).2.2.1; have := (unhide HI).1; simp [intOf]; omega⟩
              · have HLT := hide hlt
                obtain ⟨N2, hN2⟩ : ∃ N2, N2 = V.length + 180 := ⟨_, rfl⟩
                have HN2 := hide hN2
                have HX := hide hX
                have HYN := hide (brow_len hdu.gr)
                have HD2 : Hid (∃ lk2 L L2, Duo w gb c p m ma ml me lk d p2 m2 ma2 ml2 me2 lk2 V es N V (X ++ from_ es es.length) (N2 + 3 * (es.length - es.length)) (.slice va vn vc) (.slice ea en ec) wr0 (.slice y yn yc) gone L L2 wr) := ⟨lk2, L, L2, by
                  rw [from_end, List.append_nil, Nat.sub_self, Nat.mul_zero, Nat.add_zero]
                  exact ⟨hdu.a, hdu.k2.mono (by omega), hdu.g2.mono (by omega), hdu.ap, hdu.v2, hdu.e2, hdu.b2, hdu.lo2, hdu.gr, hdu.gl⟩⟩
                have HI60 := hide hi60
                clear hdu hX hlt hi60 hN2
                go_upto_region 17 with fail
                go_cut [84] from 71 to 84 (fun s84 W => s84 = .bool false ∧ W = wr)
                case first =>
                  have hlt := unhide HLT
                  by_cases hl1 : i < len1
                  · have y1 : (i : Int) < (len1 : Int) := by omega
                    by_cases hl2 : i < 60
                    · have y2 : (i : Int) < 60 := by omega
                      have y3 : ¬ (0 : Int) < (vn : Int) := by omega
                      have y4 : decide (0 < vn) = false := decide_eq_false (by omega)
                      clear hl1 hl2 hlt
                      go_wp2_with fail
                      go_meet
                      case rel => exact ⟨rfl, rfl⟩
                    · have y2 : ¬ (i : Int) < 60 := by omega
                      clear hl1 hl2 hlt
                      go_wp2_with fail
                      go_meet
                      case rel => exact ⟨rfl, rfl⟩
                  · have y1 : ¬ (i : Int) < (len1 : Int) := by omega
                    clear hl1 hlt
                    go_wp2_with fail
                    go_meet
                    case rel => exact ⟨rfl, rfl⟩
                case rest =>
                  obtain ⟨rfl, rfl⟩ := hcut
                  clear HLT HO1
                  have zi : Hid (wrap64 ((en : Int) - 1) = (en : Int) - 1) := by have := unhide HNN; show wrap64 ((en : Int) - 1) = (en : Int) - 1; unfold wrap64; omega
                  go_upto_region 24 with fail
                  clear c0 c1 c2 c3 cf
                  go_loopw [16] (fun s16 W => ∃ (k : Nat) (i : Int), s16 = .int .i64 i ∧ Hid (i = (k : Int) - 1 ∧ k ≤ es.length ∧ (∃ lk2 L L2, Duo w gb c p m ma ml me lk d p2 m2 ma2 ml2 me2 lk2 V es N V (X ++ from_ es k) (N2 + 3 * (es.length - k)) (.slice va vn vc) (.slice ea en ec) wr0 (.slice y yn yc) gone L L2 W))) (fun s16 _ => (intOf s16 + 1).toNat)
                  case atStart => exact ⟨es.length, wrap64 ((en : Int) - 1), rfl, by rw [← (unhide HNN).2.1]; exact unhide zi, Nat.le_refl _, unhide HD2⟩
                  case round =>
                    obtain ⟨k, ii, rfl, hR⟩ := hrel
                    obtain ⟨hi, hkn, lk2, L, L2, hdu⟩ := unhide hR
                    clear hR HD2 zi
                    rcases k with _ | j
                    · obtain rfl : ii = -1 := by omega
                      have HD3 : Hid (∃ lk2 L L2, Duo w gb c p m ma ml me lk d p2 m2 ma2 ml2 me2 lk2 V es N V (X.drop 0 ++ from_ es 0) (N2 + 3 * es.length) (.slice va vn vc) (.slice ea en ec) wr0 (.slice y yn yc) gone L L2 wr) := ⟨lk2, L, L2, by rw [Nat.sub_zero] at hdu; rw [List.drop_zero]; exact hdu⟩
                      have z1 : ¬ (0 : Int) ≤ -1 := by omega
                      clear hdu hi hkn
                      go_upto_region 29 with fail
                      clear z1
                      go_loopw [168] (fun s168 W => ∃ k : Nat, s168 = .int .i64 k ∧ Hid (k ≤ yn ∧ (∃ lk2 L L2, Duo w gb c p m ma ml me lk d p2 m2 ma2 ml2 me2 lk2 V es N V (X.drop k ++ from_ es 0) (N2 + 3 * es.length) (.slice va vn vc) (.slice ea en ec) wr0 (.slice y yn yc) gone L L2 W))) (fun s168 _ => yn - (intOf s168).toNat)
                      case atStart => exact ⟨0, rfl, Nat.zero_le _, unhide HD3⟩
                      case round =>
                        obtain ⟨k, rfl, hR⟩ := hrel
                        obtain ⟨hk, lk2, L, L2, hdu⟩ := unhide hR
                        clear hR HD3
                        obtain ⟨q1, q2, q3, q4, q5⟩ := unhide HNN
                        have q6 := unhide HYN
                        have q7 := unhide HN2
                        have hxl : X.length = yn := by rw [q6, ← (unhide HX).1, List.length_map]
                        by_cases hlt : k < yn
                        · obtain ⟨⟨e, u, v, bb⟩, hx⟩ : ∃ x, X[k]? = some x := ⟨_, List.getElem?_eq_getElem (by omega)⟩
                          have hge : gone[k]? = some e := by rw [← (unhide HX).1, List.getElem?_map, hx]; rfl
                          obtain ⟨yg, rfl⟩ := brow_some hdu.gr (by omega)
                          have d1 := brow_at hdu.gr hge
                          have hdr : X.drop k = (e, u, v, bb) :: X.drop (k + 1) := by
                            obtain ⟨hl, hh⟩ := List.getElem?_eq_some_iff.1 hx
                            rw [List.drop_eq_getElem_cons hl, hh]
                          have h0 : (X.drop k ++ from_ es 0)[0]? = some (e, u, v, bb) := by rw [hdr]; rfl
                          have e2 : (X.drop k ++ from_ es 0).take 0 ++ (X.drop k ++ from_ es 0).drop (0 + 1) = X.drop (k + 1) ++ from_ es 0 := by rw [hdr]; rfl
                          have C1 := hide (kDropAYes hdu.k2 hdu.g2 (by omega) h0)
                          have hg := gok_cut hdu.g2 h0
                          rw [e2] at hg
                          have HE2 := hide e2
                          have HGO := hide hg
                          have HDU := hide hdu
                          obtain ⟨k1, hk1⟩ : ∃ k1, k1 = k + 1 := ⟨_, rfl⟩
                          have zk : Hid (wrap64 ((k : Int) + 1) = (k1 : Int)) := by show wrap64 ((k : Int) + 1) = (k1 : Int); unfold wrap64; have := (unhide HX).2.1; have := unhide HI60; omega
                          have HJ : Hid (k1 = k + 1 ∧ k1 ≤ yn ∧ yn - k1 < yn - k) := ⟨hk1, by omega, by omega⟩
                          have z1 : (k : Int) < (yn : Int) := by omega
                          clear hdu hk hlt hk1 q1 q2 q3 q4 q5 q6 q7 hx hge hdr h0 e2 hg hxl
                          go_wp2_with fail
                          refine (unhide C1).mono ?_
                          rintro e5 w5 ⟨rfl, hq⟩
                          have HJ2 : Hid (∃ lk2 L L2, Duo w gb c p m ma ml me lk d p2 m2 ma2 ml2 me2 lk2 V es N V (X.drop k1 ++ from_ es 0) (N2 + 3 * es.length) (.slice va vn vc) (.slice ea en ec) wr0 (.slice (some ⟨yg, 0, none⟩) yn yc) gone L L2 w5) := by
                            obtain ⟨kk, hgo, -, -⟩ := unhide hq
                            rw [unhide HE2] at hgo
                            rw [(unhide HJ).1]
                            exact ⟨_, (unhide HDU).edit hgo (unhide HGO)⟩
                          clear C1 HDU hq HGO HE2 d1
                          go_wp2_with fail
                          (try rw [unhide zk])
                          exact ⟨⟨k1, by first | rfl | (rw [(unhide HJ).1]; rfl), (unhide HJ).2.1, unhide HJ2⟩, by have := (unhide HJ).2.2; have := (unhide HJ).1; simp [intOf]; omega⟩
                        · have z1 : ¬ (k : Int) < (yn : Int) := by omega
                          have ed : X.drop k ++ from_ es 0 = from_ es 0 := by rw [List.drop_eq_nil_of_le (by omega)]; rfl
                          rw [ed] at hdu
                          have HS : Hid (LS w gb c p m ma ml me lk V es N (.slice va vn vc) (.slice ea en ec) wr0 L wr ∧ LS w gb d p2 m2 ma2 ml2 me2 lk2 V es (N2 + 3 * es.length) (.slice va vn vc) (.slice ea en ec) wr0 L2 wr) := ⟨hdu.a, hdu.second (by omega) (from_arcF hdu.a.g.uni hdu.g2.uni) (fun x y => from_ae x y)⟩
                          have HNV : Hid (vn = V.length ∧ V.length ≤ 180 ∧ N ≤ 900 ∧ N2 + 3 * es.length ≤ 900) := ⟨q1, by omega, by omega, by omega⟩
                          clear hdu hk hlt q1 q2 q3 q4 q5 q6 q7 hxl ed HX HYN HN2 HNN HI60
                          obtain ⟨c0, c1, c2, c3, cf⟩ := cellsG (unhide HS).1.box
                          go_upto_region 35 with fail
                          clear z1 c0 c1 c2 c3 cf
                          obtain ⟨W0, hW0⟩ : ∃ W0, W0 = wr := ⟨_, rfl⟩
                          rw [← hW0] at HS ⊢
                          clear hW0 wr
                          have CM : Hid (∀ x ∈ V, ∃ msl : List Int, msl.length ≤ 900 ∧ (∀ W, Below W0.heap.size W0 W → Calls Tryz.prog 11 #[.pointer (some ⟨c, 0, none⟩), .int .i64 x] W fun e w' => ∃ a n c', e = .returned (.slice a n c') ∧ Hid (BRow W.heap.size w' (.slice a n c') msl ∧ Below W.heap.size W w')) ∧ (∀ W, Below W0.heap.size W0 W → Calls Tryz.prog 11 #[.pointer (some ⟨d, 0, none⟩), .int .i64 x] W fun e w' => ∃ a n c', e = .returned (.slice a n c') ∧ Hid (BRow W.heap.size w' (.slice a n c') msl ∧ Below W.heap.size W w'))) := fun x hx => by
                            obtain ⟨s1, s2⟩ := unhide HS
                            obtain ⟨-, -, n1, n2⟩ := unhide HNV
                            obtain ⟨msl, hml, hmll⟩ := memL_ex s1 n1 x
                            have hox := s1.g.okV x hx
                            refine ⟨msl, hmll, fun W hW => ?_, fun W hW => ?_⟩
                            · refine (ls_memL (s1.below hW) n1 hox).mono ?_
                              rintro e w' ⟨a, n, c', rfl, hq⟩
                              obtain ⟨ms, q1, -, q3, q4⟩ := unhide hq
                              obtain rfl := q1.uni hml
                              exact ⟨a, n, c', rfl, q3, q4⟩
                            · refine (ls_memL (s2.below hW) n2 hox).mono ?_
                              rintro e w' ⟨a, n, c', rfl, hq⟩
                              obtain ⟨ms, q1, -, q3, q4⟩ := unhide hq
                              obtain rfl := q1.uni hml
                              exact ⟨a, n, c', rfl, q3, q4⟩
                          go_loopw [180] (fun s180 W => ∃ k : Nat, s180 = .int .i64 k ∧ Hid (k ≤ vn ∧ Below W0.heap.size W0 W)) (fun s180 _ => vn - (intOf s180).toNat)
                          case atStart => exact ⟨0, rfl, Nat.zero_le _, Below.refl _ _⟩
                          case round =>
                            obtain ⟨k, rfl, hR⟩ := hrel
                            obtain ⟨hk, hb⟩ := unhide hR
                            clear hR
                            by_cases hlt : k < vn
                            · have hvs := ((unhide HS).1.below hb).vs
                              obtain ⟨x, hx⟩ : ∃ x, V[k]? = some x := ⟨_, List.getElem?_eq_getElem (by have := (unhide HNV).1; omega)⟩
                              obtain ⟨vg, rfl⟩ := brow_some hvs (by have := (unhide HNV).1; omega)
                              have d1 := brow_at hvs hx
                              obtain ⟨msl, hml, CC, CD⟩ := unhide CM x (List.mem_of_getElem? hx)
                              have C1 := hide (CC wr hb)
                              have CD2 := hide CD
                              have HB := hide hb
                              have HML := hide hml
                              obtain ⟨k1, hk1⟩ : ∃ k1, k1 = k + 1 := ⟨_, rfl⟩
                              have zk : Hid (wrap64 ((k : Int) + 1) = (k1 : Int)) := by have := unhide HNV; show wrap64 ((k : Int) + 1) = (k1 : Int); unfold wrap64; omega
                              have HJ : Hid (k1 = k + 1 ∧ k1 ≤ vn ∧ vn - k1 < vn - k) := ⟨hk1, by omega, by omega⟩
                              have z1 : (k : Int) < (vn : Int) := by omega
                              clear hvs hx CC CD hb hml hk hlt hk1
                              go_wp2_with fail
                              refine (unhide C1).mono ?_
                              rintro e1 w5 ⟨xa, xn, xc, rfl, Q1⟩
                              have B5 : Hid (Below W0.heap.size W0 w5) := (unhide HB).trans ((unhide Q1).2.mono (unhide HB).size)
                              have C2 := hide (unhide CD2 w5 (unhide B5))
                              clear C1 CD2 d1
                              go_wp2_with fail
                              refine (unhide C2).mono ?_
                              rintro e2 w6 ⟨ya, yn2, yc2, rfl, Q2⟩
                              have B6 : Hid (Below W0.heap.size W0 w6) := (unhide B5).trans ((unhide Q2).2.mono (unhide B5).size)
                              have CS := hide (sameInts9 (nrow_below (brow_low (unhide Q1).1 (Nat.zero_le _)) (unhide Q2).2) (brow_low (unhide Q2).1 (Nat.zero_le _)) (by have := unhide HML; omega))
                              rw [decide_eq_true rfl] at CS
                              clear C2 Q1 Q2 B5
                              go_wp2_with fail
                              refine (unhide CS).mono ?_
                              rintro e3 w7 ⟨rfl, q7, hw7⟩
                              have B7 : Hid (Below W0.heap.size W0 w7) := by rw [hw7]; exact below_drewN (unhide B6) q7
                              clear CS hw7 B6
                              go_wp2_with fail
                              (try rw [unhide zk])
                              exact ⟨⟨k1, by first | rfl | (rw [(unhide HJ).1]; rfl), (unhide HJ).2.1, unhide B7⟩, by have := (unhide HJ).2.2; have := (unhide HJ).1; simp [intOf]; omega⟩
                            · have z1 : ¬ (k : Int) < (vn : Int) := by omega
                              obtain ⟨h0, H⟩ := heads_ex (nextOf V (arcsE es)) V.length
                              obtain ⟨hsl, hhsl⟩ : ∃ hsl, hsl = hdsOf (compsV V h0 V.length) := ⟨_, rfl⟩
                              obtain ⟨asl, hasl⟩ : ∃ asl, asl = arcA (compsV V h0 V.length) es (compsV V h0 V.length).length := ⟨_, rfl⟩
                              have HHL : Hid (hsl.length ≤ 900) := by
                                show hsl.length ≤ 900
                                rw [hhsl]
                                have q := outR_len V h0 V.length V.length
                                rw [outR_all] at q
                                unfold hdsOf
                                rw [List.length_map]
                                have := (unhide HNV).2.1
                                omega
                              have CH1 : Hid (∀ W, Below W0.heap.size W0 W → Calls Tryz.prog 18 #[.pointer (some ⟨c, 0, none⟩)] W fun e w' => ∃ a n c', e = .returned (.slice a n c') ∧ Hid (BRow W.heap.size w' (.slice a n c') hsl ∧ Below W.heap.size W w')) := fun W hW => by
                                rw [hhsl]
                                exact ls_hds ((unhide HS).1.below hW) (unhide HNV).2.2.1 H
                              have CH2 : Hid (∀ W, Below W0.heap.size W0 W → Calls Tryz.prog 18 #[.pointer (some ⟨d, 0, none⟩)] W fun e w' => ∃ a n c', e = .returned (.slice a n c') ∧ Hid (BRow W.heap.size w' (.slice a n c') hsl ∧ Below W.heap.size W w')) := fun W hW => by
                                rw [hhsl]
                                exact ls_hds ((unhide HS).2.below hW) (unhide HNV).2.2.2 H
                              have CA1 : Hid (∀ W, Below W0.heap.size W0 W → Calls Tryz.prog 20 #[.pointer (some ⟨c, 0, none⟩)] W fun e w' => ∃ a n c', e = .returned (.slice a n c') ∧ Hid (ABRow W.heap.size w' (.slice a n c') asl ∧ asl.length ≤ N ∧ Below W.heap.size W w')) := fun W hW => by
                                rw [hasl]
                                exact ls_arcs ((unhide HS).1.below hW) (unhide HNV).2.2.1 H
                              have CA2 : Hid (∀ W, Below W0.heap.size W0 W → Calls Tryz.prog 20 #[.pointer (some ⟨d, 0, none⟩)] W fun e w' => ∃ a n c', e = .returned (.slice a n c') ∧ Hid (ABRow W.heap.size w' (.slice a n c') asl ∧ asl.length ≤ N2 + 3 * es.length ∧ Below W.heap.size W w')) := fun W hW => by
                                rw [hasl]
                                exact ls_arcs ((unhide HS).2.below hW) (unhide HNV).2.2.2 H
                              have C1 := hide (unhide CH1 wr hb)
                              have HB := hide hb
                              have HBW := hide (unhide HS).1.bel
                              clear hk hlt hb H hhsl hasl CH1 CM HS
                              go_wp2_with fail
                              refine (unhide C1).mono ?_
                              rintro e1 w5 ⟨xa, xn, xc, rfl, Q1⟩
                              have B5 : Hid (Below W0.heap.size W0 w5) := (unhide HB).trans ((unhide Q1).2.mono (unhide HB).size)
                              have C2 := hide (unhide CH2 w5 (unhide B5))
                              clear C1 CH2 HB
                              go_wp2_with fail
                              refine (unhide C2).mono ?_
                              rintro e2 w6 ⟨ya, yn2, yc2, rfl, Q2⟩
                              have B6 : Hid (Below W0.heap.size W0 w6) := (unhide B5).trans ((unhide Q2).2.mono (unhide B5).size)
                              have CS := hide (sameInts9 (nrow_below (brow_low (unhide Q1).1 (Nat.zero_le _)) (unhide Q2).2) (brow_low (unhide Q2).1 (Nat.zero_le _)) (by have := unhide HHL; omega))
                              rw [decide_eq_true rfl] at CS
                              clear C2 Q1 Q2 B5
                              go_wp2_with fail
                              refine (unhide CS).mono ?_
                              rintro e3 w7 ⟨rfl, q7, hw7⟩
                              have B7 : Hid (Below W0.heap.size W0 w7) := by rw [hw7]; exact below_drewN (unhide B6) q7
                              have C3 := hide (unhide CA1 w7 (unhide B7))
                              clear CS hw7 B6 CA1
                              go_wp2_with fail
                              refine (unhide C3).mono ?_
                              rintro e1 w8 ⟨za, zn, zc, rfl, Q3⟩
                              have B8 : Hid (Below W0.heap.size W0 w8) := (unhide B7).trans ((unhide Q3).2.2.mono (unhide B7).size)
                              have C4 := hide (unhide CA2 w8 (unhide B8))
                              clear C3 CA2 B7
                              go_wp2_with fail
                              refine (unhide C4).mono ?_
                              rintro e1 w9 ⟨ta, tn, tc, rfl, Q4⟩
                              have B9 : Hid (Below W0.heap.size W0 w9) := (unhide B8).trans ((unhide Q4).2.2.mono (unhide B8).size)
                              have CT := hide (sameArcsS (abrow_kept (unhide Q3).1 (fun b q => (unhide Q4).2.2.block b ((unhide Q3).1.lt b q).2)) (unhide Q4).1 (by have := (unhide Q3).2.1; have := (unhide HNV).2.2.1; omega))
                              clear C4 B8 Q3 Q4
                              go_wp2_with fail
                              refine (unhide CT).mono ?_
                              rintro e3 w10 ⟨rfl, q10, hw10⟩
                              have HE : Hid (Below w.heap.size w w10) := by
                                have hb := below_drewN (unhide B9) q10
                                rw [← hw10] at hb
                                exact (unhide HBW).trans (hb.mono (unhide HBW).size)
                              clear CT hw10 B9 HBW
                              go_wp2_with fail
                              go_ret
                              exact ⟨rfl, unhide HE⟩
                    · obtain rfl : ii = (j : Int) := by omega
                      obtain ⟨q1, q2, q3, q4, q5⟩ := unhide HNN
                      obtain ⟨⟨e, u, v, bb⟩, hx⟩ : ∃ x, es[j]? = some x := ⟨_, List.getElem?_eq_getElem (by omega)⟩
                      obtain ⟨eg, ec', heg, hec⟩ := grow_at hdu.a.es_ (by omega)
                      injection heg with heg1 heg2 heg3
                      subst heg1
                      obtain ⟨d1, d2, d3, -⟩ := hec j _ hx
                      (try dsimp only at d1 d2 d3)
                      obtain ⟨c0, c1, c2, c3, cf⟩ := cellsG hdu.a.box
                      have hxm := List.mem_of_getElem? hx
                      have hdu1 := hdu.below (below_drewN (Below.refl _ wr) 1)
                      have hfr := arcF_two (unhide HX) hdu.a.g.uni hx
                      have hends := hdu.a.g.end1 hxm
                      have hoe := hdu.a.g.okE _ hxm
                      (try dsimp only at hends hoe)
                      have HNB : Hid (N2 + 3 * (es.length - (j + 1)) + 3 = N2 + 3 * (es.length - j) ∧ N2 + 3 * (es.length - (j + 1)) ≤ 1000) := by have := unhide HN2; exact ⟨by omega, by omega⟩
                      have C1 := hide (kAddAYes hdu1.k2 hdu1.g2 (unhide HNB).2 hoe hfr hends.1 hends.2)
                      have HGO := hide (gok_snoc hdu1.g2 hoe hfr hends.1 hends.2)
                      have HDU := hide hdu1
                      have HXX := hide hx
                      obtain ⟨i1, hi1⟩ : ∃ i1, i1 = (j : Int) - 1 := ⟨_, rfl⟩
                      have zw : Hid (wrap64 ((j : Int) - 1) = i1) := by show wrap64 ((j : Int) - 1) = i1; unfold wrap64; omega
                      have HJ : Hid (i1 = (j : Int) - 1 ∧ j ≤ es.length) := ⟨hi1, by omega⟩
                      have z1 : (0 : Int) ≤ (j : Int) := by omega
                      have z2 : (j : Int) < (en : Int) := by omega
                      clear hdu hdu1 hi hkn hi1 q1 q2 q3 q4 q5 hx hxm hfr hends hoe hec heg2 heg3 c0 c2 c3 cf
                      go_upto_region 26 with fail
                      refine wp_region_noPanic ?_
                      refine regionL [] (fun y => y.cell? ⟨gb, 1, none⟩ = some (.slice (some ⟨eg, 0, none⟩) en ec) ∧ y.cell? ⟨eg, j * 4, none⟩ = some (.int .i64 e) ∧ y.cell? ⟨eg, j * 4 + 1, none⟩ = some (.int .i64 u) ∧ y.cell? ⟨eg, j * 4 + 2, none⟩ = some (.int .i64 v)) (by kernel_rfl) ⟨c1, d1, d2, d3⟩ (fun hHeld => ?_)
                      refine takeL (i := 0) (v := ?t28v0) (some 145) rfl rfl (by kernel_rfl) (by kernel_rfl) (by kernel_rfl) (by kernel_rfl) (by kernel_rfl) (fun _ _ _ h => h) (Or.inl ⟨by rfl, ?t28h0⟩) (by assumption) ?t28r0
                      case t28h0 => (intro y hSu; (try dsimp only at hSu); go_simp; first | done | with_reducible rfl)
                      (try simp only [Act.put, List.setIfInBounds_toArray, List.set_cons_zero, List.set_cons_succ])
                      refine takeL (i := 1) (v := ?t28v1) (some 146) rfl rfl (by kernel_rfl) (by kernel_rfl) (by kernel_rfl) (by kernel_rfl) (by kernel_rfl) (fun _ _ _ h => h) (Or.inl ⟨by rfl, ?t28h1⟩) (by assumption) ?t28r1
                      case t28h1 => (intro y hSu; (try dsimp only at hSu); go_simp; first | done | with_reducible rfl)
                      (try simp only [Act.put, List.setIfInBounds_toArray, List.set_cons_zero, List.set_cons_succ])
                      refine takeL (i := 2) (v := ?t28v2) (some 147) rfl rfl (by kernel_rfl) (by kernel_rfl) (by kernel_rfl) (by kernel_rfl) (by kernel_rfl) (fun _ _ _ h => h) (Or.inl ⟨by rfl, ?t28h2⟩) (by assumption) ?t28r2
                      case t28h2 => (intro y hSu; (try dsimp only at hSu); go_simp; first | done | with_reducible rfl)
                      (try simp only [Act.put, List.setIfInBounds_toArray, List.set_cons_zero, List.set_cons_succ])
                      refine takeL (i := 3) (v := ?t28v3) (some 148) rfl rfl (by kernel_rfl) (by kernel_rfl) (by kernel_rfl) (by kernel_rfl) (by kernel_rfl) (fun _ _ _ h => h) (Or.inl ⟨by rfl, ?t28h3⟩) (by assumption) ?t28r3
                      case t28h3 => (intro y hSu; (try dsimp only at hSu); go_simp; first | done | with_reducible rfl)
                      (try simp only [Act.put, List.setIfInBounds_toArray, List.set_cons_zero, List.set_cons_succ])
                      refine takeL (i := 4) (v := ?t28v4) (some 149) rfl rfl (by kernel_rfl) (by kernel_rfl) (by kernel_rfl) (by kernel_rfl) (by kernel_rfl) (fun _ _ _ h => h) (Or.inl ⟨by rfl, ?t28h4⟩) (by assumption) ?t28r4
                      case t28h4 => (intro y hSu; (try dsimp only at hSu); go_simp; first | done | with_reducible rfl)
                      (try simp only [Act.put, List.setIfInBounds_toArray, List.set_cons_zero, List.set_cons_succ])
                      refine takeL (i := 5) (v := ?t28v5) (some 150) rfl rfl (by kernel_rfl) (by kernel_rfl) (by kernel_rfl) (by kernel_rfl) (by kernel_rfl) (fun _ _ _ h => h) (Or.inl ⟨by rfl, ?t28h5⟩) (by assumption) ?t28r5
                      case t28h5 => (intro y hSu; (try dsimp only at hSu); go_simp; first | done | with_reducible rfl)
                      (try simp only [Act.put, List.setIfInBounds_toArray, List.set_cons_zero, List.set_cons_succ])
                      refine takeL (i := 6) (v := ?t28v6) (some 151) rfl rfl (by kernel_rfl) (by kernel_rfl) (by kernel_rfl) (by kernel_rfl) (by kernel_rfl) (fun _ _ _ h => h) (Or.inl ⟨by rfl, ?t28h6⟩) (by assumption) ?t28r6
                      case t28h6 => (intro y hSu; (try dsimp only at hSu); go_simp; first | done | with_reducible rfl)
                      (try simp only [Act.put, List.setIfInBounds_toArray, List.set_cons_zero, List.set_cons_succ])
                      refine takeL (i := 7) (v := ?t28v7) (some 152) rfl rfl (by kernel_rfl) (by kernel_rfl) (by kernel_rfl) (by kernel_rfl) (by kernel_rfl) (fun _ _ _ h => h) (Or.inl ⟨by rfl, ?t28h7⟩) (by assumption) ?t28r7
                      case t28h7 => (intro y hSu; (try dsimp only at hSu); go_simp; first | done | with_reducible rfl)
                      (try simp only [Act.put, List.setIfInBounds_toArray, List.set_cons_zero, List.set_cons_succ])
                      refine takeL (i := 8) (v := ?t28v8) (some 153) rfl rfl (by kernel_rfl) (by kernel_rfl) (by kernel_rfl) (by kernel_rfl) (by kernel_rfl) (fun _ _ _ h => h) (Or.inl ⟨by rfl, ?t28h8⟩) (by assumption) ?t28r8
                      case t28h8 => (intro y hSu; (try dsimp only at hSu); go_simp; first | done | with_reducible rfl)
                      (try simp only [Act.put, List.setIfInBounds_toArray, List.set_cons_zero, List.set_cons_succ])
                      refine takeL (i := 9) (v := ?t28v9) (some 154) rfl rfl (by kernel_rfl) (by kernel_rfl) (by kernel_rfl) (by kernel_rfl) (by kernel_rfl) (fun _ _ _ h => h) (Or.inl ⟨by rfl, ?t28h9⟩) (by assumption) ?t28r9
                      case t28h9 => (intro y hSu; (try dsimp only at hSu); go_simp; first | done | with_reducible rfl)
                      (try simp only [Act.put, List.setIfInBounds_toArray, List.set_cons_zero, List.set_cons_succ])
                      refine takeL (i := 10) (v := ?t28v10) (some 155) rfl rfl (by kernel_rfl) (by kernel_rfl) (by kernel_rfl) (by kernel_rfl) (by kernel_rfl) (fun _ _ _ h => h) (Or.inl ⟨by rfl, ?t28h10⟩) (by assumption) ?t28r10
                      case t28h10 => (intro y hSu; (try dsimp only at hSu); go_simp; first | done | with_reducible rfl)
                      (try simp only [Act.put, List.setIfInBounds_toArray, List.set_cons_zero, List.set_cons_succ])
                      refine takeL (i := 11) (v := ?t28v11) (some 156) rfl rfl (by kernel_rfl) (by kernel_rfl) (by kernel_rfl) (by kernel_rfl) (by kernel_rfl) (fun _ _ _ h => h) (Or.inl ⟨by rfl, ?t28h11⟩) (by assumption) ?t28r11
                      case t28h11 => (intro y hSu; (try dsimp only at hSu); go_simp; first | done | with_reducible rfl)
                      (try simp only [Act.put, List.setIfInBounds_toArray, List.set_cons_zero, List.set_cons_succ])
                      refine takeL (i := 12) (v := ?t28v12) (some 157) rfl rfl (by kernel_rfl) (by kernel_rfl) (by kernel_rfl) (by kernel_rfl) (by kernel_rfl) (fun _ _ _ h => h) (Or.inl ⟨by rfl, ?t28h12⟩) (by assumption) ?t28r12
                      case t28h12 => (intro y hSu; (try dsimp only at hSu); go_simp; first | done | with_reducible rfl)
                      (try simp only [Act.put, List.setIfInBounds_toArray, List.set_cons_zero, List.set_cons_succ])
                      refine takeL (i := 13) (v := ?t28v13) (some 158) rfl rfl (by kernel_rfl) (by kernel_rfl) (by kernel_rfl) (by kernel_rfl) (by kernel_rfl) (fun _ _ _ h => h) (Or.inl ⟨by rfl, ?t28h13⟩) (by assumption) ?t28r13
                      case t28h13 => (intro y hSu; (try dsimp only at hSu); go_simp; first | done | with_reducible rfl)
                      (try simp only [Act.put, List.setIfInBounds_toArray, List.set_cons_zero, List.set_cons_succ])
                      refine takeL (i := 14) (v := ?t28v14) (some 159) rfl rfl (by kernel_rfl) (by kernel_rfl) (by kernel_rfl) (by kernel_rfl) (by kernel_rfl) (fun _ _ _ h => h) (Or.inl ⟨by rfl, ?t28h14⟩) (by assumption) ?t28r14
                      case t28h14 => (intro y hSu; (try dsimp only at hSu); go_simp; first | done | with_reducible rfl)
                      (try simp only [Act.put, List.setIfInBounds_toArray, List.set_cons_zero, List.set_cons_succ])
                      refine takeL (i := 15) (v := ?t28v15) (some 160) rfl rfl (by kernel_rfl) (by kernel_rfl) (by kernel_rfl) (by kernel_rfl) (by kernel_rfl) (fun _ _ _ h => h) (Or.inl ⟨by rfl, ?t28h15⟩) (by assumption) ?t28r15
                      case t28h15 => (intro y hSu; (try dsimp only at hSu); go_simp; first | done | with_reducible rfl)
                      (try simp only [Act.put, List.setIfInBounds_toArray, List.set_cons_zero, List.set_cons_succ])
                      refine takeL (i := 16) (v := ?t28v16) (some 161) rfl rfl (by kernel_rfl) (by kernel_rfl) (by kernel_rfl) (by kernel_rfl) (by kernel_rfl) (fun _ _ _ h => h) (Or.inl ⟨by rfl, ?t28h16⟩) (by assumption) ?t28r16
                      case t28h16 => (intro y hSu; (try dsimp only at hSu); go_simp; first | done | with_reducible rfl)
                      (try simp only [Act.put, List.setIfInBounds_toArray, List.set_cons_zero, List.set_cons_succ])
                      refine takeL (i := 17) (v := ?t28v17) (some 162) rfl rfl (by kernel_rfl) (by kernel_rfl) (by kernel_rfl) (by kernel_rfl) (by kernel_rfl) (fun _ _ _ h => h) (Or.inl ⟨by rfl, ?t28h17⟩) (by assumption) ?t28r17
                      case t28h17 => (intro y hSu; (try dsimp only at hSu); go_simp; first | done | with_reducible rfl)
                      (try simp only [Act.put, List.setIfInBounds_toArray, List.set_cons_zero, List.set_cons_succ])
                      refine takeL (i := 18) (v := ?t28v18) (some 163) rfl rfl (by kernel_rfl) (by kernel_rfl) (by kernel_rfl) (by kernel_rfl) (by kernel_rfl) (fun _ _ _ h => h) (Or.inl ⟨by rfl, ?t28h18⟩) (by assumption) ?t28r18
                      case t28h18 => (intro y hSu; (try dsimp only at hSu); go_simp; first | done | with_reducible rfl)
                      (try simp only [Act.put, List.setIfInBounds_toArray, List.set_cons_zero, List.set_cons_succ])
                      refine readyL (i := 19) (by kernel_rfl) rfl (fun K hK => ?_)
                      go_simp
                      refine (unhide C1).mono ?_
                      rintro e5 w5 ⟨rfl, hq⟩
                      have HJ2 : Hid (∃ lk2 L L2, Duo w gb c p m ma ml me lk d p2 m2 ma2 ml2 me2 lk2 V es N V (X ++ from_ es j) (N2 + 3 * (es.length - j)) (.slice va vn vc) (.slice (some ⟨eg, 0, none⟩) en ec) wr0 (.slice y yn yc) gone L L2 w5) := by
                        obtain ⟨kk, hgo, -, -⟩ := unhide hq
                        rw [(unhide HNB).1, List.append_assoc, ← from_step (unhide HXX)] at hgo
                        have hg := (unhide HGO).mono (show _ ≤ N2 + 3 * (es.length - j) by have := (unhide HNB).1; omega)
                        rw [List.append_assoc, ← from_step (unhide HXX)] at hg
                        exact ⟨_, (unhide HDU).edit hgo hg⟩
                      have HE5 : Hid (w5.cell? ⟨gb, 1, none⟩ = some (.slice (some ⟨eg, 0, none⟩) en ec) ∧ w5.cell? ⟨eg, j * 4, none⟩ = some (.int .i64 e) ∧ w5.cell? ⟨eg, j * 4 + 1, none⟩ = some (.int .i64 u) ∧ w5.cell? ⟨eg, j * 4 + 2, none⟩ = some (.int .i64 v)) := by
                        obtain ⟨_, _, _, h5⟩ := unhide HJ2
                        obtain ⟨eg', ec', heg, hec⟩ := grow_at h5.a.es_ (by have := (List.getElem?_eq_some_iff.1 (unhide HXX)).1; omega)
                        injection heg with heg1 heg2 heg3
                        injection heg1 with heg1
                        injection heg1 with heg1
                        obtain ⟨r1, r2, r3, -⟩ := hec j _ (unhide HXX)
                        rw [← heg1] at r1 r2 r3
                        exact ⟨(cellsG h5.a.box).2.1, r1, r2, r3⟩
                      clear C1 HDU hq HGO HNB HXX
                      (try dsimp only)
                      refine hK.out _ _ (fun _ => (unhide HE5)) ?_
                      clear hK K
                      (try simp only [Act.put, List.setIfInBounds_toArray, List.set_cons_zero, List.set_cons_succ])
                      have hH30 := (unhide HE5)
                      refine takeL (i := 20) (v := ?t31v20) (some 165) rfl rfl (by kernel_rfl) (by kernel_rfl) (by kernel_rfl) (by kernel_rfl) (by kernel_rfl) (fun _ _ _ h => h) (Or.inl ⟨by rfl, ?t31h20⟩) (by assumption) ?t31r20
                      case t31h20 => (intro y hSu; (try dsimp only at hSu); go_simp; first | done | with_reducible rfl)
                      (try simp only [Act.put, List.setIfInBounds_toArray, List.set_cons_zero, List.set_cons_succ])
                      refine doneL (by kernel_rfl) ?_ _
                      refine NoPanic.normal ?_
                      clear c1 d1 d2 d3
                      go_wp2_with fail
                      (try rw [unhide zw])
                      exact ⟨⟨j, i1, rfl, (unhide HJ).1, (unhide HJ).2, unhide HJ2⟩, by have := (unhide HJ).1; simp [intOf]; omega⟩
          · obtain rfl : i = (j : Int) := by omega
            obtain ⟨q1, q2, q3, q4, q5⟩ := unhide HNN
            obtain ⟨x, hx⟩ : ∃ x, V[j]? = some x := ⟨_, List.getElem?_eq_getElem (by omega)⟩
            obtain ⟨vg, rfl⟩ := brow_some hdu.a.vs (by omega)
            have d1 := brow_at hdu.a.vs hx
            obtain ⟨c0, c1, c2, c3, cf⟩ := cellsG hdu.a.box
            have C1 := hide (kAddVNew hdu.k2 hdu.g2 (by omega) (hdu.a.g.okV x (List.mem_of_getElem? hx)) (drop_not hdu.a.g.rise hx) (drop_mem hx))
            have HDU := hide hdu
            have HG := hide (gok_drop hdu.a.g j)
            obtain ⟨i1, hi1⟩ : ∃ i1, i1 = (j : Int) - 1 := ⟨_, rfl⟩
            have zw : Hid (wrap64 ((j : Int) - 1) = i1) := by show wrap64 ((j : Int) - 1) = i1; unfold wrap64; omega
            have HJ : Hid (i1 = (j : Int) - 1 ∧ j ≤ vn ∧ V.length - (j + 1) + 1 = V.length - j) := ⟨hi1, by omega, by omega⟩
            have z1 : (0 : Int) ≤ (j : Int) := by omega
            have z2 : (j : Int) < (vn : Int) := by omega
            clear hdu hi hkn hi1 q1 q2 q3 q4 q5 hx
            go_wp2_with fail
            refine (unhide C1).mono ?_
            rintro e w5 ⟨rfl, hq⟩
            have HJ2 : Hid (∃ lk2 L L2, Duo w gb c p m ma ml me lk d p2 m2 ma2 ml2 me2 lk2 V es N (V.drop j) [] (V.length - j) (.slice (some ⟨vg, 0, none⟩) vn vc) (.slice ea en ec) wr0 (.slice none 0 0) [] L L2 w5) := by
              have hk := unhide hq
              rw [(unhide HJ).2.2] at hk
              exact ⟨_, (unhide HDU).edit hk (unhide HG)⟩
            clear C1 HDU hq HG c0 c1 c2 c3 cf d1
            go_wp2_with fail
            (try rw [unhide zw])
            exact ⟨⟨j, i1, rfl, (unhide HJ).1, (unhide HJ).2.1, unhide HJ2⟩, by have := (unhide HJ).1; simp [intOf]; omega⟩
end Go.Proofs.YtkmhcgmmbkchaaaGreat
