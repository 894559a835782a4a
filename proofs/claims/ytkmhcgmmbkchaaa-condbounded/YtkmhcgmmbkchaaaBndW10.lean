/- CondBounded, walked. -/
import Derived.Test.YtkmhcgmmbkchaaaLawM10
namespace Go.Proofs.Ytkmhcgmmbkchaaa
open Go.RowKit Go.Maps T9
theorem grow_len {B : Nat} {w : World} {a : Option Addr} {n c : Nat} {es : List EdV} (h : GRow B w (.slice a n c) es) : n = es.length := by
  rcases h.2 with ⟨e, h0⟩ | ⟨g, cap, cur, e, -⟩
  · injection e with e1 e2 e3; omega
  · injection e with e1 e2 e3
set_option maxHeartbeats 16000000 in
set_option maxRecDepth 100000 in
theorem bounded_any (a : Option Addr) (len cap : Nat) (o : Nat → OpV) (w : World) (h : IsOps w a len o) :
    Calls Try.prog 3 #[.slice a len cap] w fun e w' => e = .returned (.bool true) ∧ Below w.heap.size w w' := by
  have CW : Hid (∀ W, Calls Try.prog 5 #[] W fun e w' => e = .returned (.bool true) ∧ Hid (Below W.heap.size W w')) := fun W => awakeS W
  have HO := hide h
  clear h
  go_enter Try.func3, Try.ntmps3
  go_wp2_with fail
  refine (kNewS w).mono ?_
  rintro e w1 ⟨c, p, m, ma, ml, me, rfl, HN⟩
  have HL0 := hide (ls_new (unhide HN))
  clear HN
  go_upto_region 2 with fail
  change Code.wp _ _ _ _ (w1.alloc oZ)
  obtain ⟨gb, hgb⟩ : ∃ gb, gb = w1.heap.size := ⟨_, rfl⟩
  rw [← hgb] at HL0
  rw [← hgb]
  clear hgb
  generalize lab (labN c p m ma ml me) gb 0 = L0 at *
  generalize w1.alloc oZ = w2 at *
  go_wp2_with fail
  refine (unhide CW _).mono ?_
  rintro e w3 ⟨rfl, hb⟩
  have HL3 := hide ((unhide HL0).below (unhide hb))
  have CL := hide (ls_looked (unhide HL3))
  clear HL0 hb CW
  go_wp2_with fail
  refine (unhide CL).mono ?_
  rintro e w' ⟨rfl, hw'⟩
  rw [hw']
  clear CL hw' w'
  go_upto_region 5 with fail
  go_loopw [5] (fun s5 W => ∃ i : Nat, s5 = .int .i64 i ∧ Hid (i ≤ 60 ∧ ∃ lk V es vv ev wr L, LS w gb c p m ma ml me lk V es (3 * i) vv ev wr L W)) (fun s5 _ => 60 - (intOf s5).toNat)
  case atStart => exact ⟨0, rfl, by omega, 0, [], [], _, _, 0, L0, unhide HL3⟩
  case round =>
    obtain ⟨i, rfl, HR⟩ := hrel
    clear HL3
    obtain ⟨hi60, lk, V, es, vv, ev, wr0, L1, hls⟩ := unhide HR
    by_cases hlt : i < len ∧ i < 60
    · obtain ⟨hl1, hl2⟩ := hlt
      obtain ⟨b, off, rfl, -, hops⟩ := (unhide HO).resolve_left (by omega)
      obtain ⟨hop, hok⟩ := hops i hl1
      obtain ⟨f0, f1, f2, f3⟩ := opAt_below hop hls.bel
      clear hops
      generalize o i = oi at f0 f1 f2 f3 hok hop
      obtain ⟨k, e, u, v⟩ := oi
      obtain ⟨ok0, ok1, ok2, ok3⟩ := hok
      (try dsimp only at f0 f1 f2 f3 ok0 ok1 ok2 ok3)
      obtain ⟨i1, hi1⟩ : ∃ i1, i1 = i + 1 := ⟨_, rfl⟩
      have HI : Hid (i1 = i + 1 ∧ i < 60 ∧ 3 * i ≤ 180 ∧ 60 - i1 < 60 - i) := ⟨hi1, hl2, by omega, by omega⟩
      have HOK : Hid (okN e ∧ okN u ∧ okN v) := ⟨ok1, ok2, ok3⟩
      have zw : Hid (wrap64 ((i : Int) + 1) = (i1 : Int)) := by show wrap64 ((i : Int) + 1) = (i1 : Int); unfold wrap64; omega
      have y1 : (i : Int) < (len : Int) := by omega
      have y2 : (i : Int) < 60 := by omega
      obtain ⟨va, vc, hv1, -⟩ := brow_shape hls.vs
      obtain ⟨vn, hv1', hvn⟩ : ∃ vn, vv = .slice va vn vc ∧ vn = V.length := ⟨_, hv1, rfl⟩
      clear hv1
      obtain ⟨ea, en, ec, he1⟩ := grow_shape hls.es_
      subst hv1' he1
      have hls1 := hls.named.below (below_new wr (oOp k e u v))
      have hob : (wr.alloc (oOp k e u v)).heap[wr.heap.size]? = some (oOp k e u v) := heap_alloc_new _ _
      have hgl := heap_lt hls.box
      have HEN : Hid (en = es.length) := grow_len hls.es_
      have HVN : Hid (vn = V.length ∧ V.length ≤ 3 * i) := ⟨hvn, hls.g.lenV⟩
      have HUNI : Hid ((es.map (·.1)).Nodup) := hls.g.uni
      have HEND : Hid (∀ x ∈ es, (x.2.1 ∈ V ∧ x.2.2.1 ∈ V) ∧ okN x.2.1 ∧ okN x.2.2.1) := fun x hx => ⟨hls.g.end1 hx, hls.g.okV _ (hls.g.end1 hx).1, hls.g.okV _ (hls.g.end1 hx).2⟩
      obtain ⟨L, hL⟩ : ∃ L, L = lab L1 wr.heap.size 0 := ⟨_, rfl⟩
      obtain ⟨ob, hobe⟩ : ∃ ob, ob = wr.heap.size := ⟨_, rfl⟩
      have hlob : L ob = 0 := by rw [hL, hobe]; exact if_neg (by omega)
      rw [← hL] at hls1
      rw [← hobe] at hob
      have HLS1 : Hid (LS w gb c p m ma ml me lk V es (3 * i) (.slice va vn vc) (.slice ea en ec) wr0 L (wr.alloc (oOp k e u v))) := hls1
      have HOB1 : Hid ((wr.alloc (oOp k e u v)).heap[ob]? = some (oOp k e u v) ∧ L ob = 0 ∧ ob ≠ gb ∧ ob < (wr.alloc (oOp k e u v)).heap.size) := ⟨hob, hlob, by omega, heap_lt hob⟩
      have HOBE := hide hobe
      clear HR hls hls1 hob hgl hL hobe hlob hvn hop ok0 ok1 ok2 ok3 hi60 hl1 hl2 hi1
      go_upto_region 8 with fail
      change Code.wp _ _ _ _ (wr.alloc (oOp k e u v))
      rw [← unhide HOBE]
      clear f0 f1 f2 f3 HOBE
      generalize wr.alloc (oOp k e u v) = w1' at *
      obtain ⟨c0, c1, c2, c3, cf⟩ := cellsG (unhide HLS1).box
      have CK := hide (ls_looked ((unhide HLS1).below (below_drewN (Below.refl _ _) 1)))
      refine wp_region_noPanic ?_
      refine regionL [] (fun y => y.cell? ⟨gb, 0, none⟩ = some (.slice va vn vc)) (by kernel_rfl) c0 (fun hHeld => ?_)
      refine takeL (i := 0) (v := ?t2v0) (some 44) rfl rfl (by kernel_rfl) (by kernel_rfl) (by kernel_rfl) (by kernel_rfl) (by kernel_rfl) (fun _ _ _ h => h) (Or.inl ⟨by rfl, ?t2h0⟩) (by assumption) ?t2r0
      case t2h0 => (intro y hSu; (try dsimp only at hSu); go_simp; first | done | with_reducible rfl)
      (try simp only [Act.put, List.setIfInBounds_toArray, List.set_cons_zero, List.set_cons_succ])
      refine takeL (i := 2) (v := ?t2v2) (some 46) rfl rfl (by kernel_rfl) (by kernel_rfl) (by kernel_rfl) (by kernel_rfl) (by kernel_rfl) (fun _ _ _ h => h) (Or.inl ⟨by rfl, ?t2h2⟩) (by assumption) ?t2r2
      case t2h2 => (intro y hSu; (try dsimp only at hSu); go_simp; first | done | with_reducible rfl)
      (try simp only [Act.put, List.setIfInBounds_toArray, List.set_cons_zero, List.set_cons_succ])
      refine takeL (i := 3) (v := ?t2v3) (some 47) rfl rfl (by kernel_rfl) (by kernel_rfl) (by kernel_rfl) (by kernel_rfl) (by kernel_rfl) (fun _ _ _ h => h) (Or.inl ⟨by rfl, ?t2h3⟩) (by assumption) ?t2r3
      case t2h3 => (intro y hSu; (try dsimp only at hSu); go_simp; first | done | with_reducible rfl)
      (try simp only [Act.put, List.setIfInBounds_toArray, List.set_cons_zero, List.set_cons_succ])
      refine takeL (i := 4) (v := ?t2v4) (some 48) rfl rfl (by kernel_rfl) (by kernel_rfl) (by kernel_rfl) (by kernel_rfl) (by kernel_rfl) (fun _ _ _ h => h) (Or.inl ⟨by rfl, ?t2h4⟩) (by assumption) ?t2r4
      case t2h4 => (intro y hSu; (try dsimp only at hSu); go_simp; first | done | with_reducible rfl)
      (try simp only [Act.put, List.setIfInBounds_toArray, List.set_cons_zero, List.set_cons_succ])
      refine readyL (i := 1) (by kernel_rfl) rfl (fun K hK => ?_)
      go_simp
      refine (unhide CK).mono ?_
      rintro r2 w20 ⟨rfl, hw20⟩
      rw [hw20]
      have HEc : Hid ((w1'.drewN 1).cell? ⟨gb, 0, none⟩ = some (.slice va vn vc)) := c0
      clear CK hw20 w20
      (try dsimp only)
      refine hK.out _ _ (fun _ => (unhide HEc)) ?_
      clear hK K
      (try simp only [Act.put, List.setIfInBounds_toArray, List.set_cons_zero, List.set_cons_succ])
      have hH4 := (unhide HEc)
      refine takeL (i := 5) (v := ?t5v5) (some 7) rfl rfl (by kernel_rfl) (by kernel_rfl) (by kernel_rfl) (by kernel_rfl) (by kernel_rfl) (fun _ _ _ h => h) (Or.inl ⟨by rfl, ?t5h5⟩) (by assumption) ?t5r5
      case t5h5 => (intro y hSu; (try dsimp only at hSu); go_simp; first | done | with_reducible rfl)
      (try simp only [Act.put, List.setIfInBounds_toArray, List.set_cons_zero, List.set_cons_succ])
      refine takeL (i := 6) (v := ?t5v6) (some 8) rfl rfl (by kernel_rfl) (by kernel_rfl) (by kernel_rfl) (by kernel_rfl) (by kernel_rfl) (fun _ _ _ h => h) (Or.inl ⟨by rfl, ?t5h6⟩) (by assumption) ?t5r6
      case t5h6 => (intro y hSu; (try dsimp only at hSu); go_simp; first | done | with_reducible rfl)
      (try simp only [Act.put, List.setIfInBounds_toArray, List.set_cons_zero, List.set_cons_succ])
      refine doneL (by kernel_rfl) ?_ _
      refine NoPanic.normal ?_
      have HLS2 := hide ((unhide HLS1).below (below_drewN (Below.refl _ w1') 1))
      have HOB2 : Hid ((w1'.drewN 1).heap[ob]? = some (oOp k e u v) ∧ L ob = 0 ∧ ob ≠ gb ∧ ob < (w1'.drewN 1).heap.size) := unhide HOB1
      clear HEc HLS1 HOB1 c0 c1 c2 c3 cf
      generalize w1'.drewN 1 = w2' at *
      obtain ⟨c0, c1, c2, c3, cf⟩ := cellsG (unhide HLS2).box
      obtain ⟨o0, o1, o2, o3⟩ := cellsOp (unhide HOB2).1
      have CA := hide (refAt (vv := .slice va vn vc) (rd := 0) (wr := wr0) e (unhide HLS2).es_ (by have := (unhide HLS2).g.lenE; have := (unhide HI).2.2.1; omega))
      go_wp2_with fail
      refine (unhide CA).mono ?_
      rintro r3 w3' ⟨r, rfl, HA⟩
      obtain ⟨hat, hb3⟩ := unhide HA
      have HLS3 := hide ((unhide HLS2).below hb3)
      have HOB3 : Hid (w3'.heap[ob]? = some (oOp k e u v) ∧ L ob = 0 ∧ ob ≠ gb ∧ ob < w3'.heap.size) := by
        obtain ⟨q1, q2, q3, q4⟩ := unhide HOB2
        exact ⟨(hb3.block ob q4).trans q1, q2, q3, Nat.lt_of_lt_of_le q4 hb3.size⟩
      have HATI := hide hat
      clear CA HA hat hb3 HLS2 HOB2 c0 c1 c2 c3 cf o0 o1 o2 o3
      obtain ⟨c0, c1, c2, c3, cf⟩ := cellsG (unhide HLS3).box
      obtain ⟨o0, o1, o2, o3⟩ := cellsOp (unhide HOB3).1
      go_upto_region 10 with fail
      go_quiet (fail)
      have HLS4 : Hid (∀ q, LS w gb c p m ma ml me lk V es (3 * i) (.slice va vn vc) (.slice ea en ec) wr0 L (w3'.drewN q)) := fun q => (unhide HLS3).below (below_drewN (Below.refl _ _) q)
      have HOB4 : Hid (∀ q, (w3'.drewN q).heap[ob]? = some (oOp k e u v) ∧ L ob = 0 ∧ ob ≠ gb ∧ ob < (w3'.drewN q).heap.size) := fun q => unhide HOB3
      clear HLS3 HOB3 c0 c1 c2 c3 cf o0 o1 o2 o3
      generalize hwd : w3'.drewN _ = w4' at *
      have HLS := hide (hwd ▸ unhide HLS4 _)
      have HOB := hide (hwd ▸ unhide HOB4 _)
      clear HLS4 HOB4 hwd
      obtain ⟨c0, c1, c2, c3, cf⟩ := cellsG (unhide HLS).box
      obtain ⟨o0, o1, o2, o3⟩ := cellsOp (unhide HOB).1
      by_cases hk4 : k = 4
      · subst hk4
        rcases unhide HATI with ⟨i', x, hr, a1, a2, -⟩ | ⟨hr, ano⟩
        · subst hr
          have hil := (List.getElem?_eq_some_iff.1 a1).1
          have hes := (unhide HLS).es_
          obtain ⟨ge, hge⟩ : ∃ ge, ea = some ⟨ge, 0, none⟩ := by
            rcases hes.2 with ⟨q1, q2⟩ | ⟨g, cap, cur, q1, -⟩
            · omega
            · injection q1 with q1; exact ⟨g, q1⟩
          subst hge
          obtain ⟨x0, x1, x2, x3⟩ := erow_at hes a1
          obtain ⟨xe, xu, xv, xb⟩ := x
          replace a2 : xe = e := a2
          subst a2
          (try dsimp only at x0 x1 x2 x3)
          have z1 : (0 : Int) ≤ (i' : Int) := by omega
          have z2 : (i' : Int) < (en : Int) := by have := unhide HEN; omega
          have HAT : Hid (es[i']? = some (xe, xu, xv, xb)) := a1
          have HEV : Hid (xu ∈ V ∧ xv ∈ V) := (unhide HEND _ (List.mem_of_getElem? a1)).1
          have HUV : Hid (okN xu ∧ okN xv) := (unhide HEND _ (List.mem_of_getElem? a1)).2
          clear HATI hil hes a1 HEND
          go_upto_region 12 with fail
          go_quiet (fail)
          have HLS5 : Hid (∀ q, LS w gb c p m ma ml me lk V es (3 * i) (.slice va vn vc) (.slice (some ⟨ge, 0, none⟩) en ec) wr0 L (w4'.drewN q)) := fun q => (unhide HLS).below (below_drewN (Below.refl _ _) q)
          have HOB5 : Hid (∀ q, (w4'.drewN q).heap[ob]? = some (oOp 4 xe u v) ∧ L ob = 0 ∧ ob ≠ gb ∧ ob < (w4'.drewN q).heap.size) := fun q => unhide HOB
          clear HLS HOB c0 c1 c2 c3 cf o0 o1 o2 o3 x0 x1 x2 x3
          generalize hwd : w4'.drewN _ = w5' at *
          have HLS := hide (hwd ▸ unhide HLS5 _)
          have HOB := hide (hwd ▸ unhide HOB5 _)
          clear HLS5 HOB5 hwd z1 z2
          obtain ⟨c0, c1, c2, c3, cf⟩ := cellsG (unhide HLS).box
          obtain ⟨o0, o1, o2, o3⟩ := cellsOp (unhide HOB).1
          have CM := hide (ls_members (unhide HLS) (by have := (unhide HI).2.2.1; omega) (unhide HUV).1)
          go_wp2_with fail
          refine (unhide CM).mono ?_
          rintro r4 w4 ⟨xa, n4, xc, rfl, HM⟩
          have HLS4 := hide ((unhide HLS).below (unhide HM).2.2)
          have HOB4 : Hid (w4.heap[ob]? = some (oOp 4 xe u v) ∧ L ob = 0 ∧ ob ≠ gb ∧ ob < w4.heap.size) := by
            obtain ⟨q1, q2, q3, q4⟩ := unhide HOB
            exact ⟨((unhide HM).2.2.block ob q4).trans q1, q2, q3, Nat.lt_of_lt_of_le q4 (unhide HM).2.2.size⟩
          have CS := hide (ls_same (unhide HLS4) (unhide HUV).1 (unhide HUV).2)
          clear CM HLS c0 c1 c2 c3 cf o0 o1 o2 o3 HOB
          go_wp2_with fail
          refine (unhide CS).mono ?_
          rintro r5 w50 ⟨t, rfl, HS⟩
          obtain ⟨hs, hw50⟩ := unhide HS
          rw [hw50]
          clear CS HS hw50 w50
          have HSM := hide hs
          clear hs
          obtain ⟨c0, c1, c2, c3, cf⟩ := cellsG (unhide HLS4).box
          obtain ⟨o0, o1, o2, o3⟩ := cellsOp (unhide HOB4).1
          have CP := hide (ls_play (k := 4) (unhide HLS4) (by have := (unhide HI).2.2.1; omega) (unhide HOK).1 (unhide HOK).2.1 (unhide HOK).2.2)
          go_wp2_with fail
          refine (unhide CP).mono ?_
          intro r6 w5 hp
          obtain ⟨vv', ev', wr', V', es', lk', L', rfl, hbx, hls, hbd, hkeep⟩ := (unhide HLS4).play (unhide hp)
          obtain ⟨va', vc', hv1, -⟩ := brow_shape hls.vs
          obtain ⟨vn', hv1'⟩ : ∃ vn', vv' = .slice va' vn' vc' := ⟨_, hv1⟩
          clear hv1
          obtain ⟨ea', en', ec', he1⟩ := grow_shape hls.es_
          subst hv1' he1
          have hen' := grow_len hls.es_
          clear CP hp c0 c1 c2 c3 cf o0 o1 o2 o3
          obtain ⟨c0, c1, c2, c3, cf⟩ := cellsG hbx
          obtain ⟨w6, hw6⟩ : ∃ w6, w6 = set4 w5 gb (.slice va' vn' vc') (.slice ea' en' ec') (.int .i64 0) (.int .i64 wr') := ⟨_, rfl⟩
          rw [← hw6] at hls hkeep
          have HOB6 : Hid (w6.heap[ob]? = some (oOp 4 xe u v)) := by
            obtain ⟨q1, q2, q3, q4⟩ := unhide HOB4
            exact (hkeep ob q4 q2 q3).trans q1
          have HLS6 := hide hls
          have HBD : Hid (Bd 4 xe u v V es lk es' lk' ∧ en' = es'.length) := ⟨hbd, hen'⟩
          have HW6 := hide hw6
          clear hls hbd hkeep hen' hbx HLS4 HOB4 hw6
          go_upto_region 18 with fail
          (try rw [show (((w5.setCell ⟨gb, 0, none⟩ (.slice va' vn' vc')).setCell ⟨gb, 1, none⟩ (.slice ea' en' ec')).setCell ⟨gb, 2, none⟩ (.int .i64 0)).setCell ⟨gb, 3, none⟩ (.int .i64 wr') = w6 from (unhide HW6).symm])
          clear c0 c1 c2 c3 cf HW6
          obtain ⟨c0, c1, c2, c3, cf⟩ := cellsG (unhide HLS6).box
          obtain ⟨o0, o1, o2, o3⟩ := cellsOp (unhide HOB6)
          have CL := hide (ls_looked (unhide HLS6))
          go_wp2_with fail
          refine (unhide CL).mono ?_
          rintro r7 w70 ⟨rfl, hw70⟩
          rw [hw70]
          clear CL hw70 w70
          have HNX : Hid (i1 ≤ 60 ∧ ∃ lk V es vv ev wr L, LS w gb c p m ma ml me lk V es (3 * i1) vv ev wr L w6) := by
            obtain ⟨q1, q2, q3, q4⟩ := unhide HI
            refine ⟨by omega, lk', V', es', .slice va' vn' vc', .slice ea' en' ec', wr', L', ?_⟩
            have := unhide HLS6
            rw [show 3 * i1 = 3 * i + 3 by omega]
            exact this
          clear HLS6 HOB6
          rcases (unhide HBD).1 with ⟨b1, b2⟩ | ⟨b0, b1, bu, bv, d, b3, b4, b5⟩ | ⟨b0, i', u', v', b', bi, b1, d, b3, b4, b5⟩
          · have e1 : en' = en := by have := unhide HEN; have := (unhide HBD).2; omega
            subst e1
            obtain rfl := b2
            clear b1 HBD HSM HM HEN HAT
            go_wp2_with fail
            (try rw [unhide zw])
            exact ⟨⟨i1, by first | rfl | (rw [(unhide HI).1]; rfl), unhide HNX⟩, by have := (unhide HI).2.2.2; have := (unhide HI).1; simp [intOf]; omega⟩
          · exact absurd b0 (by omega)
          · have z6 : ((en' : Int) == (en : Int)) = false := by have := unhide HEN; have := (unhide HBD).2; simp; omega
            obtain rfl := b3
            obtain ⟨eu, ev_⟩ : u' = xu ∧ v' = xv := by
              have := uni_eq (unhide HUNI) (List.mem_of_getElem? bi) (List.mem_of_getElem? (unhide HAT)) rfl
              injection this with y1 y2
              injection y2 with y2 y3
              injection y3 with y3 y4
              exact ⟨y2, y3⟩
            subst eu ev_
            cases t with
            | false =>
              have hd : d = 0 := b4 (.inr (fun hm => by
                have := (unhide HSM).2 ⟨(unhide HEV).1, (unhide HEV).2, hm⟩
                cases this))
              subst hd
              clear b1 bi b4 b5 HBD HSM HM HEN HAT
              go_wp2_with fail
              (try rw [unhide zw])
              exact ⟨⟨i1, by first | rfl | (rw [(unhide HI).1]; rfl), unhide HNX⟩, by have := (unhide HI).2.2.2; have := (unhide HI).1; simp [intOf]; omega⟩
            | true =>
              by_cases huv : u' = v'
              · have hd : d = 0 := b4 (.inl huv)
                subst hd huv
                clear b1 bi b4 b5 HBD HSM HM HEN HAT
                go_wp2_with fail
                (try rw [unhide zw])
                exact ⟨⟨i1, by first | rfl | (rw [(unhide HI).1]; rfl), unhide HNX⟩, by have := (unhide HI).2.2.2; have := (unhide HI).1; simp [intOf]; omega⟩
              · have z5 : (u' == v') = false := by simpa using huv
                obtain ⟨ms, m1, m2⟩ := (unhide HM).1 (unhide HEV).1
                obtain ⟨n2, hn2⟩ : ∃ n2, n2 = 2 * n4 := ⟨_, rfl⟩
                have hd := b5 ms m2
                have z7 : (0 : Int) ≤ (d : Int) := by omega
                have z8 : (d : Int) ≤ (n2 : Int) := by omega
                have z9 : wrap64 (2 * (n4 : Int)) = (n2 : Int) := by
                  have := (unhide HM).2.1
                  unfold wrap64; omega
                clear b1 bi b4 b5 HBD HSM HM HEN HAT m1 m2 hd hn2 huv
                go_wp2_with fail
                (try rw [unhide zw])
                exact ⟨⟨i1, by first | rfl | (rw [(unhide HI).1]; rfl), unhide HNX⟩, by have := (unhide HI).2.2.2; have := (unhide HI).1; simp [intOf]; omega⟩
        · subst hr
          have HAT : Hid (∀ x ∈ es, x.1 ≠ e) := fun x hx => by
            obtain ⟨j, hj⟩ := List.getElem?_of_mem hx
            exact ano j x hj
          have z1 : ¬ (0 : Int) ≤ -1 := by omega
          have HUV : Hid (okN u ∧ okN v) := (unhide HOK).2
          clear HATI ano HEND
          have CM := hide (ls_members (unhide HLS) (by have := (unhide HI).2.2.1; omega) (unhide HUV).1)
          go_wp2_with fail
          refine (unhide CM).mono ?_
          rintro r4 w4 ⟨xa, n4, xc, rfl, HM⟩
          have HLS4 := hide ((unhide HLS).below (unhide HM).2.2)
          have HOB4 : Hid (w4.heap[ob]? = some (oOp 4 e u v) ∧ L ob = 0 ∧ ob ≠ gb ∧ ob < w4.heap.size) := by
            obtain ⟨q1, q2, q3, q4⟩ := unhide HOB
            exact ⟨((unhide HM).2.2.block ob q4).trans q1, q2, q3, Nat.lt_of_lt_of_le q4 (unhide HM).2.2.size⟩
          have CS := hide (ls_same (unhide HLS4) (unhide HUV).1 (unhide HUV).2)
          clear CM HLS c0 c1 c2 c3 cf o0 o1 o2 o3 HOB
          go_wp2_with fail
          refine (unhide CS).mono ?_
          rintro r5 w50 ⟨t, rfl, HS⟩
          obtain ⟨hs, hw50⟩ := unhide HS
          rw [hw50]
          clear CS HS hw50 w50
          have HSM := hide hs
          clear hs
          obtain ⟨c0, c1, c2, c3, cf⟩ := cellsG (unhide HLS4).box
          obtain ⟨o0, o1, o2, o3⟩ := cellsOp (unhide HOB4).1
          have CP := hide (ls_play (k := 4) (unhide HLS4) (by have := (unhide HI).2.2.1; omega) (unhide HOK).1 (unhide HOK).2.1 (unhide HOK).2.2)
          go_wp2_with fail
          refine (unhide CP).mono ?_
          intro r6 w5 hp
          obtain ⟨vv', ev', wr', V', es', lk', L', rfl, hbx, hls, hbd, hkeep⟩ := (unhide HLS4).play (unhide hp)
          obtain ⟨va', vc', hv1, -⟩ := brow_shape hls.vs
          obtain ⟨vn', hv1'⟩ : ∃ vn', vv' = .slice va' vn' vc' := ⟨_, hv1⟩
          clear hv1
          obtain ⟨ea', en', ec', he1⟩ := grow_shape hls.es_
          subst hv1' he1
          have hen' := grow_len hls.es_
          clear CP hp c0 c1 c2 c3 cf o0 o1 o2 o3
          obtain ⟨c0, c1, c2, c3, cf⟩ := cellsG hbx
          obtain ⟨w6, hw6⟩ : ∃ w6, w6 = set4 w5 gb (.slice va' vn' vc') (.slice ea' en' ec') (.int .i64 0) (.int .i64 wr') := ⟨_, rfl⟩
          rw [← hw6] at hls hkeep
          have HOB6 : Hid (w6.heap[ob]? = some (oOp 4 e u v)) := by
            obtain ⟨q1, q2, q3, q4⟩ := unhide HOB4
            exact (hkeep ob q4 q2 q3).trans q1
          have HLS6 := hide hls
          have HBD : Hid (Bd 4 e u v V es lk es' lk' ∧ en' = es'.length) := ⟨hbd, hen'⟩
          have HW6 := hide hw6
          clear hls hbd hkeep hen' hbx HLS4 HOB4 hw6
          go_upto_region 18 with fail
          (try rw [show (((w5.setCell ⟨gb, 0, none⟩ (.slice va' vn' vc')).setCell ⟨gb, 1, none⟩ (.slice ea' en' ec')).setCell ⟨gb, 2, none⟩ (.int .i64 0)).setCell ⟨gb, 3, none⟩ (.int .i64 wr') = w6 from (unhide HW6).symm])
          clear c0 c1 c2 c3 cf HW6
          obtain ⟨c0, c1, c2, c3, cf⟩ := cellsG (unhide HLS6).box
          obtain ⟨o0, o1, o2, o3⟩ := cellsOp (unhide HOB6)
          have CL := hide (ls_looked (unhide HLS6))
          go_wp2_with fail
          refine (unhide CL).mono ?_
          rintro r7 w70 ⟨rfl, hw70⟩
          rw [hw70]
          clear CL hw70 w70
          have HNX : Hid (i1 ≤ 60 ∧ ∃ lk V es vv ev wr L, LS w gb c p m ma ml me lk V es (3 * i1) vv ev wr L w6) := by
            obtain ⟨q1, q2, q3, q4⟩ := unhide HI
            refine ⟨by omega, lk', V', es', .slice va' vn' vc', .slice ea' en' ec', wr', L', ?_⟩
            have := unhide HLS6
            rw [show 3 * i1 = 3 * i + 3 by omega]
            exact this
          clear HLS6 HOB6
          rcases (unhide HBD).1 with ⟨b1, b2⟩ | ⟨b0, b1, bu, bv, d, b3, b4, b5⟩ | ⟨b0, i', u', v', b', bi, b1, d, b3, b4, b5⟩
          · have e1 : en' = en := by have := unhide HEN; have := (unhide HBD).2; omega
            subst e1
            obtain rfl := b2
            clear b1 HBD HSM HM HEN HAT
            go_wp2_with fail
            (try rw [unhide zw])
            exact ⟨⟨i1, by first | rfl | (rw [(unhide HI).1]; rfl), unhide HNX⟩, by have := (unhide HI).2.2.2; have := (unhide HI).1; simp [intOf]; omega⟩
          · exact absurd b0 (by omega)
          · exact absurd rfl (unhide HAT (e, u', v', b') (List.mem_of_getElem? bi))
      · have z1 : (k == 4) = false := by simpa using hk4
        have HK4 := hide hk4
        have HUV : Hid (okN u ∧ okN v) := (unhide HOK).2
        have HAT := hide True.intro
        clear HATI hk4 HEND
        have CM := hide (ls_members (unhide HLS) (by have := (unhide HI).2.2.1; omega) (unhide HUV).1)
        go_wp2_with fail
        refine (unhide CM).mono ?_
        rintro r4 w4 ⟨xa, n4, xc, rfl, HM⟩
        have HLS4 := hide ((unhide HLS).below (unhide HM).2.2)
        have HOB4 : Hid (w4.heap[ob]? = some (oOp k e u v) ∧ L ob = 0 ∧ ob ≠ gb ∧ ob < w4.heap.size) := by
          obtain ⟨q1, q2, q3, q4⟩ := unhide HOB
          exact ⟨((unhide HM).2.2.block ob q4).trans q1, q2, q3, Nat.lt_of_lt_of_le q4 (unhide HM).2.2.size⟩
        have CS := hide (ls_same (unhide HLS4) (unhide HUV).1 (unhide HUV).2)
        clear CM HLS c0 c1 c2 c3 cf o0 o1 o2 o3 HOB
        go_wp2_with fail
        refine (unhide CS).mono ?_
        rintro r5 w50 ⟨t, rfl, HS⟩
        obtain ⟨hs, hw50⟩ := unhide HS
        rw [hw50]
        clear CS HS hw50 w50
        have HSM := hide hs
        clear hs
        obtain ⟨c0, c1, c2, c3, cf⟩ := cellsG (unhide HLS4).box
        obtain ⟨o0, o1, o2, o3⟩ := cellsOp (unhide HOB4).1
        have CP := hide (ls_play (k := k) (unhide HLS4) (by have := (unhide HI).2.2.1; omega) (unhide HOK).1 (unhide HOK).2.1 (unhide HOK).2.2)
        go_wp2_with fail
        refine (unhide CP).mono ?_
        intro r6 w5 hp
        obtain ⟨vv', ev', wr', V', es', lk', L', rfl, hbx, hls, hbd, hkeep⟩ := (unhide HLS4).play (unhide hp)
        obtain ⟨va', vc', hv1, -⟩ := brow_shape hls.vs
        obtain ⟨vn', hv1'⟩ : ∃ vn', vv' = .slice va' vn' vc' := ⟨_, hv1⟩
        clear hv1
        obtain ⟨ea', en', ec', he1⟩ := grow_shape hls.es_
        subst hv1' he1
        have hen' := grow_len hls.es_
        clear CP hp c0 c1 c2 c3 cf o0 o1 o2 o3
        obtain ⟨c0, c1, c2, c3, cf⟩ := cellsG hbx
        obtain ⟨w6, hw6⟩ : ∃ w6, w6 = set4 w5 gb (.slice va' vn' vc') (.slice ea' en' ec') (.int .i64 0) (.int .i64 wr') := ⟨_, rfl⟩
        rw [← hw6] at hls hkeep
        have HOB6 : Hid (w6.heap[ob]? = some (oOp k e u v)) := by
          obtain ⟨q1, q2, q3, q4⟩ := unhide HOB4
          exact (hkeep ob q4 q2 q3).trans q1
        have HLS6 := hide hls
        have HBD : Hid (Bd k e u v V es lk es' lk' ∧ en' = es'.length) := ⟨hbd, hen'⟩
        have HW6 := hide hw6
        clear hls hbd hkeep hen' hbx HLS4 HOB4 hw6
        go_upto_region 18 with fail
        (try rw [show (((w5.setCell ⟨gb, 0, none⟩ (.slice va' vn' vc')).setCell ⟨gb, 1, none⟩ (.slice ea' en' ec')).setCell ⟨gb, 2, none⟩ (.int .i64 0)).setCell ⟨gb, 3, none⟩ (.int .i64 wr') = w6 from (unhide HW6).symm])
        clear c0 c1 c2 c3 cf HW6
        obtain ⟨c0, c1, c2, c3, cf⟩ := cellsG (unhide HLS6).box
        obtain ⟨o0, o1, o2, o3⟩ := cellsOp (unhide HOB6)
        have CL := hide (ls_looked (unhide HLS6))
        go_wp2_with fail
        refine (unhide CL).mono ?_
        rintro r7 w70 ⟨rfl, hw70⟩
        rw [hw70]
        clear CL hw70 w70
        have HNX : Hid (i1 ≤ 60 ∧ ∃ lk V es vv ev wr L, LS w gb c p m ma ml me lk V es (3 * i1) vv ev wr L w6) := by
          obtain ⟨q1, q2, q3, q4⟩ := unhide HI
          refine ⟨by omega, lk', V', es', .slice va' vn' vc', .slice ea' en' ec', wr', L', ?_⟩
          have := unhide HLS6
          rw [show 3 * i1 = 3 * i + 3 by omega]
          exact this
        clear HLS6 HOB6
        rcases (unhide HBD).1 with ⟨b1, b2⟩ | ⟨b0, b1, bu, bv, d, b3, b4, b5⟩ | ⟨b0, i', u', v', b', bi, b1, d, b3, b4, b5⟩
        · have e1 : en' = en := by have := unhide HEN; have := (unhide HBD).2; omega
          subst e1
          obtain rfl := b2
          clear b1 HBD HSM HM HEN HAT
          go_wp2_with fail
          (try rw [unhide zw])
          exact ⟨⟨i1, by first | rfl | (rw [(unhide HI).1]; rfl), unhide HNX⟩, by have := (unhide HI).2.2.2; have := (unhide HI).1; simp [intOf]; omega⟩
        · subst b0
          have z6 : ((en' : Int) == (en : Int)) = false := by have := unhide HEN; have := (unhide HBD).2; simp; omega
          obtain rfl := b3
          cases t with
          | true =>
            have hd : d = 0 := b4 ((unhide HSM).1 rfl).2.2
            subst hd
            clear b1 bu bv b4 b5 HBD HSM HM HEN HAT
            go_wp2_with fail
            (try rw [unhide zw])
            exact ⟨⟨i1, by first | rfl | (rw [(unhide HI).1]; rfl), unhide HNX⟩, by have := (unhide HI).2.2.2; have := (unhide HI).1; simp [intOf]; omega⟩
          | false =>
            obtain ⟨n2, hn2⟩ : ∃ n2, n2 = 2 * vn := ⟨_, rfl⟩
            have z7 : (0 : Int) ≤ (d : Int) := by omega
            have z8 : (d : Int) ≤ (n2 : Int) := by have := unhide HVN; omega
            have z9 : wrap64 (2 * (vn : Int)) = (n2 : Int) := by
              have := unhide HVN
              obtain ⟨-, -, q3, -⟩ := unhide HI
              unfold wrap64; omega
            clear b1 bu bv b4 b5 HBD HSM HM HEN HAT hn2
            go_wp2_with fail
            (try rw [unhide zw])
            exact ⟨⟨i1, by first | rfl | (rw [(unhide HI).1]; rfl), unhide HNX⟩, by have := (unhide HI).2.2.2; have := (unhide HI).1; simp [intOf]; omega⟩
        · exact absurd b0 (unhide HK4)
    · have HE : Hid (Below w.heap.size w wr) := hls.bel
      clear HR hls
      by_cases hl1 : i < len
      · have y1 : (i : Int) < (len : Int) := by omega
        have y2 : ¬ (i : Int) < 60 := by omega
        clear hlt hl1 hi60
        go_wp2_with fail
        go_ret
        exact ⟨rfl, unhide HE⟩
      · have y1 : ¬ (i : Int) < (len : Int) := by omega
        clear hlt hl1 hi60
        go_wp2_with fail
        go_ret
        exact ⟨rfl, unhide HE⟩
end Go.Proofs.Ytkmhcgmmbkchaaa
