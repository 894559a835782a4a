/- read walked. -/
import Derived.Test.YtdpdghhieokcfaaRead9
namespace Go.Proofs.Ytdpdghhieokcfaa
open Go.RowKit Go.Maps T9
set_option maxHeartbeats 8000000 in
set_option maxRecDepth 100000 in
theorem readS {w : World} {v av : Value} {vs : List Int} {arcs : List (Int × Int)} (hv : NRow w v vs) (ha : ARow w av arcs) (hn : vs.length ≤ 100000) (hm : arcs.length ≤ 100000) :
    Calls Try.prog 21 #[v, av] w fun e w' => Hid (RdAns w vs arcs e w') := by
  obtain ⟨xv, cv, hve, -⟩ := brow_shape hv
  obtain ⟨xa, ca, hae, hxa⟩ := arow_shape ha
  have CCL : Hid (∀ W, Below w.heap.size w W → Calls Try.prog 29 #[v] W fun e w' => ∃ v', e = .returned v' ∧ Hid (BRow W.heap.size w' v' vs ∧ Below W.heap.size W w')) := fun W hW => cloneI W (nrow_below hv hW) (by omega)
  have hmk := @mkII vs.length (by omega)
  have HLM : Hid (∀ (W : World) B L, B ≤ W.heap.size → LLat B (lab L W.heap.size 10) 10 (W.alloc (.cells (madeCells #[.slice none 0 0] vs.length) 22)) (.slice (some ⟨W.heap.size, 0, none⟩) vs.length vs.length) (List.replicate vs.length (.slice none 0 0)) (List.replicate vs.length [])) := fun W B L hB => ll_made (by omega) W hB
  have HV := hide (And.intro hv (And.intro ha (And.intro hn (And.intro hm hxa))))
  subst hve
  subst hae
  obtain ⟨n, hne⟩ : ∃ n, n = vs.length := ⟨_, rfl⟩
  have HNE := hide hne
  obtain ⟨m, hme⟩ : ∃ m, m = arcs.length := ⟨_, rfl⟩
  have HME := hide hme
  rw [← hne] at CCL hmk HLM HV ⊢
  rw [← hme] at HV ⊢
  clear hv ha hn hm hxa hne hme
  go_enter Try.func21, Try.ntmps21
  go_upto_region 1 with fail
  refine wp_region_noPanic ?_
  refine regionL [] (fun y => True) (by kernel_rfl) trivial (fun hHeld => ?_)
  refine takeL (i := 0) (v := ?t2v0) (some 14) rfl rfl (by kernel_rfl) (by kernel_rfl) (by kernel_rfl) (by kernel_rfl) (by kernel_rfl) (fun _ _ _ h => h) (Or.inl ⟨by rfl, ?t2h0⟩) (by assumption) ?t2r0
  case t2h0 => (intro y hSu; (try dsimp only at hSu); go_simp; first | done | with_reducible rfl)
  (try simp only [Act.put, List.setIfInBounds_toArray, List.set_cons_zero, List.set_cons_succ])
  refine takeL (i := 2) (v := ?t2v2) (some 16) rfl rfl (by kernel_rfl) (by kernel_rfl) (by kernel_rfl) (by kernel_rfl) (by kernel_rfl) (fun _ _ _ h => h) (Or.inl ⟨by rfl, ?t2h2⟩) (by assumption) ?t2r2
  case t2h2 => (intro y hSu; (try dsimp only at hSu); go_simp; first | done | with_reducible rfl)
  (try simp only [Act.put, List.setIfInBounds_toArray, List.set_cons_zero, List.set_cons_succ])
  refine takeL (i := 3) (v := ?t2v3) (some 17) rfl rfl (by kernel_rfl) (by kernel_rfl) (by kernel_rfl) (by kernel_rfl) (by kernel_rfl) (fun _ _ _ h => h) (Or.inl ⟨by rfl, ?t2h3⟩) (by assumption) ?t2r3
  case t2h3 => (intro y hSu; (try dsimp only at hSu); go_simp; first | done | with_reducible rfl)
  (try simp only [Act.put, List.setIfInBounds_toArray, List.set_cons_zero, List.set_cons_succ])
  refine anyInvAt (fun a0 => Inv2 a0 w vs) 3 2 _ _ _ ?start ?h0 ?h1
  case start => exact ⟨false, false, undef, undef, rfl, rfl, rfl, fun _ => 0, (Below.refl _ _).drew, (fun e => by cases e), (fun e => by cases e)⟩
  case h1 =>
    rintro k l a W ⟨b1, b4, x15, x18, rfl, rfl, hc, L, hB, p1, p4⟩
    generalize hr : Region.ready _ _ _ = rs
    have hrs : rs = ready2 b1 b4 := by rw [← hr]; cases b1 <;> cases b4 <;> kernel_rfl
    subst hrs
    refine ⟨by cases b1 <;> cases b4 <;> decide, fun i hi => ?_⟩
    have hi2 : (i = 1 ∧ b1 = false) ∨ (i = 4 ∧ b4 = false) := by
      revert hc hi
      cases b1 <;> cases b4 <;> simp [ready2] <;> omega
    clear hr hi
    rcases hi2 with ⟨rfl, rfl⟩ | ⟨rfl, rfl⟩
    · refine ⟨_, rfl, fun K hK => ?_⟩
      go_simp
      refine (unhide CCL W hB).mono ?_
      rintro e w2 ⟨x, rfl, hh⟩
      (try dsimp only)
      obtain ⟨hnew, hb2⟩ := unhide hh
      refine hK.out _ _ trivial ⟨true, b4, x, x18, rfl, rfl, by simp at hc ⊢; omega, lab L W.heap.size 2, hB.trans (hb2.mono hB.size), fun _ => ⟨brow_low hnew hB.size, fun g eg => if_neg (by have := (hnew.lt g eg).1; omega)⟩, fun e => ?_⟩
      obtain ⟨gn, e1, e2⟩ := p4 e
      exact ⟨gn, e1, (e2.named 2).below hb2⟩
    · refine ⟨_, rfl, fun K hK => ?_⟩
      go_simp
      have hb2 := below_new W (.cells (madeCells #[.slice none 0 0] n) 22)
      refine hK.out _ _ trivial ⟨b1, true, x15, .slice (some ⟨W.heap.size, 0, none⟩) n n, rfl, rfl, by simp at hc ⊢; omega, lab L W.heap.size 10, hB.alloc hB.size _, fun e => ?_, fun _ => ⟨W.heap.size, by rw [unhide HNE], by rw [← unhide HNE]; exact unhide HLM W _ L hB.size⟩⟩
      obtain ⟨e1, e2⟩ := p1 e
      exact ⟨brow_kept e1 (fun g eg => hb2.block g (e1.lt g eg).2), fun g eg => (if_pos (e1.lt g eg).2).trans (e2 g eg)⟩
  case h0 =>
    rintro l a W ⟨b1, b4, x15, x18, rfl, rfl, hc, hP⟩
    obtain ⟨rfl, rfl⟩ : b1 = true ∧ b4 = true := by revert hc; cases b1 <;> cases b4 <;> simp
    obtain ⟨gn, rfl⟩ : ∃ gn, x18 = .slice (some ⟨gn, 0, none⟩) vs.length vs.length := by
      obtain ⟨L, -, -, h4⟩ := hP
      obtain ⟨gn, e, -⟩ := h4 rfl
      exact ⟨gn, e⟩
    have hS := rd_start hP
    have hxs : ∃ x c, x15 = .slice x vs.length c := by
      obtain ⟨L, -, h1, -⟩ := hP
      obtain ⟨x, c, e, -⟩ := brow_shape (h1 rfl).1
      exact ⟨x, c, e⟩
    obtain ⟨xx, xc, rfl⟩ := hxs
    rw [← unhide HNE] at hS ⊢
    have HS := hide hS
    clear hS hP hc CCL hmk HLM
    (try simp only [Act.put, List.setIfInBounds_toArray, List.set_cons_zero, List.set_cons_succ])
    refine readyL (i := 5) (by kernel_rfl) rfl (fun K hK => ?_)
    go_simp
    refine hK.out _ _ (fun _ => trivial) ?_
    clear hK K
    (try simp only [List.setIfInBounds_toArray, List.set_cons_zero, List.set_cons_succ])
    have hH4 := trivial
    refine readyL (i := 6) (by kernel_rfl) rfl (fun K hK => ?_)
    go_simp
    refine hK.out _ _ (fun _ => trivial) ?_
    clear hK K
    (try simp only [List.setIfInBounds_toArray, List.set_cons_zero, List.set_cons_succ])
    have hH6 := trivial
    refine readyL (i := 7) (by kernel_rfl) rfl (fun K hK => ?_)
    go_simp
    refine hK.out _ _ (fun _ => trivial) ?_
    clear hK K
    (try simp only [List.setIfInBounds_toArray, List.set_cons_zero, List.set_cons_succ])
    have hH8 := trivial
    refine doneL (by kernel_rfl) ?_ _
    refine NoPanic.normal ?_
    change Exit.then _ _ _ _ (W.alloc (oG9 (.slice xx n xc) (.slice (some ⟨gn, 0, none⟩) n n)))
    generalize W.alloc (oG9 (.slice xx n xc) (.slice (some ⟨gn, 0, none⟩) n n)) = w1 at *
    generalize W.heap.size = gb at *
    obtain ⟨L, lvs, hR⟩ := unhide HS
    obtain ⟨c0, -, -⟩ := cellsG9 hR.box
    have CSO : Hid (Calls Try.prog 30 #[.slice xx n xc] w1 fun e w' => e = .returned (.tuple #[]) ∧ Hid (∃ V, V.Perm vs ∧ V.Pairwise (· ≤ ·) ∧ RD w gb gn n (.slice xx n xc) V (fun _ => []) L lvs w')) := by
      refine (sortN w.heap.size _ vs w1 (by have := (unhide HV).2.2.1; have := unhide HNE; omega) hR.vr).mono ?_
      rintro e w' ⟨rfl, hh⟩
      obtain ⟨ys, y1, y2, y3, y4⟩ := unhide hh
      exact ⟨rfl, ys, y1, y2, hR.sorted y3 y4⟩
    clear hR HS
    go_wp2_with fail
    refine (unhide CSO).mono ?_
    rintro e w2 ⟨rfl, hh⟩
    obtain ⟨V, hVp, hVs, hR⟩ := unhide hh
    clear CSO c0 hh
    obtain ⟨c0, -, -⟩ := cellsG9 hR.box
    have HR := hide hR
    have HVV := hide (And.intro hVp hVs)
    clear hR hVp hVs
    go_upto_region 4 with fail
    have HNR : Hid (Near V 1) := fun i x y h1 => absurd h1 (by omega)
    go_loopw [7] (fun s7 wr => ∃ k q : Nat, s7 = .int .i64 (k : Nat) ∧ wr = w2.drewN q ∧ Hid (1 ≤ k ∧ (k ≤ n ∨ k = 1) ∧ Near V k)) (fun s7 _ => n - (intOf s7).toNat)
    case atStart => exact ⟨1, 0, rfl, rfl, Nat.le_refl _, .inr rfl, unhide HNR⟩
    case round =>
      obtain ⟨k, q, rfl, rfl, hk⟩ := hrel
      have hR := unhide HR
      obtain ⟨hVp, hVs⟩ := unhide HVV
      have hVl : V.length = n := by rw [hVp.length_eq, unhide HNE]
      by_cases hlt : k < n
      · obtain ⟨k1, hk1⟩ : ∃ k1, k = k1 + 1 := ⟨k - 1, by have := (unhide hk).1; omega⟩
        obtain ⟨x, hx⟩ : ∃ x, V[k1]? = some x := ⟨_, List.getElem?_eq_getElem (by omega)⟩
        obtain ⟨y, hy⟩ : ∃ y, V[k1 + 1]? = some y := ⟨_, List.getElem?_eq_getElem (by omega)⟩
        obtain ⟨gx, hgx⟩ := brow_some hR.vr (by omega)
        subst hgx
        have x1 := brow_at hR.vr hx
        have y1 := brow_at hR.vr hy
        rw [← hk1] at y1
        have z1 : (k : Int) < (n : Int) := by omega
        have z2 : (k1 : Int) < (n : Int) := by omega
        have hw : IntKind.i64.wrap ((k : Int) - 1) = (k1 : Int) := by rw [IntKind.wrap_i64]; have := (unhide HV).2.2.1; have := unhide HNE; omega
        have HB := hide (fun q2 => ((hR.drew q).drew q2).below)
        obtain ⟨kk, hkk⟩ : ∃ kk, kk = k + 1 := ⟨_, rfl⟩
        have zw : Hid (wrap64 ((k : Int) + 1) = (kk : Int)) := by have := (unhide HV).2.2.1; have := unhide HNE; show wrap64 ((k : Int) + 1) = (kk : Int); unfold wrap64; omega
        by_cases hxy : x = y
        · subst hxy
          have HG : Hid (¬ vs.Nodup) := fun hd => not_nodup_near hx hy (hVp.nodup_iff.2 hd)
          clear hx hy hR hVp hVs hVl hk hlt hk1 HR HNR hkk
          go_wp2_with fail
          go_quiet (fail)
          go_wp2_with fail
          go_ret2
          exact ⟨unhide HB _, .inl ⟨unhide HG, rfl⟩⟩
        · have hz : (y == x) = false := by simp; omega
          have HJ : Hid ((1 ≤ kk ∧ (kk ≤ n ∨ kk = 1) ∧ Near V kk) ∧ n - kk < n - k) := ⟨⟨by omega, .inl (by omega), fun i a b h1 h2 h3 => by
            by_cases e : i = k1
            · subst e
              rw [hx] at h2
              rw [hy] at h3
              injection h2 with h2
              injection h3 with h3
              rw [← h2, ← h3]; exact hxy
            · exact (unhide hk).2.2 i a b (by omega) h2 h3⟩, by omega⟩
          clear hx hy hR hVp hVs hVl hk hlt hk1 HNR hkk hxy HB
          go_wp2_with fail
          go_quiet (fail)
          go_wp2_with fail
          rw [unhide zw]
          refine ⟨⟨kk, _, rfl, rfl, (unhide HJ).1⟩, by have := (unhide HJ).2; simp [intOf]; omega⟩
      · have hVd : V.Nodup := nodup_near hVs (fun i a b h1 h2 => (unhide hk).2.2 i a b (by have := (List.getElem?_eq_some_iff.1 h2).1; omega) h1 h2)
        have hlt2 := sorted_lt hVs hVd
        have hR2 := hR.drew q
        have z1 : ¬ (k : Int) < (n : Int) := by omega
        have HR2 := hide (And.intro hR2 (And.intro hVp (And.intro hlt2 (And.intro (hVp.nodup_iff.1 hVd) hVl))))
        clear hR hVp hVs hVl hk hlt HR HNR hVd hlt2 hR2 HVV
        go_upto_region 9 with fail
        have HS2 : Hid (okArcs vs (arcs.take 0) ∧ ∃ L lvs, RD w gb gn n (.slice xx n xc) V (nextOf V (arcs.take 0)) L lvs (w2.drewN q)) := ⟨fun b hb => (by cases hb), L, lvs, (unhide HR2).1⟩
        have HV2 := hide (unhide HR2).2
        clear HR2 z1 c0
        generalize w2.drewN q = w3 at *
        go_loopw [53] (fun s53 wr => ∃ i : Nat, s53 = .int .i64 (i : Nat) ∧ i ≤ m ∧ Hid (okArcs vs (arcs.take i) ∧ ∃ L lvs, RD w gb gn n (.slice xx n xc) V (nextOf V (arcs.take i)) L lvs wr)) (fun s53 _ => m - (intOf s53).toNat)
        case atStart => exact ⟨0, rfl, Nat.zero_le _, HS2⟩
        case round =>
          obtain ⟨i, rfl, him, hI⟩ := hrel
          obtain ⟨hOk, L1, lv1, hR1⟩ := unhide hI
          by_cases hlt : i < m
          · have hml := unhide HME
            obtain ⟨⟨u, x⟩, hux⟩ : ∃ a, arcs[i]? = some a := ⟨_, List.getElem?_eq_getElem (by omega)⟩
            obtain ⟨ga, hga⟩ := (unhide HV).2.2.2.2 (by omega)
            subst hga
            obtain ⟨a1, a2⟩ := arow_at (arow_kept (unhide HV).2.1 hR1.below) hux
            have z1 : (i : Int) < (m : Int) := by omega
            have HR1 := hide hR1
            have HOK := hide hOk
            clear hR1 hI hOk him hlt hml HS2
            dsimp only at a1 a2
            go_upto_region 11 with fail
            change Code.wp _ _ _ _ (wr.alloc (oArc u x))
            have hb4 := below_new wr (oArc u x)
            have hR4 := (unhide HR1).grow hb4
            obtain ⟨x0, x1, -⟩ := cellsArc (heap_alloc_new wr (oArc u x))
            obtain ⟨c0, c1, -⟩ := cellsG9 hR4.box
            obtain ⟨hVp, hVlt, hVd, hVl⟩ := unhide HV2
            have hnb := (unhide HV).2.2.1
            have HCS : Hid (∀ W, RD w gb gn n (.slice xx n xc) V (nextOf V (arcs.take i)) L1 lv1 W → ∀ (k : Int) (q : Nat), Calls Try.prog 31 #[.slice xx n xc, .int .i64 k] (W.drewN q) fun e w' => e = .returned (.tuple #[.int .i64 (V.countP (fun x => decide (x < k)) : Nat), .bool (decide (k ∈ V))]) ∧ ∃ q2, w' = W.drewN q2) := fun W hW k q => Calls.quiet_of (searchI k _ (brow_at0 (hW.drew q).vr) (by omega) hVlt)
            have HR4 := hide hR4
            clear HR1 a1 a2 hb4 hR4 hnb
            generalize wr.alloc (oArc u x) = w4 at *
            generalize wr.heap.size = ab at *
            by_cases hu : u ∈ V
            · by_cases hx : x ∈ V
              · have HU := hide (And.intro hu (And.intro hx hux))
                have CS1 := hide (unhide HCS w4 (unhide HR4) u)
                rw [decide_eq_true hu, countP_idx hVlt hu] at CS1
                generalize V.countP (fun y => decide (y < u)) = pu at *
                clear hVp hVlt hVd hVl z1 hu
                go_quiet ((go_at_call 31; exact unhide CS1 _))
                have hR5 := (unhide HR4).drew nq
                have x1' : (w4.drewN nq).cell? ⟨ab, 1, none⟩ = some (.int .i64 x) := x1
                clear x0 x1 c0 c1 CS1 HR4
                generalize w4.drewN nq = w5 at *
                obtain ⟨c0, c1, -⟩ := cellsG9 hR5.box
                have HR5 := hide hR5
                have CS2 := hide (unhide HCS w5 hR5 x)
                clear hR5 HCS
                rw [decide_eq_true hx, countP_idx (unhide HV2).2.1 hx] at CS2
                clear hx hux
                go_wp2_with fail
                go_quiet ((go_at_call 31; exact unhide CS2 _))
                have hR6 := (unhide HR5).drew nq
                clear CS2 c0 c1 x1' HR5
                generalize w5.drewN nq = w6 at *
                have HR6 := hide hR6
                clear hR6
                go_upto_region 15 with fail
                obtain ⟨hu, hx, hux⟩ := unhide HU
                obtain ⟨hVp, hVlt, hVd, hVl⟩ := unhide HV2
                have hpn : V.idxOf u < n := by rw [← hVl]; exact List.idxOf_lt_length_of_mem hu
                obtain ⟨n1, n2⟩ := nextOf_snoc hVlt hux hu
                obtain ⟨z, zn, zc, z', zn', zc', w8, k6, r8, b7, k7, b8, k8, f8, hG⟩ := ((unhide HR6).drew 1).arc hpn (by have h1 := nextOf_len V (arcs.take i) (V.idxOf u); have h2 := (unhide HV).2.2.2.1; have h3 := unhide HME; rw [List.length_take] at h1; omega) n1 n2
                have c6 : w6.drew.cell? ⟨gb, 1, none⟩ = some (.slice (some ⟨gn, 0, none⟩) n n) := (cellsG9 ((unhide HR6).drew 1).box).2.1
                have k6' : w6.drew.cell? ⟨gn, V.idxOf u, none⟩ = some (.slice z zn zc) := k6
                have r8' : ∀ ty, (Builtin.append_ #[22, 22] ty #[.slice z zn zc, .slice (some ⟨w6.drew.heap.size, 0, none⟩) 1 1]).run Try.prog (w6.drew.alloc (.cells #[.int .i64 (V.idxOf x : Nat)] 3)) = .ok (.slice z' zn' zc') w8 := r8
                have c7 : (w6.drew.alloc (.cells #[.int .i64 (V.idxOf x : Nat)] 3)).cell? ⟨gb, 1, none⟩ = some (.slice (some ⟨gn, 0, none⟩) n n) := (cellsG9 b7).2.1
                have k7' : (w6.drew.alloc (.cells #[.int .i64 (V.idxOf x : Nat)] 3)).cell? ⟨gn, V.idxOf u, none⟩ = some (.slice z zn zc) := k7
                have c8 := (cellsG9 b8).2.1
                have HR8 := hide r8'
                have HJ : Hid ((okArcs vs (arcs.take (i + 1)) ∧ ∃ L lvs, RD w gb gn n (.slice xx n xc) V (nextOf V (arcs.take (i + 1))) L lvs (w8.setCell ⟨gn, V.idxOf u, none⟩ (.slice z' zn' zc'))) ∧ i + 1 ≤ m ∧ m - (i + 1) < m - i) := by
                  have hi : i < m := by have := unhide HME; have := (List.getElem?_eq_some_iff.1 hux).1; omega
                  refine ⟨⟨?_, hG⟩, by omega, by omega⟩
                  rw [take_snoc hux]
                  exact okArcs_snoc (unhide HOK) (hVp.mem_iff.1 hu) (hVp.mem_iff.1 hx)
                have zp : ((V.idxOf u : Nat) : Int) < (n : Int) := by omega
                obtain ⟨i1, hi1⟩ : ∃ i1, i1 = i + 1 := ⟨_, rfl⟩
                have zw : Hid (wrap64 ((i : Int) + 1) = (i1 : Int)) := by have := (unhide HJ).2.1; have := (unhide HV).2.2.2.1; show wrap64 ((i : Int) + 1) = (i1 : Int); unfold wrap64; omega
                rw [← hi1] at HJ
                generalize V.idxOf u = pu at *
                generalize V.idxOf x = px at *
                clear hu hx hux hVp hVlt hVd hVl hpn n1 n2 k6 r8 b7 k7 b8 hG HU HR6 HOK hi1 r8'
                refine wp_region_noPanic ?_
                refine regionL [16] (fun y => y.cell? ⟨gb, 1, none⟩ = some (.slice (some ⟨gn, 0, none⟩) n n) ∧ y.cell? ⟨gn, pu, none⟩ = some (.slice z zn zc)) (by kernel_rfl) ⟨c6, k6'⟩ (fun hHeld => ?_)
                refine takeL (i := 0) (v := ?t11v0) (some 83) rfl rfl (by kernel_rfl) (by kernel_rfl) (by kernel_rfl) (by kernel_rfl) (by kernel_rfl) (fun _ _ _ h => h) (Or.inl ⟨by rfl, ?t11h0⟩) (by assumption) ?t11r0
                case t11h0 => (intro y hSu; (try dsimp only at hSu); go_simp; first | done | with_reducible rfl)
                (try simp only [Act.put, List.setIfInBounds_toArray, List.set_cons_zero, List.set_cons_succ])
                refine takeL (i := 1) (v := ?t11v1) (some 84) rfl rfl (by kernel_rfl) (by kernel_rfl) (by kernel_rfl) (by kernel_rfl) (by kernel_rfl) (fun _ _ _ h => h) (Or.inl ⟨by rfl, ?t11h1⟩) (by assumption) ?t11r1
                case t11h1 => (intro y hSu; (try dsimp only at hSu); go_simp; first | done | with_reducible rfl)
                (try simp only [Act.put, List.setIfInBounds_toArray, List.set_cons_zero, List.set_cons_succ])
                refine takeL (i := 2) (v := ?t11v2) (some 85) rfl rfl (by kernel_rfl) (by kernel_rfl) (by kernel_rfl) (by kernel_rfl) (by kernel_rfl) (fun _ _ _ h => h) (Or.inl ⟨by rfl, ?t11h2⟩) (by assumption) ?t11r2
                case t11h2 => (intro y hSu; (try dsimp only at hSu); go_simp; first | done | with_reducible rfl)
                (try simp only [Act.put, List.setIfInBounds_toArray, List.set_cons_zero, List.set_cons_succ])
                refine takeL (i := 3) (v := ?t11v3) (some 86) rfl rfl (by kernel_rfl) (by kernel_rfl) (by kernel_rfl) (by kernel_rfl) (by kernel_rfl) (fun _ _ _ h => h) (Or.inl ⟨by rfl, ?t11h3⟩) (by assumption) ?t11r3
                case t11h3 => (intro y hSu; (try dsimp only at hSu); go_simp; first | done | with_reducible rfl)
                (try simp only [Act.put, List.setIfInBounds_toArray, List.set_cons_zero, List.set_cons_succ])
                refine takeL (i := 4) (v := ?t11v4) (some 87) rfl rfl (by kernel_rfl) (by kernel_rfl) (by kernel_rfl) (by kernel_rfl) (by kernel_rfl) (fun _ _ _ h => h) (Or.inl ⟨by rfl, ?t11h4⟩) (by assumption) ?t11r4
                case t11h4 => (intro y hSu; (try dsimp only at hSu); go_simp; first | done | with_reducible rfl)
                (try simp only [Act.put, List.setIfInBounds_toArray, List.set_cons_zero, List.set_cons_succ])
                refine takeL (i := 5) (v := ?t11v5) (some 88) rfl rfl (by kernel_rfl) (by kernel_rfl) (by kernel_rfl) (by kernel_rfl) (by kernel_rfl) (fun _ _ _ h => h) (Or.inl ⟨by rfl, ?t11h5⟩) (by assumption) ?t11r5
                case t11h5 => (intro y hSu; (try dsimp only at hSu); go_simp; first | done | with_reducible rfl)
                (try simp only [Act.put, List.setIfInBounds_toArray, List.set_cons_zero, List.set_cons_succ])
                refine takeL (i := 6) (v := ?t11v6) (some 89) rfl rfl (by kernel_rfl) (by kernel_rfl) (by kernel_rfl) (by kernel_rfl) (by kernel_rfl) (fun _ _ _ h => h) (Or.inl ⟨by rfl, ?t11h6⟩) (by assumption) ?t11r6
                case t11h6 => (intro y hSu; (try dsimp only at hSu); go_simp; first | done | with_reducible rfl)
                (try simp only [Act.put, List.setIfInBounds_toArray, List.set_cons_zero, List.set_cons_succ])
                refine takeL (i := 7) (v := ?t11v7) (some 90) rfl rfl (by kernel_rfl) (by kernel_rfl) (by kernel_rfl) (by kernel_rfl) (by kernel_rfl) (fun _ _ _ h => h) (Or.inl ⟨by rfl, ?t11h7⟩) (by assumption) ?t11r7
                case t11h7 => (intro y hSu; (try dsimp only at hSu); go_simp; first | done | with_reducible rfl)
                (try simp only [Act.put, List.setIfInBounds_toArray, List.set_cons_zero, List.set_cons_succ])
                refine takeL (i := 8) (v := ?t11v8) (some 91) rfl rfl (by kernel_rfl) (by kernel_rfl) (by kernel_rfl) (by kernel_rfl) (by kernel_rfl) (fun _ _ _ h => h) (Or.inl ⟨by rfl, ?t11h8⟩) (by assumption) ?t11r8
                case t11h8 => (intro y hSu; (try dsimp only at hSu); go_simp; first | done | with_reducible rfl)
                (try simp only [Act.put, List.setIfInBounds_toArray, List.set_cons_zero, List.set_cons_succ])
                refine takeL (i := 9) (v := ?t11v9) (some 92) rfl rfl (by kernel_rfl) (by kernel_rfl) (by kernel_rfl) (by kernel_rfl) (by kernel_rfl) (fun _ _ _ h => h) (Or.inl ⟨by rfl, ?t11h9⟩) (by assumption) ?t11r9
                case t11h9 => (intro y hSu; (try dsimp only at hSu); go_simp; first | done | with_reducible rfl)
                (try simp only [Act.put, List.setIfInBounds_toArray, List.set_cons_zero, List.set_cons_succ])
                refine takeL (i := 10) (v := ?t11v10) (some 93) rfl rfl (by kernel_rfl) (by kernel_rfl) (by kernel_rfl) (by kernel_rfl) (by kernel_rfl) (fun _ _ _ h => h) (Or.inl ⟨by rfl, ?t11h10⟩) (by assumption) ?t11r10
                case t11h10 => (intro y hSu; (try dsimp only at hSu); go_simp; first | done | with_reducible rfl)
                (try simp only [Act.put, List.setIfInBounds_toArray, List.set_cons_zero, List.set_cons_succ])
                refine takeL (i := 11) (v := ?t11v11) (some 94) rfl rfl (by kernel_rfl) (by kernel_rfl) (by kernel_rfl) (by kernel_rfl) (by kernel_rfl) (fun _ _ _ h => h) (Or.inl ⟨by rfl, ?t11h11⟩) (by assumption) ?t11r11
                case t11h11 => (intro y hSu; (try dsimp only at hSu); go_simp; first | done | with_reducible rfl)
                (try simp only [Act.put, List.setIfInBounds_toArray, List.set_cons_zero, List.set_cons_succ])
                refine takeL (i := 12) (v := ?t11v12) (some 95) rfl rfl (by kernel_rfl) (by kernel_rfl) (by kernel_rfl) (by kernel_rfl) (by kernel_rfl) (fun _ _ _ h => h) (Or.inl ⟨by rfl, ?t11h12⟩) (by assumption) ?t11r12
                case t11h12 => (intro y hSu; (try dsimp only at hSu); go_simp; first | done | with_reducible rfl)
                (try simp only [Act.put, List.setIfInBounds_toArray, List.set_cons_zero, List.set_cons_succ])
                refine readyL (i := 13) (by kernel_rfl) rfl (fun K hK => ?_)
                go_simp
                refine hK.out _ _ (fun _ => (And.intro c7 k7')) ?_
                clear hK K
                (try simp only [Act.put, List.setIfInBounds_toArray, List.set_cons_zero, List.set_cons_succ])
                have hH13 := (And.intro c7 k7')
                refine readyL (i := 14) (by kernel_rfl) rfl (fun K hK => ?_)
                refine step_append_run rfl (.tmp 94) (.tmp 96) 22 rfl _ _ (by simp [Act.eval]) (by simp [Act.eval]) _ _ (unhide HR8 _) ?_
                refine hK.out _ _ (fun _ => (And.intro c8 k8)) ?_
                clear hK K
                (try simp only [Act.put, List.setIfInBounds_toArray])
                have hH14 := (And.intro c8 k8)
                refine takeL (i := 15) (v := ?t15v15) (some 98) rfl rfl (by kernel_rfl) (by kernel_rfl) (by kernel_rfl) (by kernel_rfl) (by kernel_rfl) (fun _ _ _ h => h) (Or.inl ⟨by rfl, ?t15h15⟩) (by assumption) ?t15r15
                case t15h15 => (intro y hSu; (try dsimp only at hSu); go_simp; first | done | with_reducible rfl)
                (try simp only [Act.put])
                refine readyL (i := 16) (by kernel_rfl) rfl (fun K hK => ?_)
                go_simp
                refine hK.out _ _ (fun h => by cases h) ?_
                clear hK K
                (try simp only [Act.put, List.setIfInBounds_toArray, List.set_cons_zero, List.set_cons_succ])
                refine doneL (by kernel_rfl) ?_ _
                refine NoPanic.normal ?_
                go_wp2_with fail
                rw [unhide zw]
                exact ⟨⟨i1, rfl, (unhide HJ).2.1, (unhide HJ).1⟩, by have := (unhide HJ).2.2; simp [intOf]; omega⟩
              · have HNO : Hid (¬ okArcs vs arcs) := fun h => hx (hVp.mem_iff.2 (h (u, x) (List.mem_of_getElem? hux)).2)
                have CS1 := hide (unhide HCS w4 (unhide HR4) u)
                rw [decide_eq_true hu] at CS1
                generalize V.countP (fun y => decide (y < u)) = pu at *
                clear hVp hVlt hVd hVl z1 hu
                go_quiet ((go_at_call 31; exact unhide CS1 _))
                have hR5 := (unhide HR4).drew nq
                have x1' : (w4.drewN nq).cell? ⟨ab, 1, none⟩ = some (.int .i64 x) := x1
                clear x0 x1 c0 c1 CS1 HR4
                generalize w4.drewN nq = w5 at *
                obtain ⟨c0, c1, -⟩ := cellsG9 hR5.box
                have HR5 := hide hR5
                have CS2 := hide (unhide HCS w5 hR5 x)
                clear hR5 HCS
                rw [decide_eq_false hx] at CS2
                generalize V.countP (fun y => decide (y < x)) = px at *
                clear hx hux
                go_wp2_with fail
                go_quiet ((go_at_call 31; exact unhide CS2 _))
                go_wp2_with fail
                go_ret2
                exact ⟨((unhide HR5).drew _).below, .inr (.inl ⟨(unhide HV2).2.2.1, unhide HNO, rfl⟩)⟩
            · have HNO : Hid (¬ okArcs vs arcs) := fun h => hu (hVp.mem_iff.2 (h (u, x) (List.mem_of_getElem? hux)).1)
              have CS1 := hide (unhide HCS w4 (unhide HR4) u)
              rw [decide_eq_false hu] at CS1
              generalize V.countP (fun y => decide (y < u)) = pu at *
              clear hVp hVlt hVd hVl z1 hu
              go_quiet ((go_at_call 31; exact unhide CS1 _))
              have hR5 := (unhide HR4).drew nq
              have x1' : (w4.drewN nq).cell? ⟨ab, 1, none⟩ = some (.int .i64 x) := x1
              clear x0 x1 c0 c1 CS1 HR4
              generalize w4.drewN nq = w5 at *
              obtain ⟨c0, c1, -⟩ := cellsG9 hR5.box
              have HR5 := hide hR5
              have CS2 := hide (unhide HCS w5 hR5 x)
              clear hR5 HCS
              generalize decide (x ∈ V) = bx at *
              generalize V.countP (fun y => decide (y < x)) = px at *
              clear hux
              go_wp2_with fail
              go_quiet ((go_at_call 31; exact unhide CS2 _))
              go_wp2_with fail
              go_ret2
              exact ⟨((unhide HR5).drew _).below, .inr (.inl ⟨(unhide HV2).2.2.1, unhide HNO, rfl⟩)⟩
          · have z1 : ¬ (i : Int) < (m : Int) := by omega
            have HG : Hid (okArcs vs arcs ∧ ∃ L lvs, RD w gb gn n (.slice xx n xc) V (nextOf V arcs) L lvs wr) := by
              have h2 := unhide HME
              rw [List.take_of_length_le (by omega)] at hI
              exact hI
            clear hOk hR1 hI him hlt HS2
            go_wp2_with fail
            go_ret2
            obtain ⟨g1, g2, g3, g4⟩ := unhide HG
            obtain ⟨hVp, hVlt, hVd, hVl⟩ := unhide HV2
            exact ⟨g4.below, .inr (.inr ⟨hVd, g1, gb, V, rfl, hVp, hVlt, gn, _, _, _, by rw [hVl]; exact g4⟩)⟩
end Go.Proofs.Ytdpdghhieokcfaa
