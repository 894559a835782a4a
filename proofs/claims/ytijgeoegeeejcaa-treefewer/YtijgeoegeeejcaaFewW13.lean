/- TreeFewer, walked. -/
import Derived.Test.YtijgeoegeeejcaaFewM13
namespace Go.Proofs.Ytijgeoegeeejcaa
open Go.RowKit Go.Maps
set_option maxHeartbeats 4000000 in
set_option maxRecDepth 100000 in
theorem fewer_any [Inhabited EntF] {w : World} {a0 a1 : Option Addr} {len0 cap0 len1 cap1 : Nat} {z : Nat → Int} {o : Nat → EdV} (s : Int) (h0 : IsIntsC w a0 len0 cap0 z) (h1 : IsEdsC w a1 len1 cap1 o) (hb0 : len0 < 1000000000000000000) (hb1 : len1 < 1000000000000000000) :
    Calls Try.prog 6 #[.slice a0 len0 cap0, .slice a1 len1 cap1, .int .i64 s] w fun e w' => e = .returned (.bool true) ∧ Below w.heap.size w w' := by
  have CA := hide (awakeS w)
  have CC : Hid (∀ W, Below w.heap.size w W → Calls Try.prog 9 #[.slice a0 len0 cap0, .slice a1 len1 cap1] W fun e w' => Hid (∃ v1 v2, e = .returned (.tuple #[v1, v2]) ∧ CutAns W ((List.range (min len0 40)).map z) ((List.range (min len1 160)).map o) v1 v2 w')) := fun W hW => cutS ⟨isInts_below h0.1 hW, h0.2⟩ (isEds_below h1 hW) hb0 hb1
  have hk1 : ((List.range (min len0 40)).map z).length ≤ 1000 := by simp; omega
  have hk2 : ((List.range (min len1 160)).map o).length ≤ 1000 := by simp; omega
  generalize (List.range (min len0 40)).map z = ks at *
  generalize (List.range (min len1 160)).map o = es at *
  have HK : Hid (ks.length ≤ 1000 ∧ es.length ≤ 1000) := ⟨hk1, hk2⟩
  clear h0 h1 hb0 hb1 hk1 hk2
  go_enter Try.func6, Try.ntmps6
  go_wp2_with fail
  refine (unhide CA).mono ?_
  rintro e w1 ⟨rfl, hb1⟩
  have CC2 := hide (unhide CC w1 (unhide hb1))
  clear CA CC
  go_wp2_with fail
  refine (unhide CC2).mono ?_
  intro e w2 H2
  obtain ⟨v1, v2, rfl, c1, c2, c3, -⟩ := unhide H2
  obtain ⟨x1, r1, rfl, -⟩ := brow_shape c2
  obtain ⟨x2, r2, rfl⟩ := rrow_shape c3
  have C3 := hide (buildS (s := s) (brow_at0 c2) (rrow_low c3 (Nat.zero_le _)) (unhide HK).1 (unhide HK).2)
  have hB2 : Below w.heap.size w w2 := (unhide hb1).trans (c1.mono (unhide hb1).size)
  obtain ⟨n1, hn1⟩ : ∃ n1, n1 = ks.length := ⟨_, rfl⟩
  obtain ⟨n2, hn2⟩ : ∃ n2, n2 = es.length := ⟨_, rfl⟩
  rw [← hn1, ← hn2] at C3
  rw [← hn2] at c3
  rw [← hn1] at c2
  have HE : Hid (ERow 0 w2 (.slice x2 n2 r2) es ∧ n2 = es.length ∧ n2 ≤ 1000 ∧ Below w.heap.size w w2) := ⟨rrow_low c3 (Nat.zero_le _), hn2, by have := (unhide HK).2; omega, hB2⟩
  have HV : Hid (NRow w2 (.slice x1 n1 r1) ks ∧ n1 = ks.length ∧ n1 ≤ 1000) := ⟨brow_at0 c2, hn1, by have := (unhide HK).1; omega⟩
  rw [← hn1, ← hn2]
  clear CC2 H2 c1 c2 c3 hB2 hb1 hn1 hn2
  go_wp2_with fail
  refine (unhide C3).mono ?_
  rintro e w3 ⟨po, er, rfl, H3⟩
  clear C3
  by_cases her : er = 0
  · subst her
    obtain ⟨p, ys, ds, fs, rfl, HT⟩ : ∃ p ys ds fs, po = some ⟨p, 0, none⟩ ∧ Hid (TreeAt w2.heap.size w3 p s ys es ds fs ∧ Below w.heap.size w w3 ∧ Below w2.heap.size w2 w3 ∧ ys.Perm ks ∧ ys.Pairwise (· ≤ ·)) := by
      obtain ⟨ys, q1, q2, q3, q4, q5⟩ := unhide H3
      rcases q5 with ⟨z, -⟩ | ⟨-, p, ds, fs, e, hT⟩
      · exact absurd rfl z
      · exact ⟨p, ys, ds, fs, e, hT, (unhide HE).2.2.2.trans (q3.mono (unhide HE).2.2.2.size), q3, q1, q2⟩
    clear H3
    by_cases hn0 : n2 = 0
    · subst hn0
      have HB := hide (unhide HT).2.1
      clear HT HE HV HK
      go_wp2_with fail
      go_ret
      exact ⟨rfl, unhide HB⟩
    · obtain ⟨m, hm⟩ : ∃ m, m = n2 - 1 := ⟨_, rfl⟩
      obtain ⟨e1, e2, e3, -⟩ := unhide HE
      obtain ⟨hT, t2, t3, t4, t5⟩ := unhide HT
      obtain ⟨x, hx⟩ : ∃ x, es[m]? = some x := ⟨_, List.getElem?_eq_getElem (by omega)⟩
      have hrow := rrow_below e1 t3
      obtain ⟨g, rfl⟩ := rrow_some hrow (by omega)
      obtain ⟨d0, d1, d2, d3⟩ := erow_at hrow hx
      have hb := below_new w3 (oEd x)
      have hblk := heap_alloc_new w3 (oEd x)
      obtain ⟨W1, hW1⟩ : ∃ W1, W1 = w3.alloc (oEd x) := ⟨_, rfl⟩
      obtain ⟨wb, hwb⟩ : ∃ wb, wb = w3.heap.size := ⟨_, rfl⟩
      rw [← hW1] at hb hblk
      rw [← hwb] at hblk
      have hwl : wb < W1.heap.size := (Array.getElem?_eq_some_iff.1 hblk).1
      have HX : Hid (∀ W', Below W1.heap.size W1 W' → W'.cell? ⟨wb, 0, none⟩ = some (.int .i64 x.1) ∧ W'.cell? ⟨wb, 1, none⟩ = some (.int .i64 x.2.1) ∧ W'.cell? ⟨wb, 2, none⟩ = some (.int .i64 x.2.2.1) ∧ W'.cell? ⟨wb, 3, none⟩ = some (.int .u32 x.2.2.2)) := fun W' h => cellsEd ((h.block wb hwl).trans hblk)
      have HM : Hid (∀ W', Below W1.heap.size W1 W' → TreeAt w2.heap.size W' p s ys es ds fs) := fun W' h => hT.below (hb.trans (h.mono hb.size))
      have hrow1 := rrow_take kitE (rrow_below hrow hb) (m := m) (by omega)
      have hvs1 := nrow_below (nrow_below (unhide HV).1 t3) hb
      have C4 := hide (buildS (s := s) hvs1 hrow1 (unhide HK).1 (by rw [List.length_take]; omega))
      have HV1 : Hid (∀ W', Below W1.heap.size W1 W' → NRow W' (.slice x1 n1 r1) ks) := fun W' h => nrow_below hvs1 h
      have hcap := rrow_cap hrow
      have zm : Hid (wrap64 ((n2 : Int) - 1) = (m : Int)) := by show wrap64 ((n2 : Int) - 1) = (m : Int); unfold wrap64; omega
      have z0 : wrap64 ((n2 : Int) - 1) = (m : Int) := unhide zm
      have z1 : (m : Int) < (n2 : Int) := by omega
      have z2 : (m : Int) ≤ (r2 : Int) := by omega
      have z3 : ((n2 : Int) == 0) = false := by simpa using fun e => hn0 (by omega)
      have ea : (if r2 = 0 then some (⟨g, 0, none⟩ : Addr) else some (Addr.add ⟨g, 0, none⟩ 0)) = some ⟨g, 0, none⟩ := by simp [Addr.add]
      have HS : Hid (es = es.take m ++ [x] ∧ Below w.heap.size w W1) := ⟨by
        have h1 := List.take_add_one (l := es) (i := m)
        rw [hx, List.take_of_length_le (by omega)] at h1
        exact h1, t2.trans (hb.mono t2.size)⟩
      have HW1 := hide hW1
      have HWB := hide hwb
      clear e1 e2 e3 hT t2 t3 t4 t5 hx hrow hb hblk hW1 hwb hwl hrow1 hvs1 hcap hn0 hm zm
      (try dsimp only at d0 d1 d2 d3)
      go_upto_region 8 with fail
      rw [show w3.alloc (.cells #[.int .i64 x.1, .int .i64 x.2.1, .int .i64 x.2.2.1, .int .u32 x.2.2.2] 42) = W1 from (unhide HW1).symm, ← unhide HWB]
      clear HW1 HWB d0 d1 d2 d3
      go_wp2_with fail
      refine (unhide C4).mono ?_
      rintro e w4 ⟨po2, er2, rfl, H4⟩
      obtain ⟨p2, ds2, fs2, rfl, rfl, HT2⟩ : ∃ p2 ds2 fs2, po2 = some ⟨p2, 0, none⟩ ∧ er2 = 0 ∧ Hid (TreeAt W1.heap.size w4 p2 s ys (es.take m) ds2 fs2 ∧ Below W1.heap.size W1 w4) := by
        obtain ⟨ys', q1, q2, q3, q4, q5⟩ := unhide H4
        obtain ⟨hT, -, -, t4, t5⟩ := unhide HT
        have hys : ys' = ys := srt_eq (q1.trans t4.symm) q2 t5
        subst hys
        rw [fault_zero.2 (hT.good.sub (List.take_sublist m es))] at q4
        rcases q5 with ⟨z, -⟩ | ⟨-, p, ds, fs, e, hT⟩
        · exact absurd q4 z
        · exact ⟨p, ds, fs, e, q4, hT, q3⟩
      have CL := hide (fun W' (h : Below W1.heap.size W1 W') => lastT (unhide HM W' h) x.2.2.1)
      have HA : Hid (∀ v ∈ ys, (askC ys ds v = 0 ∨ askC ys ds v = 130) ∧ (askC ys ds2 v = 0 ∨ askC ys ds2 v = 130) ∧ (askC ys ds2 v = 0 → askC ys ds v = 0 ∧ askB ys ds v ≤ askB ys ds2 v) ∧ (askE ys ds x.2.2.1 ≠ x.1 → askC ys ds v = askC ys ds2 v ∧ askB ys ds v = askB ys ds2 v)) := fun v hv => fewer_ask (unhide HT).1 (unhide HT2).1 (fun y hy => List.mem_of_mem_take hy) (fun y hy => by
        rw [(unhide HS).1] at hy
        rcases List.mem_append.1 hy with q | q
        · exact .inr q
        · exact .inl (List.mem_singleton.1 q)) hv
      obtain ⟨o0, o1, o2, o3⟩ := unhide HX w4 (unhide HT2).2
      generalize askE ys ds x.2.2.1 = ev at *
      clear C4 H4 z0 z1 z2 z3 ea
      go_upto_region 11 with fail
      refine wp_region_noPanic ?_
      refine regionL [] (fun y => y.cell? ⟨wb, 2, none⟩ = some (.int .i64 x.2.2.1) ∧ y.cell? ⟨wb, 0, none⟩ = some (.int .i64 x.1)) (by kernel_rfl) ⟨o2, o0⟩ (fun hHeld => ?_)
      refine takeL (i := 0) (v := ?t2v0) (some 73) rfl rfl (by kernel_rfl) (by kernel_rfl) (by kernel_rfl) (by kernel_rfl) (by kernel_rfl) (fun _ _ _ h => h) (Or.inl ⟨by rfl, ?t2h0⟩) (by assumption) ?t2r0
      case t2h0 => (intro y hSu; (try dsimp only at hSu); go_simp; first | done | with_reducible rfl)
      (try simp only [Act.put, List.setIfInBounds_toArray, List.set_cons_zero, List.set_cons_succ])
      refine takeL (i := 1) (v := ?t2v1) (some 74) rfl rfl (by kernel_rfl) (by kernel_rfl) (by kernel_rfl) (by kernel_rfl) (by kernel_rfl) (fun _ _ _ h => h) (Or.inl ⟨by rfl, ?t2h1⟩) (by assumption) ?t2r1
      case t2h1 => (intro y hSu; (try dsimp only at hSu); go_simp; first | done | with_reducible rfl)
      (try simp only [Act.put, List.setIfInBounds_toArray, List.set_cons_zero, List.set_cons_succ])
      refine takeL (i := 2) (v := ?t2v2) (some 75) rfl rfl (by kernel_rfl) (by kernel_rfl) (by kernel_rfl) (by kernel_rfl) (by kernel_rfl) (fun _ _ _ h => h) (Or.inl ⟨by rfl, ?t2h2⟩) (by assumption) ?t2r2
      case t2h2 => (intro y hSu; (try dsimp only at hSu); go_simp; first | done | with_reducible rfl)
      (try simp only [Act.put, List.setIfInBounds_toArray, List.set_cons_zero, List.set_cons_succ])
      refine takeL (i := 4) (v := ?t2v4) (some 77) rfl rfl (by kernel_rfl) (by kernel_rfl) (by kernel_rfl) (by kernel_rfl) (by kernel_rfl) (fun _ _ _ h => h) (Or.inl ⟨by rfl, ?t2h4⟩) (by assumption) ?t2r4
      case t2h4 => (intro y hSu; (try dsimp only at hSu); go_simp; first | done | with_reducible rfl)
      (try simp only [Act.put, List.setIfInBounds_toArray, List.set_cons_zero, List.set_cons_succ])
      refine takeL (i := 5) (v := ?t2v5) (some 78) rfl rfl (by kernel_rfl) (by kernel_rfl) (by kernel_rfl) (by kernel_rfl) (by kernel_rfl) (fun _ _ _ h => h) (Or.inl ⟨by rfl, ?t2h5⟩) (by assumption) ?t2r5
      case t2h5 => (intro y hSu; (try dsimp only at hSu); go_simp; first | done | with_reducible rfl)
      (try simp only [Act.put, List.setIfInBounds_toArray, List.set_cons_zero, List.set_cons_succ])
      refine readyL (i := 3) (by kernel_rfl) rfl (fun K hK => ?_)
      go_simp
      refine (unhide CL _ (below_drewN (unhide HT2).2 1)).mono ?_
      rintro e w5 ⟨rfl, hb5⟩
      have HB5 : Hid (Below W1.heap.size W1 w5 ∧ Below w4.heap.size w4 w5) := ⟨(below_drewN (unhide HT2).2 1).trans ((unhide hb5).mono (below_drewN (unhide HT2).2 1).size), (below_drewN (Below.refl w4.heap.size w4) 1).trans ((unhide hb5).mono (below_drewN (Below.refl w4.heap.size w4) 1).size)⟩
      clear CL hb5
      have HO := hide (unhide HX w5 (unhide HB5).1)
      (try dsimp only)
      refine hK.out _ _ (fun _ => (And.intro (unhide HO).2.2.1 (unhide HO).1)) ?_
      clear hK K
      (try simp only [Act.put, List.setIfInBounds_toArray, List.set_cons_zero, List.set_cons_succ])
      have hH4 := (And.intro (unhide HO).2.2.1 (unhide HO).1)
      refine takeL (i := 6) (v := ?t5v6) (some 79) rfl rfl (by kernel_rfl) (by kernel_rfl) (by kernel_rfl) (by kernel_rfl) (by kernel_rfl) (fun _ _ _ h => h) (Or.inl ⟨by rfl, ?t5h6⟩) (by assumption) ?t5r6
      case t5h6 => (intro y hSu; (try dsimp only at hSu); go_simp; first | done | with_reducible rfl)
      (try simp only [Act.put, List.setIfInBounds_toArray, List.set_cons_zero, List.set_cons_succ])
      refine takeL (i := 7) (v := ?t5v7) (some 12) rfl rfl (by kernel_rfl) (by kernel_rfl) (by kernel_rfl) (by kernel_rfl) (by kernel_rfl) (fun _ _ _ h => h) (Or.inl ⟨by rfl, ?t5h7⟩) (by assumption) ?t5r7
      case t5h7 => (intro y hSu; (try dsimp only at hSu); go_simp; first | done | with_reducible rfl)
      (try simp only [Act.put, List.setIfInBounds_toArray, List.set_cons_zero, List.set_cons_succ])
      refine doneL (by kernel_rfl) ?_ _
      refine NoPanic.normal ?_
      clear o0 o1 o2 o3 hHeld HO HX
      obtain ⟨u, hu⟩ : ∃ u : Bool, (ev == x.1) = u := ⟨_, rfl⟩
      rw [hu]
      have HU : Hid (u = false → ev ≠ x.1) := fun e => by rw [e] at hu; simpa using hu
      clear hu
      go_wp2_with fail
      go_loopw [82] (fun s82 wr => ∃ (i : Nat), s82 = .int .i64 i ∧ Hid (i ≤ n1 ∧ Below W1.heap.size W1 wr ∧ Below w4.heap.size w4 wr)) (fun s82 _ => n1 - (intOf s82).toNat)
      case atStart => exact ⟨0, rfl, Nat.zero_le _, (unhide HB5).1, (unhide HB5).2⟩
      case round =>
        clear HB5
        obtain ⟨i, rfl, HI⟩ := hrel
        obtain ⟨i1, i2, i3⟩ := unhide HI
        obtain ⟨-, v2, v3⟩ := unhide HV
        by_cases hlt : i < n1
        · obtain ⟨v, hv⟩ : ∃ v, ks[i]? = some v := ⟨_, List.getElem?_eq_getElem (by omega)⟩
          have hrow := unhide HV1 wr i2
          obtain ⟨g1, rfl⟩ := brow_some hrow (by omega)
          have kv := brow_at hrow hv
          have hvy : v ∈ ys := (unhide HT).2.2.2.1.mem_iff.2 (List.mem_of_getElem? hv)
          have C1 := hide (distT (unhide HM wr i2) v)
          have C2 := hide (fun W' (h : Below wr.heap.size wr W') => distT ((unhide HT2).1.below (i3.trans (h.mono i3.size))) v)
          obtain ⟨j, hj⟩ : ∃ j, j = i + 1 := ⟨_, rfl⟩
          have zw : Hid (wrap64 ((i : Int) + 1) = (j : Int)) := by show wrap64 ((i : Int) + 1) = (j : Int); unfold wrap64; omega
          have HJ : Hid (j = i + 1 ∧ n1 - j < n1 - i ∧ j ≤ n1) := ⟨hj, by omega, by omega⟩
          have HAv := hide (unhide HA v hvy)
          have HB : Hid (Below W1.heap.size W1 wr ∧ Below w4.heap.size w4 wr) := ⟨i2, i3⟩
          have z1 : (i : Int) < (n1 : Int) := by omega
          generalize askC ys ds v = cu at *
          generalize askC ys ds2 v = cv at *
          generalize askB ys ds v = bu at *
          generalize askB ys ds2 v = bv at *
          clear HI i1 i2 i3 v2 v3 hlt hv hrow hvy hj
          go_wp2_with fail
          refine (unhide C1).mono ?_
          rintro e w6 ⟨rfl, hb6⟩
          have C3 := hide (unhide C2 w6 (unhide hb6))
          clear C1 C2 kv z1
          go_wp2_with fail
          refine (unhide C3).mono ?_
          rintro e w7 ⟨rfl, hb7⟩
          have hb67 := (unhide hb6).trans ((unhide hb7).mono (unhide hb6).size)
          have HB7 : Hid (Below W1.heap.size W1 w7 ∧ Below w4.heap.size w4 w7) := ⟨(unhide HB).1.trans (hb67.mono (unhide HB).1.size), (unhide HB).2.trans (hb67.mono (unhide HB).2.size)⟩
          clear C3 hb6 hb7 hb67 HB
          obtain ⟨f1, f2, f3, f4⟩ := unhide HAv
          have HU4 : Hid (u = false → cu = cv ∧ bu = bv) := fun e => f4 (unhide HU e)
          clear HAv f4
          cases u with
          | false =>
            obtain ⟨q1, q2⟩ := unhide HU4 rfl
            subst q1 q2
            clear f2 f3 HU4
            rcases f1 with q | q
            · subst q
              go_wp2_with fail
              (try rw [unhide zw])
              exact ⟨⟨j, by first | rfl | (rw [(unhide HJ).1]; rfl), (unhide HJ).2.2, unhide HB7⟩, by have := unhide HJ; simp [intOf]; omega⟩
            · subst q
              go_wp2_with fail
              (try rw [unhide zw])
              exact ⟨⟨j, by first | rfl | (rw [(unhide HJ).1]; rfl), (unhide HJ).2.2, unhide HB7⟩, by have := unhide HJ; simp [intOf]; omega⟩
          | true =>
            clear HU4
            rcases f1 with q | q
            · subst q
              rcases f2 with r | r
              · have zb : ¬ (bv : Int) < (bu : Int) := by have := (f3 r).2; omega
                subst r
                clear f3
                go_wp2_with fail
                (try rw [unhide zw])
                exact ⟨⟨j, by first | rfl | (rw [(unhide HJ).1]; rfl), (unhide HJ).2.2, unhide HB7⟩, by have := unhide HJ; simp [intOf]; omega⟩
              · subst r
                clear f3
                go_wp2_with fail
                (try rw [unhide zw])
                exact ⟨⟨j, by first | rfl | (rw [(unhide HJ).1]; rfl), (unhide HJ).2.2, unhide HB7⟩, by have := unhide HJ; simp [intOf]; omega⟩
            · rcases f2 with r | r
              · have := (f3 r).1
                omega
              · subst q r
                clear f3
                go_wp2_with fail
                (try rw [unhide zw])
                exact ⟨⟨j, by first | rfl | (rw [(unhide HJ).1]; rfl), (unhide HJ).2.2, unhide HB7⟩, by have := unhide HJ; simp [intOf]; omega⟩
        · have z1 : ¬ (i : Int) < (n1 : Int) := by omega
          have HB := hide ((unhide HS).2.trans (i2.mono (unhide HS).2.size))
          clear HI i1 i2 i3 v2 v3 hlt
          go_wp2_with fail
          go_ret
          exact ⟨rfl, unhide HB⟩
  · have HB3 : Hid (Below w.heap.size w w3 ∧ po = none) := by
      obtain ⟨ys, q1, q2, q3, q4, q5⟩ := unhide H3
      rcases q5 with ⟨-, z⟩ | ⟨z, -⟩
      · exact ⟨(unhide HE).2.2.2.trans (q3.mono (unhide HE).2.2.2.size), z⟩
      · exact absurd z her
    obtain rfl := (unhide HB3).2
    have z0 : (er != 0) = true := by simpa using her
    have z1 : (er == 0) = false := by simpa using her
    clear H3 HE HK HV her
    go_wp2_with fail
    go_ret
    exact ⟨rfl, (unhide HB3).1⟩
end Go.Proofs.Ytijgeoegeeejcaa
