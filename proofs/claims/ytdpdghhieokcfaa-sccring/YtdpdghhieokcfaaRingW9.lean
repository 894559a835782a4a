/- SccRing walked. -/
import Derived.Test.YtdpdghhieokcfaaRingM9
namespace Go.Proofs.Ytdpdghhieokcfaa
open Go.RowKit Go.Maps T9
set_option maxHeartbeats 16000000 in
set_option maxRecDepth 100000 in
theorem ringS [Inhabited EntI] {w : World} {a0 a1 : Option Addr} {len0 cap0 len1 cap1 : Nat} {z : Nat → Int} {o : Nat → Int × Int} (h0 : IsIntsC w a0 len0 cap0 z) (h1 : IsArcsC w a1 len1 cap1 o) (hb0 : len0 < 1000000000000000000) (hb1 : len1 < 1000000000000000000) :
    Calls Try.prog 6 #[.slice a0 len0 cap0, .slice a1 len1 cap1] w fun e w' => e = .returned (.bool true) ∧ Below w.heap.size w w' := by
  have CA := hide (awakeS w)
  have HI := hide (And.intro h0 (And.intro h1 (And.intro hb0 hb1)))
  clear h0 h1 hb0 hb1
  go_enter Try.func6, Try.ntmps6
  go_wp2_with fail
  refine (unhide CA).mono ?_
  rintro e w1 ⟨rfl, hB1⟩
  clear CA
  have CC : Hid (Calls Try.prog 9 #[.slice a0 len0 cap0, .slice a1 len1 cap1] w1 fun e w' => Hid (∃ v1 v2, e = .returned (.tuple #[v1, v2]) ∧ CutAns w1 ((List.range (min len0 60)).map z) ((List.range (min len1 240)).map o) v1 v2 w')) := by
    obtain ⟨h0, h1, hb0, hb1⟩ := unhide HI
    exact cutS ⟨isInts_below h0.1 (unhide hB1), h0.2⟩ (isArcs_below h1 (unhide hB1)) hb0 hb1
  go_wp2_with fail
  refine (unhide CC).mono ?_
  intro r w2 hh
  obtain ⟨v1, v2, rfl, hCut⟩ := unhide hh
  clear CC hh HI
  obtain ⟨ks, hks, hkl⟩ : ∃ ks, ks = (List.range (min len0 60)).map z ∧ ks.length ≤ 60 := ⟨_, rfl, by simp; omega⟩
  obtain ⟨l, hl, hll⟩ : ∃ l, l = (List.range (min len1 240)).map o ∧ l.length ≤ 240 := ⟨_, rfl, by simp; omega⟩
  rw [← hks, ← hl] at hCut
  have hRG : RG w1 ks l v1 v2 w2 := hCut
  obtain ⟨x1, c1, e1, -⟩ := brow_shape hRG.2.1
  obtain ⟨x2, c2, e2, -⟩ := abrow_shape hRG.2.2.1
  obtain ⟨n1, hn1⟩ : ∃ n1, n1 = ks.length := ⟨_, rfl⟩
  obtain ⟨n2, hn2⟩ : ∃ n2, n2 = l.length := ⟨_, rfl⟩
  rw [← hn1] at e1
  rw [← hn2] at e2
  subst e1 e2
  have CO1 := hide (ofS (brow_at0 hRG.2.1) (arow_zero hRG.2.2.1) (by omega) (by omega))
  have HN := hide (And.intro hn1 (And.intro hn2 (And.intro hkl hll)))
  have HRG := hide hRG
  clear hRG hCut hks hl hkl hll hn1 hn2
  go_wp2_with fail
  refine (unhide CO1).mono ?_
  intro r w3 hh
  obtain ⟨hb3, hcase⟩ := unhide hh
  clear CO1 hh
  have HB3 : Hid (Below w.heap.size w w3 ∧ Below w2.heap.size w2 w3) := by
    have h5 := (unhide hB1).trans ((unhide HRG).1.mono (unhide hB1).size)
    exact ⟨h5.trans (hb3.mono h5.size), hb3⟩
  clear hb3
  rcases hcase with ⟨-, rfl⟩ | ⟨-, -, rfl⟩ | ⟨hnd, hok, v, V, rfl, -⟩
  · go_wp2_with fail
    go_ret
    exact ⟨rfl, (unhide HB3).1⟩
  · go_wp2_with fail
    go_ret
    exact ⟨rfl, (unhide HB3).1⟩
  · by_cases hn0 : n1 = 0
    · have hn2 : n2 = 0 := by
        obtain ⟨q1, q2, -⟩ := unhide HN
        rw [q2]
        cases hl : l with
        | nil => rfl
        | cons a l' =>
          have := (hok a (by rw [hl]; simp)).1
          rw [List.eq_nil_of_length_eq_zero (show ks.length = 0 by omega)] at this
          cases this
      have hz1 : ((n1 : Int) == 0) = true := by simp [hn0]
      have hz2 : ((n2 : Int) == 0) = true := by simp [hn2]
      clear hnd hok hn0 hn2
      go_wp2_with fail
      go_ret
      exact ⟨rfl, (unhide HB3).1⟩
    · have hz1 : ((n1 : Int) == 0) = false := by simp; omega
      have HOK := hide (And.intro hnd (And.intro hok (show 0 < n1 by omega)))
      have HR3 := hide ((unhide HRG).below (unhide HB3).2)
      have HBW : Hid (Below w.heap.size w w1) := unhide hB1
      clear hnd hok hn0 HRG HB3 hB1
      go_upto_region 8 with fail
      obtain ⟨g1, hg1⟩ : ∃ g1, x1 = some ⟨g1, 0, none⟩ := brow_some (unhide HR3).2.1 (by have := unhide HN; have := unhide HOK; omega)
      subst hg1
      have HST : Hid (RG w1 ks (l ++ ringTo ks 0) (.slice (some ⟨g1, 0, none⟩) n1 c1) (.slice x2 n2 c2) w3) := by
        have : l ++ ringTo ks 0 = l := by simp [ringTo]
        show RG _ _ _ _ _ _
        rw [this]; exact unhide HR3
      clear HR3 hz1
      go_loopw [45, 1, 7] (fun s45 s1 s7 wr => ∃ (k : Nat) (y : Option Addr) (yn yc : Nat), s45 = .int .i64 (k : Nat) ∧ s1 = .slice y yn yc ∧ k ≤ n1 ∧ Hid (RG w1 ks (l ++ ringTo ks k) (.slice (some ⟨g1, 0, none⟩) n1 c1) (.slice y yn yc) wr)) (fun s45 _ _ _ => n1 - (intOf s45).toNat)
      case atStart => exact ⟨0, x2, n2, c2, rfl, rfl, Nat.zero_le _, HST⟩
      case round =>
        obtain ⟨k, y, yn, yc, rfl, rfl, hkn, hR⟩ := hrel
        obtain ⟨q1, q2, q3, q4⟩ := unhide HN
        by_cases hlt : k < n1
        · obtain ⟨j, hj⟩ : ∃ j, j = (k + 1) % n1 := ⟨_, rfl⟩
          have hjn : j < n1 := by rw [hj]; exact Nat.mod_lt _ (by omega)
          obtain ⟨u, hu⟩ : ∃ u, ks[k]? = some u := ⟨_, List.getElem?_eq_getElem (by omega)⟩
          obtain ⟨x, hx⟩ : ∃ x, ks[j]? = some x := ⟨_, List.getElem?_eq_getElem (by omega)⟩
          have hRd := (unhide hR).below (W' := wr.drew) ⟨rfl, rfl, rfl, Nat.le_refl _, fun _ _ => rfl⟩
          obtain ⟨a', n', c', w5, r5, hRa, hRe⟩ := hRd.app u x (by rw [List.length_append, ringTo_len]; omega)
          have d1 : wr.drew.cell? ⟨g1, k, none⟩ = some (.int .i64 u) := brow_at hRd.2.1 hu
          have d2 : wr.drew.cell? ⟨g1, j, none⟩ = some (.int .i64 x) := brow_at hRd.2.1 hx
          have d3 := brow_at hRa.2.1 hu
          have d4 := brow_at hRa.2.1 hx
          have d5 := brow_at hRe.2.1 hu
          have d6 := brow_at hRe.2.1 hx
          have HR5 : Hid (∀ ty, (Builtin.append_ #[23, 23] ty #[.slice y yn yc, .slice (some ⟨wr.drew.heap.size, 0, none⟩) 1 1]).run Try.prog (wr.drew.alloc (oArc u x)) = .ok (.slice a' n' c') w5) := r5
          obtain ⟨k1, hk1⟩ : ∃ k1, k1 = k + 1 := ⟨_, rfl⟩
          have zw : Hid (wrap64 ((k : Int) + 1) = (k1 : Int)) := by show wrap64 ((k : Int) + 1) = (k1 : Int); unfold wrap64; omega
          have HJ : Hid (RG w1 ks (l ++ ringTo ks k1) (.slice (some ⟨g1, 0, none⟩) n1 c1) (.slice a' n' c') w5 ∧ k1 ≤ n1 ∧ n1 - k1 < n1 - k) := by
            refine ⟨?_, by omega, by omega⟩
            rw [hk1, ringTo_succ, ← List.append_assoc]
            have e1 : ks.getD k 0 = u := by rw [List.getD_eq_getElem?_getD, hu]; rfl
            have e2 : ks.getD ((k + 1) % ks.length) 0 = x := by rw [← q1, ← hj, List.getD_eq_getElem?_getD, hx]; rfl
            rw [e1, e2]; exact hRe
          have z1 : (k : Int) < (n1 : Int) := by omega
          have z2 : (j : Int) < (n1 : Int) := by omega
          have zr : IntKind.i64.wrap ((k : Int) + 1) = (k1 : Int) := by rw [IntKind.wrap_i64]; omega
          have zm : (k1 : Int).tmod (n1 : Int) = (j : Int) := by rw [Int.tmod_eq_emod_of_nonneg (by omega), hk1, hj]; omega
          have zn : ¬ n1 = 0 := by omega
          clear hRd hRa hRe hu hx r5 hR hkn hlt hjn hj hk1 q1 q2 q3 q4 HST
          go_upto_region 10 with fail
          refine wp_region_noPanic ?_
          refine regionL [] (fun y => y.cell? ⟨g1, k, none⟩ = some (.int .i64 u) ∧ y.cell? ⟨g1, j, none⟩ = some (.int .i64 x)) (by kernel_rfl) ⟨d1, d2⟩ (fun hHeld => ?_)
          refine takeL (i := 0) (v := ?t2v0) (some 48) rfl rfl (by kernel_rfl) (by kernel_rfl) (by kernel_rfl) (by kernel_rfl) (by kernel_rfl) (fun _ _ _ h => h) (Or.inl ⟨by rfl, ?t2h0⟩) (by assumption) ?t2r0
          case t2h0 => (intro y hSu; (try dsimp only at hSu); go_simp; first | done | with_reducible rfl)
          (try simp only [Act.put, List.setIfInBounds_toArray, List.set_cons_zero, List.set_cons_succ])
          refine takeL (i := 1) (v := ?t2v1) (some 49) rfl rfl (by kernel_rfl) (by kernel_rfl) (by kernel_rfl) (by kernel_rfl) (by kernel_rfl) (fun _ _ _ h => h) (Or.inl ⟨by rfl, ?t2h1⟩) (by assumption) ?t2r1
          case t2h1 => (intro y hSu; (try dsimp only at hSu); go_simp; first | done | with_reducible rfl)
          (try simp only [Act.put, List.setIfInBounds_toArray, List.set_cons_zero, List.set_cons_succ])
          refine takeL (i := 2) (v := ?t2v2) (some 50) rfl rfl (by kernel_rfl) (by kernel_rfl) (by kernel_rfl) (by kernel_rfl) (by kernel_rfl) (fun _ _ _ h => h) (Or.inl ⟨by rfl, ?t2h2⟩) (by assumption) ?t2r2
          case t2h2 => (intro y hSu; (try dsimp only at hSu); go_simp; first | done | with_reducible rfl)
          (try simp only [Act.put, List.setIfInBounds_toArray, List.set_cons_zero, List.set_cons_succ])
          refine takeL (i := 3) (v := ?t2v3) (some 51) rfl rfl (by kernel_rfl) (by kernel_rfl) (by kernel_rfl) (by kernel_rfl) (by kernel_rfl) (fun _ _ _ h => h) (Or.inl ⟨by rfl, ?t2h3⟩) (by assumption) ?t2r3
          case t2h3 => (intro y hSu; (try dsimp only at hSu); go_simp; first | done | with_reducible rfl)
          (try simp only [Act.put, List.setIfInBounds_toArray, List.set_cons_zero, List.set_cons_succ])
          refine takeL (i := 4) (v := ?t2v4) (some 52) rfl rfl (by kernel_rfl) (by kernel_rfl) (by kernel_rfl) (by kernel_rfl) (by kernel_rfl) (fun _ _ _ h => h) (Or.inl ⟨by rfl, ?t2h4⟩) (by assumption) ?t2r4
          case t2h4 => (intro y hSu; (try dsimp only at hSu); go_simp; first | done | with_reducible rfl)
          (try simp only [Act.put, List.setIfInBounds_toArray, List.set_cons_zero, List.set_cons_succ])
          refine takeL (i := 5) (v := ?t2v5) (some 53) rfl rfl (by kernel_rfl) (by kernel_rfl) (by kernel_rfl) (by kernel_rfl) (by kernel_rfl) (fun _ _ _ h => h) (Or.inl ⟨by rfl, ?t2h5⟩) (by assumption) ?t2r5
          case t2h5 => (intro y hSu; (try dsimp only at hSu); go_simp; first | done | with_reducible rfl)
          (try simp only [Act.put, List.setIfInBounds_toArray, List.set_cons_zero, List.set_cons_succ])
          refine takeL (i := 6) (v := ?t2v6) (some 54) rfl rfl (by kernel_rfl) (by kernel_rfl) (by kernel_rfl) (by kernel_rfl) (by kernel_rfl) (fun _ _ _ h => h) (Or.inl ⟨by rfl, ?t2h6⟩) (by assumption) ?t2r6
          case t2h6 => (intro y hSu; (try dsimp only at hSu); go_simp; first | done | with_reducible rfl)
          (try simp only [Act.put, List.setIfInBounds_toArray, List.set_cons_zero, List.set_cons_succ])
          refine takeL (i := 7) (v := ?t2v7) (some 55) rfl rfl (by kernel_rfl) (by kernel_rfl) (by kernel_rfl) (by kernel_rfl) (by kernel_rfl) (fun _ _ _ h => h) (Or.inl ⟨by rfl, ?t2h7⟩) (by assumption) ?t2r7
          case t2h7 => (intro y hSu; (try dsimp only at hSu); go_simp; first | done | with_reducible rfl)
          (try simp only [Act.put, List.setIfInBounds_toArray, List.set_cons_zero, List.set_cons_succ])
          refine takeL (i := 8) (v := ?t2v8) (some 56) rfl rfl (by kernel_rfl) (by kernel_rfl) (by kernel_rfl) (by kernel_rfl) (by kernel_rfl) (fun _ _ _ h => h) (Or.inl ⟨by rfl, ?t2h8⟩) (by assumption) ?t2r8
          case t2h8 => (intro y hSu; (try dsimp only at hSu); go_simp; first | done | with_reducible rfl)
          (try simp only [Act.put, List.setIfInBounds_toArray, List.set_cons_zero, List.set_cons_succ])
          refine takeL (i := 9) (v := ?t2v9) (some 57) rfl rfl (by kernel_rfl) (by kernel_rfl) (by kernel_rfl) (by kernel_rfl) (by kernel_rfl) (fun _ _ _ h => h) (Or.inl ⟨by rfl, ?t2h9⟩) (by assumption) ?t2r9
          case t2h9 => (intro y hSu; (try dsimp only at hSu); go_simp; first | done | with_reducible rfl)
          (try simp only [Act.put, List.setIfInBounds_toArray, List.set_cons_zero, List.set_cons_succ])
          refine takeL (i := 10) (v := ?t2v10) (some 58) rfl rfl (by kernel_rfl) (by kernel_rfl) (by kernel_rfl) (by kernel_rfl) (by kernel_rfl) (fun _ _ _ h => h) (Or.inl ⟨by rfl, ?t2h10⟩) (by assumption) ?t2r10
          case t2h10 => (intro y hSu; (try dsimp only at hSu); go_simp; first | done | with_reducible rfl)
          (try simp only [Act.put, List.setIfInBounds_toArray, List.set_cons_zero, List.set_cons_succ])
          refine takeL (i := 11) (v := ?t2v11) (some 59) rfl rfl (by kernel_rfl) (by kernel_rfl) (by kernel_rfl) (by kernel_rfl) (by kernel_rfl) (fun _ _ _ h => h) (Or.inl ⟨by rfl, ?t2h11⟩) (by assumption) ?t2r11
          case t2h11 => (intro y hSu; (try dsimp only at hSu); go_simp; first | done | with_reducible rfl)
          (try simp only [Act.put, List.setIfInBounds_toArray, List.set_cons_zero, List.set_cons_succ])
          refine takeL (i := 12) (v := ?t2v12) (some 60) rfl rfl (by kernel_rfl) (by kernel_rfl) (by kernel_rfl) (by kernel_rfl) (by kernel_rfl) (fun _ _ _ h => h) (Or.inl ⟨by rfl, ?t2h12⟩) (by assumption) ?t2r12
          case t2h12 => (intro y hSu; (try dsimp only at hSu); go_simp; first | done | with_reducible rfl)
          (try simp only [Act.put, List.setIfInBounds_toArray, List.set_cons_zero, List.set_cons_succ])
          refine takeL (i := 13) (v := ?t2v13) (some 61) rfl rfl (by kernel_rfl) (by kernel_rfl) (by kernel_rfl) (by kernel_rfl) (by kernel_rfl) (fun _ _ _ h => h) (Or.inl ⟨by rfl, ?t2h13⟩) (by assumption) ?t2r13
          case t2h13 => (intro y hSu; (try dsimp only at hSu); go_simp; first | done | with_reducible rfl)
          (try simp only [Act.put, List.setIfInBounds_toArray, List.set_cons_zero, List.set_cons_succ])
          refine readyL (i := 14) (by kernel_rfl) rfl (fun K hK => ?_)
          go_simp
          refine hK.out _ _ (fun _ => (And.intro d3 d4)) ?_
          clear hK K
          (try simp only [Act.put, List.setIfInBounds_toArray, List.set_cons_zero, List.set_cons_succ])
          have hH4 := (And.intro d3 d4)
          refine readyL (i := 15) (by kernel_rfl) rfl (fun K hK => ?_)
          refine step_append_run rfl (.tmp 48) (.tmp 62) 23 rfl _ _ (by simp [Act.eval]; first | rfl | done) (by simp [Act.eval]; first | rfl | done) _ _ (unhide HR5 _) ?_
          refine hK.out _ _ (fun _ => (And.intro d5 d6)) ?_
          clear hK K
          (try simp only [Act.put, List.setIfInBounds_toArray])
          have hH5 := (And.intro d5 d6)
          refine readyL (i := 16) (by kernel_rfl) rfl (fun K hK => ?_)
          go_simp
          refine hK.out _ _ (fun _ => (And.intro d5 d6)) ?_
          clear hK K
          (try simp only [Act.put, List.setIfInBounds_toArray, List.set_cons_zero, List.set_cons_succ])
          have hH7 := (And.intro d5 d6)
          refine doneL (by kernel_rfl) ?_ _
          refine NoPanic.normal ?_
          go_wp2_with fail
          exact ⟨⟨k1, _, _, _, rfl, rfl, (unhide HJ).2.1, (unhide HJ).1⟩, by have := (unhide HJ).2.2; simp [intOf]; omega⟩
        · have z1 : ¬ (k : Int) < (n1 : Int) := by omega
          obtain rfl : n1 = k := by omega
          have hRG := unhide hR
          obtain ⟨hnd, hok, hn0⟩ := unhide HOK
          have hRG : RG w1 ks (l ++ ringTo ks ks.length) (.slice (some ⟨g1, 0, none⟩) n1 c1) (.slice y yn yc) wr := by rw [q1] at hRG ⊢; exact hRG
          have hn0' : 0 < ks.length := by omega
          have CO2 := hide (ring_of hRG q3 q4 hn0' hnd hok)
          have HRG := hide hRG
          clear hR hRG hnd hok hn0 hn0' hkn hlt q1 q2 q3 q4 HST
          go_wp2_with fail
          refine (unhide CO2).mono ?_
          intro r w4 hh
          obtain ⟨lv, V, rfl, hp, hs, hL, hb4⟩ := unhide hh
          clear CO2 hh
          obtain ⟨hnd, hok, hn0⟩ := unhide HOK
          obtain ⟨q1, q2, q3, q4⟩ := unhide HN
          have hRG4 := (unhide HRG).below hb4
          have CR := hide (ring_order hRG4 q3 q4 (by omega) hnd hok hp hs)
          obtain ⟨lx, lc, le, hcell⟩ := id hL
          have le : lv = .slice lx 1 lc := le
          subst le
          have HL4 := hide (And.intro hL (And.intro hp hs))
          have HRG4 := hide hRG4
          clear hp hs hL hb4 hnd hok hn0 q1 q2 q3 q4 hRG4 hcell HRG
          go_wp2_with fail
          refine (unhide CR).mono ?_
          intro r w5 hh
          obtain ⟨ov, rfl, hO, hb5⟩ := unhide hh
          clear CR hh
          obtain ⟨hnd, hok, hn0⟩ := unhide HOK
          obtain ⟨q1, q2, q3, q4⟩ := unhide HN
          have hRG5 := (unhide HRG4).below hb5
          have CY := hide (ring_acyc hRG5 q3 q4 (by omega) hnd hok)
          obtain ⟨ox, oc, oe, -⟩ := brow_shape hO
          have oe : ov = .slice ox 1 oc := oe
          subst oe
          have HL5 : Hid (LLr w5 (.slice lx 1 lc) [V] ∧ NRow w5 (.slice ox 1 oc) [V.getD 0 0]) := ⟨llr_below (unhide HL4).1 hb5, hO⟩
          have HRG5 := hide hRG5
          clear hO hb5 hnd hok hn0 q1 q2 q3 q4 hRG5 HRG4
          go_wp2_with fail
          refine (unhide CY).mono ?_
          rintro e w6 ⟨rfl, hb6⟩
          clear CY
          obtain ⟨q1, q2, q3, q4⟩ := unhide HN
          have hn0 := (unhide HOK).2.2
          have hVl : V.length = n1 := by rw [(unhide HL4).2.1.length_eq, q1]
          have hs := (unhide HL4).2.2
          obtain ⟨lx', lc', le', hcell⟩ := llr_below (unhide HL5).1 (unhide hb6)
          obtain ⟨gl, y0, hlx, k1, hrow⟩ := hcell 0 V rfl
          have le1 : lx = lx' := by injection le'
          have hlx2 : lx = some ⟨gl, 0, none⟩ := le1.trans hlx
          clear le1 hlx hcell le'
          subst hlx2
          obtain ⟨yx, cy, ye, -⟩ := brow_shape hrow
          rw [hVl] at ye
          subst ye
          obtain ⟨gy, hgy⟩ := brow_some hrow (by omega)
          subst hgy
          have hO6 := nrow_below (unhide HL5).2 (unhide hb6)
          obtain ⟨go, hgo⟩ := brow_some hO6 (by simp)
          subst hgo
          have k2 := brow_at hO6 (j := 0) (e := V.getD 0 0) rfl
          obtain ⟨v0, hv0⟩ : ∃ v0, V[0]? = some v0 := ⟨_, List.getElem?_eq_getElem (by omega)⟩
          rw [show V.getD 0 0 = v0 by rw [List.getD_eq_getElem?_getD, hv0]; rfl] at k2
          have k3 := brow_at hrow hv0
          have HROW := hide (And.intro hrow (And.intro hs (And.intro hVl hv0)))
          have HEND : Hid (Below w.heap.size w w6) := by
            have h5 := (unhide HBW).trans ((unhide HRG5).1.mono (unhide HBW).size)
            exact h5.trans ((unhide hb6).mono h5.size)
          have z9 : (0 : Int) < (n1 : Int) := by omega
          clear hrow hs hVl hO6 hv0 q1 q2 q3 q4 hn0 HRG5 hb6 HL5 HL4
          go_upto_region 18 with fail
          go_loopw [119, 13, 14] (fun s119 s13 s14 wr => wr = w6 ∧ ∃ i : Nat, s119 = .int .i64 (i : Nat) ∧ i ≤ n1) (fun s119 _ _ _ => n1 - (intOf s119).toNat)
          case atStart => exact ⟨rfl, 0, rfl, Nat.zero_le _⟩
          case round =>
            obtain ⟨rfl, i, rfl, hin⟩ := hrel
            obtain ⟨hrow, hs, hVl, hv0⟩ := unhide HROW
            by_cases hlt : i < n1
            · obtain ⟨vi, hvi⟩ : ∃ vi, V[i]? = some vi := ⟨_, List.getElem?_eq_getElem (by omega)⟩
              have k4 := brow_at hrow hvi
              have hne := List.pairwise_iff_getElem.1 hs
              obtain ⟨l1, f1⟩ := List.getElem?_eq_some_iff.1 hvi
              obtain ⟨l2, f2⟩ := List.getElem?_eq_some_iff.1 hv0
              have hge : ¬ vi < v0 := by
                by_cases e : i = 0
                · have e1 : vi = v0 := by subst e; rw [hvi] at hv0; injection hv0
                  omega
                · have := hne 0 i l2 l1 (by omega)
                  rw [f1, f2] at this; omega
              have z1 : (i : Int) < (n1 : Int) := by omega
              obtain ⟨i1, hi1⟩ : ∃ i1, i1 = i + 1 := ⟨_, rfl⟩
              have zw : Hid (wrap64 ((i : Int) + 1) = (i1 : Int)) := by have := unhide HN; show wrap64 ((i : Int) + 1) = (i1 : Int); unfold wrap64; omega
              have HJ : Hid (i1 ≤ n1 ∧ n1 - i1 < n1 - i) := ⟨by omega, by omega⟩
              have HI1 := hide hi1
              by_cases h0 : i = 0
              · have z2 : ¬ (0 : Int) < (i : Int) := by omega
                have z3 : decide ((0 : Int) < (i : Int)) = false := by simp; omega
                clear hrow hs hVl hv0 hvi hne f1 f2 hi1 hlt hin h0
                go_wp2_with fail
                (try rw [unhide zw])
                exact ⟨⟨trivial, i1, by first | rfl | (rw [unhide HI1]; rfl), (unhide HJ).1⟩, by have := (unhide HJ).2; have := unhide HI1; simp [intOf]; omega⟩
              · obtain ⟨i0, hi0⟩ : ∃ i0, i = i0 + 1 := ⟨i - 1, by omega⟩
                obtain ⟨vp, hvp⟩ : ∃ vp, V[i0]? = some vp := ⟨_, List.getElem?_eq_getElem (by omega)⟩
                have k5 := brow_at hrow hvp
                obtain ⟨l3, f3⟩ := List.getElem?_eq_some_iff.1 hvp
                have hgt : ¬ vi ≤ vp := by
                  have := hne i0 i l3 l1 (by omega)
                  rw [f1, f3] at this; omega
                have z2 : (0 : Int) < (i : Int) := by omega
                have z4 : IntKind.i64.wrap ((i : Int) - 1) = (i0 : Int) := by have := unhide HN; rw [IntKind.wrap_i64]; omega
                have z5 : (i0 : Int) < (n1 : Int) := by omega
                clear hrow hs hVl hv0 hvi hne f1 f2 f3 hi1 hlt hin h0 hi0 hvp
                go_wp2_with fail
                (try rw [unhide zw])
                exact ⟨⟨trivial, i1, by first | rfl | (rw [unhide HI1]; rfl), (unhide HJ).1⟩, by have := (unhide HJ).2; have := unhide HI1; simp [intOf]; omega⟩
            · have z1 : ¬ (i : Int) < (n1 : Int) := by omega
              clear hrow hs hVl hv0 hlt hin
              go_wp2_with fail
              go_quiet (fail)
              go_wp2_with fail
              go_ret
              exact ⟨rfl, below_drewN (unhide HEND) _⟩
end Go.Proofs.Ytdpdghhieokcfaa
