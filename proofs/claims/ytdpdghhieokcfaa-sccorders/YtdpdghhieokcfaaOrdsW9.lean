/- SccOrders walked. -/
import Derived.Test.YtdpdghhieokcfaaOrdsM9
namespace Go.Proofs.Ytdpdghhieokcfaa
open Go.RowKit Go.Maps T9
set_option maxHeartbeats 16000000 in
set_option maxRecDepth 100000 in
theorem ordsS [Inhabited EntI] {w : World} {a0 a1 : Option Addr} {len0 cap0 len1 cap1 : Nat} {z : Nat → Int} {o : Nat → Int × Int} (h0 : IsIntsC w a0 len0 cap0 z) (h1 : IsArcsC w a1 len1 cap1 o) (hb0 : len0 < 1000000000000000000) (hb1 : len1 < 1000000000000000000) :
    Calls Try.prog 4 #[.slice a0 len0 cap0, .slice a1 len1 cap1] w fun e w' => e = .returned (.bool true) ∧ Below w.heap.size w w' := by
  have CA := hide (awakeS w)
  have HI := hide (And.intro h0 (And.intro h1 (And.intro hb0 hb1)))
  clear h0 h1 hb0 hb1
  go_enter Try.func4, Try.ntmps4
  go_wp2_with fail
  refine (unhide CA).mono ?_
  rintro e w1 ⟨rfl, hB1⟩
  clear CA
  have CC : Hid (Calls Try.prog 9 #[.slice a0 len0 cap0, .slice a1 len1 cap1] w1 fun e w' => Hid (∃ v1 v2, e = .returned (.tuple #[v1, v2]) ∧ CutAns w1 ((List.range (min len0 60)).map z) ((List.range (min len1 240)).map o) v1 v2 w')) := by
    obtain ⟨h0, h1, hb0, hb1⟩ := unhide HI
    exact cutS ⟨isInts_below h0.1 (unhide hB1), h0.2⟩ (isArcs_below h1 (unhide hB1)) hb0 hb1
  go_wp2_with fail
  refine (unhide CC).mono ?_
  intro r w2 hh
  obtain ⟨v1, v2, rfl, hCut⟩ := unhide hh
  clear CC hh HI
  obtain ⟨ks, hks, hkl⟩ : ∃ ks, ks = (List.range (min len0 60)).map z ∧ ks.length ≤ 60 := ⟨_, rfl, by simp; omega⟩
  obtain ⟨l, hl, hll⟩ : ∃ l, l = (List.range (min len1 240)).map o ∧ l.length ≤ 240 := ⟨_, rfl, by simp; omega⟩
  rw [← hks, ← hl] at hCut
  have hRG : RG w1 ks l v1 v2 w2 := hCut
  obtain ⟨x1, c1, e1, -⟩ := brow_shape hRG.2.1
  obtain ⟨x2, c2, e2, -⟩ := abrow_shape hRG.2.2.1
  obtain ⟨n1, hn1⟩ : ∃ n1, n1 = ks.length := ⟨_, rfl⟩
  obtain ⟨n2, hn2⟩ : ∃ n2, n2 = l.length := ⟨_, rfl⟩
  rw [← hn1] at e1
  rw [← hn2] at e2
  subst e1 e2
  have CO1 := hide (ofT (brow_at0 hRG.2.1) (arow_zero hRG.2.2.1) (by omega) (by omega))
  have HN := hide (And.intro hn1 (And.intro hn2 (And.intro hkl hll)))
  have HRG := hide hRG
  have HBW : Hid (Below w.heap.size w w1) := unhide hB1
  clear hRG hCut hks hl hkl hll hn1 hn2 hB1
  go_wp2_with fail
  refine (unhide CO1).mono ?_
  intro r w3 hh
  obtain ⟨va, ca, A, rfl, hA, lA, b3⟩ := unhide hh
  clear CO1 hh
  have HRG3 := hide ((unhide HRG).below b3)
  have HA : Hid (OfA ks l ca A ∧ LLr w3 va A) := ⟨hA, lA⟩
  have CO2 := hide (orderT (brow_at0 (unhide HRG3).2.1) (arow_zero (unhide HRG3).2.2.1) (by have := unhide HN; omega) (by have := unhide HN; omega))
  clear hA lA b3 HRG
  go_wp2_with fail
  refine (unhide CO2).mono ?_
  intro r w4 hh
  obtain ⟨vx, cx, X, rfl, hX, lX, b4⟩ := unhide hh
  clear CO2 hh
  obtain ⟨hA, lA⟩ := unhide HA
  have ecx := of_or hA hX
  subst ecx
  obtain ⟨al, ac, ae, -⟩ := id lA
  obtain ⟨xl, xc, xe, -⟩ := brow_shape lX
  have elen := ofor_len hA hX
  rw [elen] at xe
  obtain ⟨nl, hnl⟩ : ∃ nl, nl = A.length := ⟨_, rfl⟩
  rw [← hnl] at ae xe
  subst ae xe
  have hb34 : Below w3.heap.size w3 w4 := b4
  have HB4 : Hid (Below w.heap.size w w4 ∧ NRow w4 (.slice x1 n1 c1) ks ∧ ARow w4 (.slice x2 n2 c2) l ∧ LLr w4 (.slice al nl ac) A ∧ NRow w4 (.slice xl nl xc) X) := by
    have h5 := (unhide HRG3).below b4
    exact ⟨(unhide HBW).trans (h5.1.mono (unhide HBW).size), brow_at0 h5.2.1, arow_zero h5.2.2.1, llr_below lA b4, lX⟩
  by_cases hz : ca = 0
  · subst hz
    have HO : Hid (OrdsF ks l A X ∧ nl = A.length ∧ nl ≤ 1000) := by
      have h6 := ordsF hA hX (by have := unhide HN; omega)
      have h7 := (ofA_len hA (by have := unhide HN; omega)).1
      refine ⟨h6, hnl, ?_⟩
      rw [hnl]; exact ofA_few hA (by have := unhide HN; omega)
    clear hA hX lA lX b4 hb34 HA HRG3 HBW elen hnl
    go_upto_region 12 with fail
    go_loopw [56, 9, 10, 11] (fun s56 s9 s10 s11 wr => ∃ (i t q : Nat), s56 = .int .i64 (i : Nat) ∧ s9 = .int .i64 (t : Nat) ∧ wr = w4.drewN q ∧ i ≤ nl ∧ Hid (t = ((A.take i).map List.length).sum)) (fun s56 _ _ _ _ => nl - (intOf s56).toNat)
    case atStart => exact ⟨0, 0, 0, rfl, rfl, rfl, Nat.zero_le _, rfl⟩
    case round =>
      obtain ⟨i, t, q, rfl, rfl, hwr, hi, hS⟩ := hrel
      have HWR := hide hwr
      obtain ⟨hF, l1, l2⟩ := unhide HO
      by_cases hlt : i < nl
      · obtain ⟨c, hc⟩ : ∃ c, A[i]? = some c := ⟨_, List.getElem?_eq_getElem (by omega)⟩
        obtain ⟨hc0, hc1⟩ := hF.some_ i c hc
        obtain ⟨-, -, -, ⟨ax, acc, ae, hLL⟩, -⟩ := unhide HB4
        obtain ⟨ga, y, hga0, k1, r1⟩ := hLL i c hc
        have eal : al = ax := by injection ae
        have hga := eal.trans hga0
        clear ae eal
        subst hga
        obtain ⟨yx, yc, ye, -⟩ := brow_shape r1
        obtain ⟨m, hm⟩ : ∃ m, m = c.length := ⟨_, rfl⟩
        rw [← hm] at ye
        subst ye
        obtain ⟨gy, hgy⟩ := brow_some r1 hc0
        subst hgy
        obtain ⟨c0, hc00⟩ : ∃ c0, c[0]? = some c0 := ⟨_, List.getElem?_eq_getElem hc0⟩
        have k2 := brow_at r1 hc00
        have k1 : wr.cell? ⟨ga, i, none⟩ = some (.slice (some ⟨gy, 0, none⟩) m yc) := by rw [hwr]; exact k1
        have k2 : wr.cell? ⟨gy, 0, none⟩ = some (.int .i64 c0) := by rw [hwr]; exact k2
        have z1 : (i : Int) < (nl : Int) := by omega
        have z2 : ((m : Int) == 0) = false := by simp; omega
        have z3 : (0 : Int) < (m : Int) := by omega
        obtain ⟨i1, hi1⟩ : ∃ i1, i1 = i + 1 := ⟨_, rfl⟩
        obtain ⟨t1, ht1⟩ : ∃ t1, t1 = t + m := ⟨_, rfl⟩
        have htt : t1 = ((A.take i1).map List.length).sum := by
          rw [hi1, take_snoc hc, List.map_append, List.sum_append, ← unhide hS, ht1, hm]; simp
        have htk : t1 ≤ 1000 := by
          have h1 := hF.sum
          have h2 : A = A.take i1 ++ A.drop i1 := (List.take_append_drop _ _).symm
          rw [h2, List.map_append, List.sum_append, ← htt] at h1
          have := unhide HN; omega
        have zw : Hid (wrap64 ((i : Int) + 1) = (i1 : Int)) := by show wrap64 ((i : Int) + 1) = (i1 : Int); unfold wrap64; omega
        have zt : Hid (wrap64 ((t : Int) + (m : Int)) = (t1 : Int)) := by show wrap64 ((t : Int) + (m : Int)) = (t1 : Int); unfold wrap64; omega
        have HJ : Hid (t1 = ((A.take i1).map List.length).sum ∧ i1 ≤ nl ∧ nl - i1 < nl - i) := ⟨htt, by omega, by omega⟩
        have HI1 := hide hi1
        by_cases hi0 : i = 0
        · have z4 : ¬ (0 : Int) < (i : Int) := by omega
          have z5 : decide ((0 : Int) < (i : Int)) = false := by simp; omega
          have z9 : decide (0 < i) = false := by simp; omega
          have z10 : ¬ 0 < i := by omega
          clear hga0 hF l1 l2 hc hc0 hc1 hLL r1 hm hc00 hi1 ht1 htt htk hi0 hlt hi hS hwr
          go_wp2_with fail
          go_quiet (fail)
          go_wp2_with fail
          (try rw [unhide zw])
          (try rw [unhide zt])
          exact ⟨⟨i1, t1, _, by first | rfl | (rw [unhide HI1]; rfl), rfl, by rw [unhide HWR]; exact World.drewN_drewN _ _ _, (unhide HJ).2.1, (unhide HJ).1⟩, by have := (unhide HJ).2.2; simp [intOf]; omega⟩
        · obtain ⟨i0, hi00⟩ : ∃ i0, i = i0 + 1 := ⟨i - 1, by omega⟩
          obtain ⟨d, hd⟩ : ∃ d, A[i0]? = some d := ⟨_, List.getElem?_eq_getElem (by omega)⟩
          have hr := hF.rise i0 d c hd (by rw [← hi00]; exact hc)
          obtain ⟨hd0, hd1⟩ := hF.some_ i0 d hd
          obtain ⟨ga', y', hga', k3, r2⟩ := hLL i0 d hd
          have ega : ga = ga' := by have e := hga0.symm.trans hga'; injection e with e; injection e
          subst ega
          obtain ⟨yx', yc', ye', -⟩ := brow_shape r2
          obtain ⟨m', hm'⟩ : ∃ m', m' = d.length := ⟨_, rfl⟩
          rw [← hm'] at ye'
          subst ye'
          obtain ⟨gd, hgd⟩ := brow_some r2 hd0
          subst hgd
          obtain ⟨d0, hd00⟩ : ∃ d0, d[0]? = some d0 := ⟨_, List.getElem?_eq_getElem hd0⟩
          have k4 := brow_at r2 hd00
          have k3 : wr.cell? ⟨ga, i0, none⟩ = some (.slice (some ⟨gd, 0, none⟩) m' yc') := by rw [hwr]; exact k3
          have k4 : wr.cell? ⟨gd, 0, none⟩ = some (.int .i64 d0) := by rw [hwr]; exact k4
          have hcd : ¬ c0 ≤ d0 := by
            rw [List.getD_eq_getElem?_getD, List.getD_eq_getElem?_getD, hc00, hd00] at hr
            have hr : d0 < c0 := hr
            omega
          have z4 : (0 : Int) < (i : Int) := by omega
          have z6 : (0 : Int) < (m' : Int) := by omega
          have z7 : IntKind.i64.wrap ((i : Int) - 1) = (i0 : Int) := by rw [IntKind.wrap_i64]; omega
          have z8 : (i0 : Int) < (nl : Int) := by omega
          have z5 : decide ((0 : Int) < (i : Int)) = true := by simp; omega
          have z9 : decide (0 < i) = true := by simp; omega
          have z10 : 0 < i := by omega
          have z11 : decide (c0 ≤ d0) = false := by simp; omega
          clear hga0 hF l1 l2 hc hc0 hc1 hLL r1 hm hc00 hi1 ht1 htt htk hi0 hlt hi hS hwr hi00 hd hr hd0 hd1 r2 hm' hd00 hga'
          go_wp2_with fail
          go_quiet (fail)
          go_wp2_with fail
          (try rw [unhide zw])
          (try rw [unhide zt])
          exact ⟨⟨i1, t1, _, by first | rfl | (rw [unhide HI1]; rfl), rfl, by rw [unhide HWR]; exact World.drewN_drewN _ _ _, (unhide HJ).2.1, (unhide HJ).1⟩, by have := (unhide HJ).2.2; simp [intOf]; omega⟩
      · have z1 : ¬ (i : Int) < (nl : Int) := by omega
        have HTT : Hid (t = ks.length) := by
          show t = ks.length
          have h1 := unhide hS
          rw [List.take_of_length_le (by omega), hF.sum] at h1; exact h1
        have hn2 : n2 ≤ 240 := by have := unhide HN; omega
        obtain ⟨wa, hwa⟩ : ∃ wa, wa = wr.alloc (.cells (madeCells #[.int .i64 0] n2) 3) := ⟨_, rfl⟩
        obtain ⟨wb, hwb⟩ : ∃ wb, wb = wa.alloc (.cells (madeCells #[.int .i64 0] n2) 3) := ⟨_, rfl⟩
        have M1 := mkI (n := n2) (by omega) wr
        have M2 := mkI (n := n2) (by omega) wa
        rw [← hwa] at M1
        rw [← hwb] at M2
        have hT : OG w4 n2 wr.heap.size wa.heap.size (List.replicate n2 0) (List.replicate n2 0) wb := by
          rw [hwb, hwa, hwr]; exact og_start (by omega)
        have HG := hide hT
        obtain ⟨gh, hgh⟩ : ∃ gh, gh = wr.heap.size := ⟨_, rfl⟩
        obtain ⟨gp, hgp⟩ : ∃ gp, gp = wa.heap.size := ⟨_, rfl⟩
        rw [← hgh] at M1 HG
        rw [← hgp] at M2 HG
        clear hF l1 l2 hlt hi hS hwr hwa hwb hT hn2 hgh hgp HWR
        go_upto_region 21 with fail
        clear M1 M2 z1
        have HG0 : Hid (∃ hs ps, OG w4 n2 gh gp hs ps wb) := ⟨_, _, unhide HG⟩
        clear HG
        generalize wb = wc at *
        clear wa
        go_loopw [94, 14, 15, 16, 17, 18, 19] (fun s94 s14 s15 s16 s17 s18 s19 wr => ∃ i : Nat, s94 = .int .i64 (i : Nat) ∧ i ≤ n2 ∧ Hid (∃ hs ps, OG w4 n2 gh gp hs ps wr)) (fun s94 _ _ _ _ _ _ _ => n2 - (intOf s94).toNat)
        case atStart => exact ⟨0, rfl, Nat.zero_le _, HG0⟩
        case round =>
          obtain ⟨i, rfl, hi, hG⟩ := hrel
          clear HG0
          obtain ⟨hs, ps, hT⟩ := unhide hG
          obtain ⟨hF, l1, l2⟩ := unhide HO
          obtain ⟨q1, q2, q3, q4⟩ := unhide HN
          by_cases hlt : i < n2
          · obtain ⟨⟨u, x⟩, hux⟩ : ∃ a, l[i]? = some a := ⟨_, List.getElem?_eq_getElem (by omega)⟩
            obtain ⟨hu, hx⟩ := hF.ok _ (List.mem_of_getElem? hux)
            obtain ⟨iu, hiu, eu⟩ := hF.at_ u hu
            obtain ⟨iv, hiv, ev⟩ := hF.at_ x hx
            obtain ⟨c, hc⟩ : ∃ c, A[iu]? = some c := ⟨_, List.getElem?_eq_getElem hiu⟩
            obtain ⟨d, hd⟩ : ∃ d, A[iv]? = some d := ⟨_, List.getElem?_eq_getElem hiv⟩
            obtain ⟨hc0, hc1⟩ := hF.some_ iu c hc
            obtain ⟨hd0, hd1⟩ := hF.some_ iv d hd
            obtain ⟨c0, hc00⟩ : ∃ c0, c[0]? = some c0 := ⟨_, List.getElem?_eq_getElem hc0⟩
            obtain ⟨d0, hd00⟩ : ∃ d0, d[0]? = some d0 := ⟨_, List.getElem?_eq_getElem hd0⟩
            obtain ⟨mc, hmc⟩ : ∃ mc, mc = c.length := ⟨_, rfl⟩
            obtain ⟨md, hmd⟩ : ∃ md, md = d.length := ⟨_, rfl⟩
            have hon := hF.on u x iu iv c d (List.mem_of_getElem? hux) eu ev hc hd
            rw [List.getD_eq_getElem?_getD, List.getD_eq_getElem?_getD, hc00, hd00] at hon
            have hon : c0 ∈ X ∧ d0 ∈ X ∧ (iu ≠ iv → ∃ p q : Nat, p < q ∧ X[p]? = some c0 ∧ X[q]? = some d0) := hon
            obtain ⟨-, -, hAr, hLL0, hXr⟩ := unhide HB4
            have CU : Hid (∀ (y : Int) (W : World), Below w4.heap.size w4 W → Calls Try.prog 20 #[.slice al nl ac, .int .i64 y] W fun e w' => e = .returned (.int .i64 (compAt A y)) ∧ w' = W) := fun y W hb => compS (llr_below hLL0 hb) (by omega) (fun z hz => by
              obtain ⟨jz, hjz⟩ := List.mem_iff_getElem?.1 hz
              have := (hF.some_ jz z hjz).2; omega)
            obtain ⟨ax, acc, ae, hLL⟩ := hLL0
            obtain ⟨ga, y, hga0, k1, r1⟩ := hLL iu c hc
            obtain ⟨ga', y', hga', k3, r2⟩ := hLL iv d hd
            have ega : ga = ga' := by have e := hga0.symm.trans hga'; injection e with e; injection e
            subst ega
            have eal : al = ax := by injection ae
            have hga := eal.trans hga0
            clear ae eal hga0 hga' hLL
            subst hga
            obtain ⟨yx, yc, ye, -⟩ := brow_shape r1
            rw [← hmc] at ye
            subst ye
            obtain ⟨gc, hgc⟩ := brow_some r1 hc0
            subst hgc
            obtain ⟨yx', yc', ye', -⟩ := brow_shape r2
            rw [← hmd] at ye'
            subst ye'
            obtain ⟨gd, hgd⟩ := brow_some r2 hd0
            subst hgd
            have k2 := brow_at r1 hc00
            have k4 := brow_at r2 hd00
            obtain ⟨gx, hgx⟩ := brow_some hXr (by have := hF.len; omega)
            subst hgx
            obtain ⟨g2, hg2⟩ : ∃ g2, x2 = some ⟨g2, 0, none⟩ := abrow_some hAr (by omega)
            subst hg2
            obtain ⟨f1, f2⟩ := arow_at hAr hux
            have f1 := hT.cell f1
            have f2 := hT.cell f2
            have z1 : (i : Int) < (n2 : Int) := by omega
            have HT4 := hide (hT.grow (below_new wr (oArc u x)))
            have HK : Hid (w4.cell? ⟨ga, iu, none⟩ = some (.slice (some ⟨gc, 0, none⟩) mc yc) ∧ w4.cell? ⟨gc, 0, none⟩ = some (.int .i64 c0) ∧ w4.cell? ⟨ga, iv, none⟩ = some (.slice (some ⟨gd, 0, none⟩) md yc') ∧ w4.cell? ⟨gd, 0, none⟩ = some (.int .i64 d0) ∧ NRow w4 (.slice (some ⟨gx, 0, none⟩) nl xc) X) := ⟨k1, k2, k3, k4, hXr⟩
            have HE : Hid (compAt A u = (iu : Int) ∧ compAt A x = (iv : Int) ∧ iu < nl ∧ iv < nl ∧ 0 < mc ∧ 0 < md) := ⟨eu, ev, by omega, by omega, by omega, by omega⟩
            have HON := hide hon
            have HII := hide hlt
            clear hT hF l1 l2 q1 q2 q3 q4 hux hu hx hiu hiv eu ev hc hd hc0 hc1 hd0 hd1 hc00 hd00 hmc hmd hon hAr hXr k1 k2 k3 k4 r1 r2 hG hi hlt
            dsimp only at f1 f2
            go_upto_region 23 with fail
            change Code.wp _ _ _ _ (wr.alloc (oArc u x))
            obtain ⟨b0, b1, -⟩ := cellsArc (heap_alloc_new wr (oArc u x))
            generalize wr.alloc (oArc u x) = w5 at *
            generalize wr.heap.size = ab at *
            have CQ : Hid (∀ (y : Int) (q : Nat), Calls Try.prog 20 #[.slice (some ⟨ga, 0, none⟩) nl ac, .int .i64 y] (w5.drewN q) fun e w' => e = .returned (.int .i64 (compAt A y)) ∧ ∃ m, w' = w5.drewN m) := fun y q =>
              (unhide CU y (w5.drewN q) ((unhide HT4).drew q).1).mono (fun e w' hh => ⟨hh.1, q, hh.2⟩)
            clear CU f1 f2 z1
            go_quiet ((go_at_call 20; exact unhide CQ _ _))
            rw [(unhide HE).1, (unhide HE).2.1]
            have HT6 := hide ((unhide HT4).drew nq)
            clear HT4 CQ b0 b1
            generalize w5.drewN nq = w6 at *
            obtain ⟨-, -, y1, y2, y3, y4⟩ := unhide HE
            have z2 : (iu : Int) < (nl : Int) := by omega
            have z3 : (iv : Int) < (nl : Int) := by omega
            have z4 : (0 : Int) < (mc : Int) := by omega
            have z5 : (0 : Int) < (md : Int) := by omega
            have z6 : ¬ (iu : Int) < 0 := by omega
            have z7 : ¬ (iv : Int) < 0 := by omega
            clear y1 y2 y3 y4
            go_upto_region 27 with fail
            have HS : Hid (∃ hs ps, OG w4 n2 gh gp hs ps w6 ∧ AtX X 0 c0 hs[i]? ∧ AtX X 0 d0 ps[i]?) := ⟨_, _, unhide HT6, fun q => by simp at q, fun q => by simp at q⟩
            clear HT6
            go_loopw [115, 18, 19] (fun s115 s18 s19 wr => ∃ k : Nat, s115 = .int .i64 (k : Nat) ∧ k ≤ nl ∧ Hid (∃ hs ps, OG w4 n2 gh gp hs ps wr ∧ AtX X k c0 hs[i]? ∧ AtX X k d0 ps[i]?)) (fun s115 _ _ _ => nl - (intOf s115).toNat)
            case atStart => exact ⟨0, rfl, Nat.zero_le _, HS⟩
            case round =>
              obtain ⟨k, rfl, hk, hG⟩ := hrel
              clear HS
              obtain ⟨hs1, ps1, hT1, hA1, hA2⟩ := unhide hG
              by_cases hkl : k < nl
              · obtain ⟨xk, hxk⟩ : ∃ xk, X[k]? = some xk := ⟨_, List.getElem?_eq_getElem (by have := (unhide HO).1.len; have := (unhide HO).2.1; omega)⟩
                have HXK := hide hxk
                have k5 := hT1.cell (brow_at (unhide HK).2.2.2.2 hxk)
                have k1 := hT1.cell (unhide HK).1
                have k2 := hT1.cell (unhide HK).2.1
                obtain ⟨k1', hk1⟩ : ∃ k1', k1' = k + 1 := ⟨_, rfl⟩
                have zk : Hid (wrap64 ((k : Int) + 1) = (k1' : Int)) := by have := (unhide HO).2.2; show wrap64 ((k : Int) + 1) = (k1' : Int); unfold wrap64; omega
                have HK1 := hide hk1
                have HKK : Hid (k1' ≤ nl ∧ nl - k1' < nl - k) := ⟨by omega, by omega⟩
                have z8 : (k : Int) < (nl : Int) := by omega
                have z9 : (i : Int) < (n2 : Int) := by have := unhide HII; omega
                by_cases hxc : xk = c0
                · subst hxc
                  obtain ⟨fz, hTb⟩ := hT1.setH (unhide HII) (k : Int)
                  obtain ⟨h0, hh0⟩ : ∃ h0, hs1[i]? = some h0 := ⟨_, List.getElem?_eq_getElem (by have := hT1.2.2.2.2.2.2.1; have := unhide HII; omega)⟩
                  have k6 := brow_at hT1.2.1 hh0
                  have HB : Hid (∃ hs ps, OG w4 n2 gh gp hs ps (wr.setCell ⟨gh, i, none⟩ (.int .i64 (k : Nat))) ∧ AtX X k1' xk hs[i]? ∧ AtX X k d0 ps[i]?) := ⟨_, _, hTb, by
                    have e : (hs1.set i ((k : Nat) : Int))[i]? = some ((k : Nat) : Int) := List.getElem?_set_self (by have := hT1.2.2.2.2.2.2.1; have := unhide HII; omega)
                    rw [e, unhide HK1]; exact AtX.hit (unhide HXK), hA2⟩
                  clear hT1 hTb hA1 hA2 hxk hk1 hk hkl hG hh0
                  go_upto_region 31 with fail
                  generalize wr.setCell ⟨gh, i, none⟩ (.int .i64 (k : Nat)) = wz at *
                  clear fz k6 k5 k1 k2
                  obtain ⟨ha, pa, hTa, hA1, hA2⟩ := unhide HB
                  have k3 := hTa.cell (unhide HK).2.2.1
                  have k4 := hTa.cell (unhide HK).2.2.2.1
                  by_cases hxd : xk = d0
                  · subst hxd
                    obtain ⟨fz, hTb⟩ := hTa.setP (unhide HII) (k : Int)
                    obtain ⟨p0, hp0⟩ : ∃ p0, pa[i]? = some p0 := ⟨_, List.getElem?_eq_getElem (by have := hTa.2.2.2.2.2.2.2; have := unhide HII; omega)⟩
                    have k6 := brow_at hTa.2.2.1 hp0
                    have HC : Hid (∃ hs ps, OG w4 n2 gh gp hs ps (wz.setCell ⟨gp, i, none⟩ (.int .i64 (k : Nat))) ∧ AtX X k1' xk hs[i]? ∧ AtX X k1' xk ps[i]?) := ⟨_, _, hTb, hA1, by
                      have e : (pa.set i ((k : Nat) : Int))[i]? = some ((k : Nat) : Int) := List.getElem?_set_self (by have := hTa.2.2.2.2.2.2.2; have := unhide HII; omega)
                      rw [e, unhide HK1]; exact AtX.hit (unhide HXK)⟩
                    clear hTa hTb hA1 hA2 HB
                    go_wp2_with fail
                    (try rw [unhide zk])
                    exact ⟨⟨k1', by first | rfl | (rw [unhide HK1]; rfl), (unhide HKK).1, HC⟩, by have := (unhide HKK).2; simp [intOf]; omega⟩
                  · have hne : (xk == d0) = false := by simpa using hxd
                    have HC : Hid (∃ hs ps, OG w4 n2 gh gp hs ps wz ∧ AtX X k1' xk hs[i]? ∧ AtX X k1' d0 ps[i]?) := ⟨_, _, hTa, hA1, by rw [unhide HK1]; exact AtX.miss (unhide HXK) hxd hA2⟩
                    clear hTa hA1 hA2 HB hxd
                    go_wp2_with fail
                    (try rw [unhide zk])
                    exact ⟨⟨k1', by first | rfl | (rw [unhide HK1]; rfl), (unhide HKK).1, HC⟩, by have := (unhide HKK).2; simp [intOf]; omega⟩

                · have hne0 : (xk == c0) = false := by simpa using hxc
                  have HB : Hid (∃ hs ps, OG w4 n2 gh gp hs ps wr ∧ AtX X k1' c0 hs[i]? ∧ AtX X k d0 ps[i]?) := ⟨_, _, hT1, by rw [unhide HK1]; exact AtX.miss (unhide HXK) hxc hA1, hA2⟩
                  clear hT1 hA1 hA2 hxk hk1 hk hkl hG hxc
                  go_upto_region 31 with fail
                  clear k5 k1 k2
                  obtain ⟨ha, pa, hTa, hA1, hA2⟩ := unhide HB
                  have k3 := hTa.cell (unhide HK).2.2.1
                  have k4 := hTa.cell (unhide HK).2.2.2.1
                  by_cases hxd : xk = d0
                  · subst hxd
                    obtain ⟨fz, hTb⟩ := hTa.setP (unhide HII) (k : Int)
                    obtain ⟨p0, hp0⟩ : ∃ p0, pa[i]? = some p0 := ⟨_, List.getElem?_eq_getElem (by have := hTa.2.2.2.2.2.2.2; have := unhide HII; omega)⟩
                    have k6 := brow_at hTa.2.2.1 hp0
                    have HC : Hid (∃ hs ps, OG w4 n2 gh gp hs ps (wr.setCell ⟨gp, i, none⟩ (.int .i64 (k : Nat))) ∧ AtX X k1' c0 hs[i]? ∧ AtX X k1' xk ps[i]?) := ⟨_, _, hTb, hA1, by
                      have e : (pa.set i ((k : Nat) : Int))[i]? = some ((k : Nat) : Int) := List.getElem?_set_self (by have := hTa.2.2.2.2.2.2.2; have := unhide HII; omega)
                      rw [e, unhide HK1]; exact AtX.hit (unhide HXK)⟩
                    clear hTa hTb hA1 hA2 HB
                    go_wp2_with fail
                    (try rw [unhide zk])
                    exact ⟨⟨k1', by first | rfl | (rw [unhide HK1]; rfl), (unhide HKK).1, HC⟩, by have := (unhide HKK).2; simp [intOf]; omega⟩
                  · have hne : (xk == d0) = false := by simpa using hxd
                    have HC : Hid (∃ hs ps, OG w4 n2 gh gp hs ps wr ∧ AtX X k1' c0 hs[i]? ∧ AtX X k1' d0 ps[i]?) := ⟨_, _, hTa, hA1, by rw [unhide HK1]; exact AtX.miss (unhide HXK) hxd hA2⟩
                    clear hTa hA1 hA2 HB hxd
                    go_wp2_with fail
                    (try rw [unhide zk])
                    exact ⟨⟨k1', by first | rfl | (rw [unhide HK1]; rfl), (unhide HKK).1, HC⟩, by have := (unhide HKK).2; simp [intOf]; omega⟩

              · have z8 : ¬ (k : Int) < (nl : Int) := by omega
                have hXl : X.length ≤ k := by have := (unhide HO).1.len; have := (unhide HO).2.1; omega
                obtain ⟨o1, o2, o3⟩ := unhide HON
                obtain ⟨pa, hpa, hXa⟩ := hA1 (by rw [List.take_of_length_le hXl]; exact o1)
                obtain ⟨pb, hpb, hXb⟩ := hA2 (by rw [List.take_of_length_le hXl]; exact o2)
                have k1 := brow_at hT1.2.1 hpa
                have k2 := brow_at hT1.2.2.1 hpb
                have z9 : (i : Int) < (n2 : Int) := by have := unhide HII; omega
                obtain ⟨i1, hi1⟩ : ∃ i1, i1 = i + 1 := ⟨_, rfl⟩
                have zk : Hid (wrap64 ((i : Int) + 1) = (i1 : Int)) := by have := unhide HN; have := unhide HII; show wrap64 ((i : Int) + 1) = (i1 : Int); unfold wrap64; omega
                have HI1 := hide hi1
                have HIK : Hid (i1 ≤ n2 ∧ n2 - i1 < n2 - i) := by have := unhide HII; exact ⟨by omega, by omega⟩
                have HC := hide hT1
                by_cases huv : iu = iv
                · have y1 : ((iu : Int) != (iv : Int)) = false := by simp [huv]
                  have y2 : ((iu : Int) == (iv : Int)) = true := by simp [huv]
                  clear hT1 hA1 hA2 hXl o1 o2 o3 hXa hXb hpa hpb hi1 hk hkl hG huv
                  go_wp2_with fail
                  go_quiet (fail)
                  go_wp2_with fail
                  (try rw [unhide zk])
                  exact ⟨⟨i1, by first | rfl | (rw [unhide HI1]; rfl), (unhide HIK).1, _, _, (unhide HC).drew _⟩, by have := (unhide HIK).2; simp [intOf]; omega⟩
                · obtain ⟨p, q, hpq, e1, e2⟩ := o3 huv
                  have y0 : ¬ (pb : Int) ≤ (pa : Int) := by
                    have := nodup_idx (unhide HO).1.nodup hXa e1
                    have := nodup_idx (unhide HO).1.nodup hXb e2
                    omega
                  have y1 : ((iu : Int) != (iv : Int)) = true := by simp; omega
                  have y2 : ((iu : Int) == (iv : Int)) = false := by simp; omega
                  have y3 : ¬ pb ≤ pa := by omega
                  have y4 : decide ((pb : Int) ≤ (pa : Int)) = false := by simp; omega
                  have y5 : decide (pb ≤ pa) = false := by simp; omega
                  clear hT1 hA1 hA2 hXl o1 o2 o3 hXa hXb hpa hpb hi1 hk hkl hG huv e1 e2 hpq
                  go_wp2_with fail
                  go_quiet (fail)
                  go_wp2_with fail
                  (try rw [unhide zk])
                  exact ⟨⟨i1, by first | rfl | (rw [unhide HI1]; rfl), (unhide HIK).1, _, _, (unhide HC).drew _⟩, by have := (unhide HIK).2; simp [intOf]; omega⟩
          · have z1 : ¬ (i : Int) < (n2 : Int) := by omega
            have HT := hide hT
            clear hT hF l1 l2 q1 q2 q3 q4 hG hi hlt
            go_wp2_with fail
            clear z1
            go_loopw [162, 21] (fun s162 s21 W => ∃ i : Nat, s162 = .int .i64 (i : Nat) ∧ W = wr ∧ i ≤ n1) (fun s162 _ _ => n1 - (intOf s162).toNat)
            case atStart => exact ⟨0, rfl, rfl, Nat.zero_le _⟩
            case round =>
              obtain ⟨i, rfl, rfl, hi⟩ := hrel
              obtain ⟨hF, l1, l2⟩ := unhide HO
              obtain ⟨q1, q2, q3, q4⟩ := unhide HN
              obtain ⟨hBw, hVr, -, hLL0, -⟩ := unhide HB4
              by_cases hlt : i < n1
              · obtain ⟨v, hv⟩ : ∃ v, ks[i]? = some v := ⟨_, List.getElem?_eq_getElem (by omega)⟩
                obtain ⟨iv, hiv, ev⟩ := hF.at_ v (List.mem_of_getElem? hv)
                obtain ⟨g1, hg1⟩ := brow_some hVr (by omega)
                subst hg1
                have k1 := (unhide HT).cell (brow_at hVr hv)
                have CU := hide (compS (x := v) (llr_below hLL0 (unhide HT).1) (by omega) (fun z hz => by
                  obtain ⟨jz, hjz⟩ := List.mem_iff_getElem?.1 hz
                  have := (hF.some_ jz z hjz).2; omega))
                rw [ev] at CU
                have z1 : (i : Int) < (n1 : Int) := by omega
                have z2 : ¬ (iv : Int) < 0 := by omega
                obtain ⟨i1, hi1⟩ : ∃ i1, i1 = i + 1 := ⟨_, rfl⟩
                have zk : Hid (wrap64 ((i : Int) + 1) = (i1 : Int)) := by show wrap64 ((i : Int) + 1) = (i1 : Int); unfold wrap64; omega
                have HI1 := hide hi1
                have HIK : Hid (i1 ≤ n1 ∧ n1 - i1 < n1 - i) := ⟨by omega, by omega⟩
                clear hF l1 l2 q1 q2 q3 q4 hBw hVr hLL0 hv hiv ev hi hlt hi1
                go_wp2_with fail
                refine (unhide CU).mono ?_
                rintro e w' ⟨rfl, rfl⟩
                clear CU
                go_wp2_with fail
                (try rw [unhide zk])
                exact ⟨⟨i1, by first | rfl | (rw [unhide HI1]; rfl), trivial, (unhide HIK).1⟩, by have := (unhide HIK).2; simp [intOf]; omega⟩
              · have z1 : ¬ (i : Int) < (n1 : Int) := by omega
                have hte : t = n1 := by have := unhide HTT; omega
                subst hte
                have HEND : Hid (Below w.heap.size w wr) := hBw.trans ((unhide HT).1.mono hBw.size)
                clear hF l1 l2 q1 q2 q3 q4 hBw hVr hLL0 hi hlt
                go_wp2_with fail
                go_ret
                exact ⟨rfl, unhide HEND⟩
  · have hz2 : (ca == 0) = false := by simpa using hz
    have hz3 : (ca != 0) = true := by simpa using hz
    clear hA hX lA lX b4 hb34 HA HRG3 HBW elen hnl hz
    go_wp2_with fail
    go_ret
    exact ⟨rfl, (unhide HB4).1⟩
end Go.Proofs.Ytdpdghhieokcfaa
