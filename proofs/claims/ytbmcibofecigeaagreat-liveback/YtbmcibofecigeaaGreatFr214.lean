/- A call that came in by value. -/
import Derived.Test.YtbmcibofecigeaaGreatBaM14
import Derived.Test.YtbmcibofecigeaaGreatBuW14
namespace Go.Proofs.YtbmcibofecigeaaGreat

section
open Go.RowKit Go.Maps
set_option maxHeartbeats 16000000 in
set_option maxRecDepth 100000 in
theorem liveBack_any [Inhabited EntF] (s : Int) (a : Option Addr) (len cap : Nat) (o : Nat → OpV) (k0 e0 u0 v0 b0 : Int) (w : World) (os : okN s) (h : IsOps w a len o) (oe : okN e0) (ob0 : 0 ≤ b0) :
    Calls Tryz.prog 6 #[.int .i64 s, .slice a len cap, .agg #[.int .i64 k0, .int .i64 e0, .int .i64 u0, .int .i64 v0, .int .u32 b0]] w fun e w' => e = .returned (.bool true) ∧ Below w.heap.size w w' := by
  have hbw := below_new w (oOp k0 e0 u0 v0 b0)
  have hnw := heap_alloc_new w (oOp k0 e0 u0 v0 b0)
  obtain ⟨ob, hob⟩ : ∃ ob, ob = w.heap.size := ⟨_, rfl⟩
  obtain ⟨w0, hw0⟩ : ∃ w0, w0 = w.alloc (oOp k0 e0 u0 v0 b0) := ⟨_, rfl⟩
  rw [← hw0] at hbw hnw
  rw [← hob] at hnw
  have CB := hide (builtT a len cap o w0 (isOps_below h hbw) os)
  have CW : Hid (∀ W, Calls Tryz.prog 9 #[] W fun e w' => e = .returned (.bool true) ∧ Hid (Below W.heap.size W w')) := fun W => awakeT W
  have HW0 : Hid (w0 = w.alloc (oOp k0 e0 u0 v0 b0) ∧ ob = w.heap.size ∧ w0.heap[ob]? = some (oOp k0 e0 u0 v0 b0) ∧ Below w.heap.size w w0 ∧ okN e0 ∧ 0 ≤ b0) := ⟨hw0, hob, hnw, hbw, oe, ob0⟩
  clear h os oe ob0 hbw hnw hob hw0
  go_enter Tryz.func6, Tryz.ntmps6
  go_upto_region 1 with fail
  change Code.wp _ _ _ _ (w.alloc (oOp k0 e0 u0 v0 b0))
  rw [← (unhide HW0).1, ← (unhide HW0).2.1]
  go_wp2_with fail
  refine (unhide CB).mono ?_
  rintro e w1 ⟨p, va, vn, vc, ea, en, ec, wrr, rfl, HB⟩
  have hb2 := below_new w1 (oG (.slice va vn vc) (.slice ea en ec) 0 wrr)
  have hn2 := heap_alloc_new w1 (oG (.slice va vn vc) (.slice ea en ec) 0 wrr)
  obtain ⟨gb, hgb⟩ : ∃ gb, gb = w1.heap.size := ⟨_, rfl⟩
  have HG : Hid (gb = w1.heap.size) := hgb
  obtain ⟨K, vs, gs, N, hBS, hN, hGV, hrows, hK1, hK2⟩ := ba_start (unhide HB) hb2
  have hKg : K gb = some (oG (.slice va vn vc) (.slice ea en ec) 0 wrr) := by rw [hK1 gb (by omega), hgb]; exact hn2
  have hKo : K ob = some (oOp k0 e0 u0 v0 b0) := by rw [hK2 ob (heap_lt (unhide HW0).2.2.1)]; exact (unhide HW0).2.2.1
  have HF : Hid (∀ W, (∀ b ob, K b = some ob → W.heap[b]? = some ob) → W.heap[gb]? = some (oG (.slice va vn vc) (.slice ea en ec) 0 wrr) ∧ W.heap[ob]? = some (oOp k0 e0 u0 v0 b0) ∧ NRow W (.slice va vn vc) vs ∧ ERow 0 W (.slice ea en ec) gs) := fun W hW => ⟨hW _ _ hKg, hW _ _ hKo, hrows W hW⟩
  have HN : Hid (N ≤ 61 ∧ GV vs gs N ∧ K gb = some (oG (.slice va vn vc) (.slice ea en ec) 0 wrr)) := ⟨hN, hGV, hKg⟩
  have HB2 := hide hBS
  clear CB HB hb2 hn2 hgb hBS hN hGV hrows hK1 hK2 hKg hKo
  go_upto_region 2 with fail
  change Code.wp _ _ _ _ (w1.alloc (oG (.slice va vn vc) (.slice ea en ec) 0 wrr))
  rw [← unhide HG]
  clear HG
  generalize w1.alloc (oG (.slice va vn vc) (.slice ea en ec) 0 wrr) = w2 at *
  go_wp2_with fail
  refine (unhide CW w2).mono ?_
  rintro e w3 ⟨rfl, hb3⟩
  have HB3 := hide ((unhide HB2).below (unhide hb3))
  obtain ⟨f1, f2, f3, f4⟩ := unhide HF w3 (fun b ob hb => (unhide HB3).stood hb)
  obtain ⟨c0, c1, c2, c3, cf⟩ := cellsG f1
  obtain ⟨p0, p1, p2, p3, p4⟩ := cellsOp f2
  have hen := rrow_len f4
  clear CW HB2 hb3 f1 f2 f3
  by_cases h0 : en = 0
  · subst h0
    have hg : gs = [] := List.length_eq_zero_iff.1 hen.symm
    have CD := hide ((unhide HB3).delNo (e := e0) (unhide HW0).2.2.2.2.1 (by rw [hg]; simp))
    clear hen hg f4
    go_wp2_with fail
    refine (unhide CD).mono ?_
    rintro e w4 ⟨rfl, H4⟩
    have HE : Hid (Below w.heap.size w w4) := (unhide HW0).2.2.2.1.trans ((unhide H4).facts.2.2.2.mono (unhide HW0).2.2.2.1.size)
    clear CD H4 c0 c1 c2 c3 cf p0 p1 p2 p3 p4
    go_wp2_with fail
    go_ret
    exact ⟨rfl, unhide HE⟩
  · have z0 : ((en : Int) == 0) = false := by simpa using (by omega : ¬ (en : Int) = 0)
    have HEN := hide hen
    obtain ⟨eu, heu⟩ : ∃ eu, eu = IntKind.u64.wrap e0 := ⟨_, rfl⟩
    have hlen : en ≤ 61 := by have := (unhide HN).1; have := (unhide HN).2.1.2; omega
    have heu0 : 0 ≤ eu := by rw [heu]; unfold IntKind.wrap; simp [IntKind.bits, IntKind.signed]; omega
    obtain ⟨k, hk⟩ : ∃ k : Nat, (k : Int) = eu.tmod (en : Int) := ⟨(eu.tmod (en : Int)).toNat, Int.toNat_of_nonneg (Int.tmod_nonneg _ heu0)⟩
    have hkl : k < en := by have := Int.tmod_lt_of_pos eu (show (0 : Int) < (en : Int) by omega); omega
    obtain ⟨⟨e, u, v, c0'⟩, hx⟩ : ∃ x, gs[k]? = some x := ⟨_, List.getElem?_eq_getElem (by omega)⟩
    have hc := ((unhide HB3).facts.2.1 _ (List.mem_of_getElem? hx)).2.1
    obtain ⟨c, rfl⟩ : ∃ c : Nat, c0' = (c : Int) := ⟨c0'.toNat, (Int.toNat_of_nonneg hc).symm⟩
    obtain ⟨ge, rfl⟩ := rrow_some f4 (by omega)
    obtain ⟨x0, x1, x2, x3⟩ := erow_at f4 hx
    (try dsimp only at x0 x1 x2 x3)
    have hu1 : IntKind.u64.wrap (en : Int) = (en : Int) := by unfold IntKind.wrap; simp [IntKind.bits, IntKind.signed]; omega
    have hu2 : IntKind.i64.wrap (k : Int) = (k : Int) := by unfold IntKind.wrap; simp [IntKind.bits, IntKind.signed]; omega
    have z1 : ¬ (en : Int) = 0 := by omega
    have z2 : (k : Int) < (en : Int) := by omega
    have hbA := below_new w3 (oEd14 0 0 0 0)
    obtain ⟨a0, a1, a2, a3, -⟩ := cellsG ((hbA.block gb (heap_lt (unhide HF w3 (fun b ob hb => (unhide HB3).stood hb)).1)).trans (unhide HF w3 (fun b ob hb => (unhide HB3).stood hb)).1)
    obtain ⟨y0, y1, y2, y3⟩ := erow_at (rrow_below f4 hbA) hx
    obtain ⟨-, r1, -, -, -⟩ := cellsOp ((hbA.block ob (heap_lt (unhide HF w3 (fun b ob hb => (unhide HB3).stood hb)).2.1)).trans (unhide HF w3 (fun b ob hb => (unhide HB3).stood hb)).2.1)
    (try dsimp only at y0 y1 y2 y3)
    unfold oEd14 at a0 a1 a2 a3 y0 y1 y2 y3 r1
    have hfx := (unhide HB3).facts
    have hmx := List.mem_of_getElem? hx
    have hk9 : kept (c : Int) = some (c : Int) := by
      have := (hfx.2.1 _ hmx).2.2
      have h2 : (c : Int) < 2139095040 := this
      unfold kept; rw [if_neg (by omega), if_neg (by omega)]
    have HKX : Hid (gs[k]? = some (e, u, v, (c : Int)) ∧ ¬ e < 1 ∧ okN e ∧ u ∈ vs ∧ v ∈ vs ∧ kept (c : Int) = some (c : Int) ∧ (∀ x ∈ gs.take k ++ gs.drop (k + 1), x.1 ≠ e) ∧ (gs.take k ++ gs.drop (k + 1) ++ [(e, u, v, (c : Int))]).Perm gs ∧ gs.length ≤ 61 ∧ N ≤ 61 ∧ vs.Pairwise (· < ·)) := by
      have h1 : 1 ≤ e := (hfx.2.1 _ hmx).1
      have hsp : gs = gs.take k ++ (e, u, v, (c : Int)) :: gs.drop (k + 1) := by
        obtain ⟨q1, q2⟩ := List.getElem?_eq_some_iff.1 hx
        rw [← q2, List.getElem_cons_drop, List.take_append_drop]
      have hpm : (gs.take k ++ gs.drop (k + 1) ++ [(e, u, v, (c : Int))]).Perm gs := by
        have h3 : (gs.take k ++ (gs.drop (k + 1) ++ [(e, u, v, (c : Int))])).Perm (gs.take k ++ ((e, u, v, (c : Int)) :: gs.drop (k + 1))) := List.Perm.append_left _ (List.perm_append_singleton _ _)
        rw [← hsp, ← List.append_assoc] at h3
        exact h3
      refine ⟨hx, by omega, (hfx.2.2.1 _ hmx).1, (hfx.2.2.1 _ hmx).2.1, (hfx.2.2.1 _ hmx).2.2, hk9, fun x hx2 z => ?_, hpm, by have := (unhide HN).1; have := (unhide HN).2.1.2; omega, (unhide HN).1, (unhide HN).2.1.1⟩
      have hnd : ((gs.take k ++ gs.drop (k + 1) ++ [(e, u, v, (c : Int))]).map (·.1)).Nodup := (hpm.map _).nodup_iff.2 hfx.1
      rw [List.map_append, List.nodup_append] at hnd
      exact hnd.2.2 x.1 (List.mem_map_of_mem hx2) e (by simp) z
    obtain ⟨xb, hxb⟩ : ∃ xb, xb = w3.heap.size := ⟨_, rfl⟩
    obtain ⟨w4, hw4⟩ : ∃ w4, w4 = (w3.alloc (oEd14 e u v (c : Int))).drew := ⟨_, rfl⟩
    have hbX : Below w3.heap.size w3 w4 := by rw [hw4]; exact (below_new w3 (oEd14 e u v (c : Int))).drew
    have hnX : w4.heap[xb]? = some (oEd14 e u v (c : Int)) := by rw [hw4, hxb]; exact heap_alloc_new w3 (oEd14 e u v (c : Int))
    have HB4 := hide ((unhide HB3).ext hbX)
    have hK4 : extK K w3 w4 xb = some (oEd14 e u v (c : Int)) := by unfold extK; rw [if_pos (by omega)]; exact hnX
    have HF4 : Hid (∀ W, (∀ b ob, extK K w3 w4 b = some ob → W.heap[b]? = some ob) → W.heap[xb]? = some (oEd14 e u v (c : Int)) ∧ W.heap[gb]? = some (oG (.slice va vn vc) (.slice (some ⟨ge, 0, none⟩) en ec) 0 wrr) ∧ W.heap[ob]? = some (oOp k0 e0 u0 v0 b0) ∧ NRow W (.slice va vn vc) vs ∧ ERow 0 W (.slice (some ⟨ge, 0, none⟩) en ec) gs) := fun W hW => ⟨hW _ _ hK4, unhide HF W (fun b ob hb => hW b ob ((unhide HB3).inExt hb))⟩
    have HW4 : Hid (xb = w3.heap.size ∧ w4 = (w3.alloc (oEd14 e u v (c : Int))).drew) := ⟨hxb, hw4⟩
    have hk' := hk.symm
    have heu' := heu.symm
    clear hen f4 hbA hlen hkl hx hc heu heu0 hk h0 hfx hmx hk9 hxb hw4 hbX hnX hK4 HF HN HEN
    generalize extK K w3 w4 = K4 at *
    go_upto_region 6 with fail
    go_region
    clear x0 x1 x2 x3 a0 a1 a2 a3 y0 y1 y2 y3 r1 c0 c1 c2 c3 cf p0 p1 p2 p3 p4 hu1 hu2 z0 z1 z2 hk' heu' HB3
    go_upto_region 7 with fail
    change Code.wp _ _ _ _ (w3.alloc (oEd14 e u v (c : Int))).drew
    rw [← (unhide HW4).2, ← (unhide HW4).1]
    clear HW4
    have C1 := hide ((unhide HB4).dists (by have := (unhide HKX).2.2.2.2.2.2.2.2.2.1; omega) (unhide HKX).2.2.2.2.2.2.2.2.2.2 (by have := (unhide HKX).2.2.2.2.2.2.2.2.1; omega))
    go_wp2_with fail
    refine (unhide C1).mono ?_
    rintro r w5 ⟨la, ln, lc, rfl, H1⟩
    obtain ⟨ds1, d1, t1, hB5⟩ := unhide H1
    have HS5 : Hid (∀ b ob, K4 b = some ob → extK K4 w4 w5 b = some ob) := fun b ob q => (unhide HB4).inExt q
    have HD1 : Hid (DRow w4.heap.size w5 (.slice la ln lc) ds1 ∧ Told s vs gs ds1 ∧ ∀ b ob, w4.heap.size ≤ b → w5.heap[b]? = some ob → extK K4 w4 w5 b = some ob) := ⟨d1, t1, fun b ob q1 q2 => by unfold extK; rw [if_pos q1]; exact q2⟩
    have HB5 := hide hB5
    clear C1 H1 d1 t1 hB5 HB4
    generalize extK K4 w4 w5 = K5 at *
    obtain ⟨f1, f2, f3, -⟩ := unhide HF4 w5 (fun b ob q => (unhide HB5).stood (unhide HS5 b ob q))
    obtain ⟨x0, x1, x2, x3⟩ := cellsEd14 f1
    have C2 := hide ((unhide HB5).del (by have := (unhide HKX).2.2.2.2.2.2.2.2.2.1; omega) (unhide HKX).1)
    clear f1 f2 f3
    go_wp2_with fail
    refine (unhide C2).mono ?_
    rintro r w6 ⟨rfl, HB6⟩
    clear C2 x0 x1 x2 x3
    obtain ⟨f1, f2, f3, -⟩ := unhide HF4 w6 (fun b ob q => (unhide HB6).stood (unhide HS5 b ob q))
    obtain ⟨x0, x1, x2, x3⟩ := cellsEd14 f1
    have C3 := hide ((unhide HB6).rewNo (b := (c : Int)) (unhide HKX).2.2.1 (unhide HKX).2.2.2.2.2.2.1)
    clear f1 f2 f3
    go_wp2_with fail
    refine (unhide C3).mono ?_
    rintro r w7 ⟨rfl, HB7⟩
    clear C3 x0 x1 x2 x3 HB6
    obtain ⟨f1, f2, f3, -⟩ := unhide HF4 w7 (fun b ob q => (unhide HB7).stood (unhide HS5 b ob q))
    obtain ⟨x0, x1, x2, x3⟩ := cellsEd14 f1
    have C4 := hide ((unhide HB7).insYes (by have := (unhide HKX).2.2.2.2.2.2.2.2.2.1; omega) (by have := (unhide HKX).2.1; omega) (unhide HKX).2.2.1 (unhide HKX).2.2.2.2.2.2.1 (unhide HKX).2.2.2.1 (unhide HKX).2.2.2.2.1 (unhide HKX).2.2.2.2.2.1)
    clear f1 f2 f3
    go_wp2_with fail
    refine (unhide C4).mono ?_
    rintro r w8 ⟨rfl, HB8⟩
    clear C4 x0 x1 x2 x3 HB7
    obtain ⟨f1, f2, f3, -⟩ := unhide HF4 w8 (fun b ob q => (unhide HB8).stood (unhide HS5 b ob q))
    obtain ⟨x0, x1, x2, x3⟩ := cellsEd14 f1
    have C5 := hide ((unhide HB8).insTwice (u := u) (v := v) (b := (c : Int)) (by have := (unhide HKX).2.1; omega) (unhide HKX).2.2.1 ⟨(e, u, v, (c : Int)), by simp, rfl⟩)
    clear f1 f2 f3
    go_wp2_with fail
    refine (unhide C5).mono ?_
    rintro r w9 ⟨rfl, H9⟩
    have HB9 := hide ((unhide H9).perm (unhide HKX).2.2.2.2.2.2.2.1)
    have C6 := hide ((unhide HB9).dists (by have := (unhide HKX).2.2.2.2.2.2.2.2.2.1; omega) (unhide HKX).2.2.2.2.2.2.2.2.2.2 (by have := (unhide HKX).2.2.2.2.2.2.2.2.1; omega))
    clear C5 x0 x1 x2 x3 HB8 H9 HB5
    go_wp2_with fail
    refine (unhide C6).mono ?_
    rintro r w10 ⟨ma, mn, mc, rfl, H1⟩
    obtain ⟨ds2, d2, t2, hB10⟩ := unhide H1
    have HS6 : Hid (∀ b ob, K5 b = some ob → extK K5 w9 w10 b = some ob) := fun b ob q => (unhide HB9).inExt q
    have HD2 : Hid (DRow w9.heap.size w10 (.slice ma mn mc) ds2 ∧ Told s vs gs ds2 ∧ ∀ b ob, w9.heap.size ≤ b → w10.heap[b]? = some ob → extK K5 w9 w10 b = some ob) := ⟨d2, t2, fun b ob q1 q2 => by unfold extK; rw [if_pos q1]; exact q2⟩
    have HB10 := hide hB10
    clear C6 H1 d2 t2 hB10 HB9
    generalize extK K5 w9 w10 = K6 at *
    obtain ⟨f1, f2, f3, -⟩ := unhide HF4 w10 (fun b ob q => (unhide HB10).stood (unhide HS6 b ob (unhide HS5 b ob q)))
    obtain ⟨x0, x1, x2, x3⟩ := cellsEd14 f1
    obtain ⟨p0, p1, p2, p3, p4⟩ := cellsOp f3
    have C7 := hide ((unhide HB10).rew (b := b0) (by have := (unhide HKX).2.2.2.2.2.2.2.2.2.1; omega) (unhide HKX).1 (unhide HW0).2.2.2.2.2)
    clear f1 f2 f3
    go_wp2_with fail
    refine (unhide C7).mono ?_
    rintro r w11 ⟨code, rfl, H1⟩
    obtain ⟨hcode, c2, -, hB11⟩ := unhide H1
    have HB11 := hide hB11
    have hset : (gs.set k (e, u, v, (c2 : Int)))[k]? = some (e, u, v, (c2 : Int)) := List.getElem?_set_self (List.getElem?_eq_some_iff.1 (unhide HKX).1).1
    have C8 := hide ((unhide HB11).rew (b := (c : Int)) (by have := (unhide HKX).2.2.2.2.2.2.2.2.2.1; omega) hset (by omega))
    clear C7 x0 x1 x2 x3 p0 p1 p2 p3 p4 H1 hB11 hset HB10
    obtain ⟨f1, f2, f3, -⟩ := unhide HF4 w11 (fun b ob q => (unhide HB11).stood (unhide HS6 b ob (unhide HS5 b ob q)))
    obtain ⟨x0, x1, x2, x3⟩ := cellsEd14 f1
    clear f1 f2 f3
    have HCO : Hid (code = 0 ∨ code = 7) := hcode.imp (·.1) (·.1)
    clear hcode
    go_wp2_with fail
    refine (unhide C8).mono ?_
    rintro r w12 ⟨code', rfl, H1⟩
    obtain ⟨hcode', c3, hc3, hB12⟩ := unhide H1
    have hk9 := (unhide HKX).2.2.2.2.2.1
    obtain rfl : code' = 0 := by
      rcases hcode' with q | q
      · exact q.1
      · rw [hk9] at q; cases q.2
    obtain rfl : c3 = c := by
      rcases hc3 with q | q
      · rw [hk9] at q; have := Option.some.inj q; omega
      · rw [hk9] at q; cases q
    have hgs : (gs.set k (e, u, v, (c2 : Int))).set k (e, u, v, (c3 : Int)) = gs := by
      rw [List.set_set]
      obtain ⟨q1, q2⟩ := List.getElem?_eq_some_iff.1 (unhide HKX).1
      rw [← q2, List.set_getElem_self]
    rw [hgs] at hB12
    have HB12 := hide hB12
    have C9 := hide ((unhide HB12).dists (by have := (unhide HKX).2.2.2.2.2.2.2.2.2.1; omega) (unhide HKX).2.2.2.2.2.2.2.2.2.2 (by have := (unhide HKX).2.2.2.2.2.2.2.2.1; omega))
    clear C8 x0 x1 x2 x3 H1 hcode' hc3 hk9 hgs hB12 HB11
    have HFIN : Hid (∀ (na : Option Addr) (nn nc : Nat) (w13 : World), Hid (∃ ds, DRow w12.heap.size w13 (.slice na nn nc) ds ∧ Told s vs gs ds ∧ BS (extK K6 w12 w13) w0 p s vs gs (N + 1) w13) → nn = ln ∧ mn = ln ∧ ln ≤ 1000 ∧ ∃ ds1 ds2 ds3 ds4 T, ln = ds1.length ∧ SameT ds1 ds2 ∧ SameT ds1 ds3 ∧ ∀ W, Below w13.heap.size w13 W → DRow 0 W (.slice la ln lc) ds1 ∧ DRow 0 W (.slice ma mn mc) ds2 ∧ DRow 0 W (.slice na nn nc) ds3 ∧ TLv W p s vs gs ds4 T ∧ W.heap[gb]? = some (oG (.slice va vn vc) (.slice (some ⟨ge, 0, none⟩) en ec) 0 wrr) ∧ NRow W (.slice va vn vc) vs ∧ ERow 0 W (.slice (some ⟨ge, 0, none⟩) en ec) gs ∧ Below w.heap.size w W) := by
      intro na nn nc w13 H
      obtain ⟨ds3, d3, t3, hB13⟩ := unhide H
      obtain ⟨d1, t1, k1⟩ := unhide HD1
      obtain ⟨d2, t2, k2⟩ := unhide HD2
      have s7 : ∀ b ob, K6 b = some ob → extK K6 w12 w13 b = some ob := fun b ob q => (unhide HB12).inExt q
      obtain ⟨ds4, T, ht, -⟩ := hB13.tlv (by have := (unhide HKX).2.2.2.2.2.2.2.2.2.1; omega) (unhide HKX).2.2.2.2.2.2.2.2.2.2 (by have := (unhide HKX).2.2.2.2.2.2.2.2.1; omega)
      have st : ∀ W, Below w13.heap.size w13 W → ∀ b ob, K6 b = some ob → W.heap[b]? = some ob := fun W hW b ob q => by
        have h1 := hB13.stood (s7 b ob q)
        exact (hW.block b (heap_lt h1)).trans h1
      have e1 := rrow_len d1
      have e2 := rrow_len d2
      have e3 := rrow_len d3
      have m12 := t1.same t2
      have m13 := t1.same t3
      have l1 : ds1.length ≤ 1000 := by have := t1.2.1.l1; rw [← t1.1, List.length_map] at this; exact this
      have q12 := m12.1
      have q13 := m13.1
      refine ⟨by omega, by omega, by omega, ds1, ds2, ds3, ds4, T, e1, m12, m13, fun W hW => ?_⟩
      obtain ⟨-, g2, -, g4, g5⟩ := unhide HF4 W (fun b ob q => st W hW b ob (unhide HS6 b ob (unhide HS5 b ob q)))
      have hb := hB13.facts.2.2.2
      exact ⟨drow_ext d1 (fun b ob h1 h2 => st W hW b ob (unhide HS6 b ob (k1 b ob h1 h2))), drow_ext d2 (fun b ob h1 h2 => st W hW b ob (k2 b ob h1 h2)), rrow_below (rrow_low d3 (Nat.zero_le _)) hW, ht.below hW, g2, g4, g5, (unhide HW0).2.2.2.1.trans ((hb.trans (hW.mono hb.size)).mono (unhide HW0).2.2.2.1.size)⟩
    clear HKX HB12 HD1 HD2 HS5 HS6 HF4 HW0
    rcases unhide HCO with rfl | rfl
    all_goals
      clear HCO
      go_wp2_with fail
      refine (unhide C9).mono ?_
      rintro r w13 ⟨na, nn, nc, rfl, H1⟩
      obtain ⟨rfl, rfl, hln, ds1, ds2, ds3, ds4, T, hl1, hs12, hs13, hR⟩ := unhide HFIN na nn nc w13 H1
      have HR := hide hR
      have HS := hide (And.intro hl1 (And.intro hln (And.intro hs12 hs13)))
      clear C9 HFIN H1 hln hl1 hs12 hs13 hR
      go_wp2_with fail
      go_loopw [118] (fun s118 wr => ∃ i : Nat, s118 = .int .i64 i ∧ Hid (i ≤ mn ∧ Below w13.heap.size w13 wr)) (fun s118 _ => mn - (intOf s118).toNat)
      case atStart => exact ⟨0, rfl, Nat.zero_le _, Below.refl _ _⟩
      case round =>
        obtain ⟨i, rfl, HI⟩ := hrel
        obtain ⟨i1, i2⟩ := unhide HI
        obtain ⟨r1, r2, r3, r4, r5, r6, r7, r8⟩ := unhide HR wr i2
        obtain ⟨l1, l2, hs12, hs13⟩ := unhide HS
        by_cases hlt : i < mn
        · obtain ⟨⟨v', f, b, e'⟩, hx⟩ : ∃ x, ds1[i]? = some x := ⟨_, List.getElem?_eq_getElem (by omega)⟩
          obtain ⟨e2, hy⟩ := hs12.2 i v' f b e' hx
          obtain ⟨e3, hz⟩ := hs13.2 i v' f b e' hx
          have q2 := hs12.1
          have q3 := hs13.1
          obtain ⟨g1, rfl⟩ := rrow_some r1 (by omega)
          obtain ⟨g2, rfl⟩ := rrow_some r2 (by omega)
          obtain ⟨g3, rfl⟩ := rrow_some r3 (by omega)
          obtain ⟨-, k1, k2, -⟩ := drow_at r1 hx
          obtain ⟨-, m1, m2, -⟩ := drow_at r2 hy
          obtain ⟨-, n1, n2, -⟩ := drow_at r3 hz
          (try dsimp only at k1 k2 m1 m2 n1 n2)
          obtain ⟨j, hj⟩ : ∃ j, j = i + 1 := ⟨_, rfl⟩
          have z1 : (i : Int) < (mn : Int) := by omega
          have zw : Hid (wrap64 ((i : Int) + 1) = (j : Int)) := by show wrap64 ((i : Int) + 1) = (j : Int); unfold wrap64; omega
          have HJ : Hid (j = i + 1 ∧ mn - j < mn - i ∧ j ≤ mn ∧ Below w13.heap.size w13 wr) := ⟨hj, by omega, by omega, i2⟩
          clear HI i1 i2 r1 r2 r3 r4 r5 r6 r7 r8 l1 l2 hs12 hs13 q2 q3 hlt hx hy hz hj
          go_upto_region 20 with fail
          go_quiet (fail)
          go_wp2_with fail
          (try rw [unhide zw])
          exact ⟨⟨j, by first | rfl | (rw [(unhide HJ).1]; rfl), (unhide HJ).2.2.1, below_drewN (unhide HJ).2.2.2 _⟩, by have := unhide HJ; simp [intOf]; omega⟩
        · have z1 : ¬ (i : Int) < (mn : Int) := by omega
          have CR := hide (rightL (rd := 0) (wr0 := wrr) r4 r6 r7 r4.el)
          obtain ⟨c0, c1, c2', c3', cf⟩ := cellsG r5
          have HB := hide r8
          clear HI i1 i2 r1 r2 r3 r4 r5 r6 r7 r8 l1 l2 hs12 hs13 hlt HR HS
          go_wp2_with fail
          refine (unhide CR).mono ?_
          rintro r w20 ⟨rfl, hb20⟩
          have HE : Hid (Below w.heap.size w w20) := (unhide HB).trans ((unhide hb20).mono (unhide HB).size)
          clear CR HB hb20 c0 c1 c2' c3' cf
          go_wp2_with fail
          go_ret
          exact ⟨rfl, unhide HE⟩
end

section
open Go.ChangeShapes Go.WideShapes Go.ChangeAt Go.RowKit
set_option maxRecDepth 100000 in
/-- A call by value. -/
theorem open_op {H : Type} {enc : TypeId × Value → H} {W : World} {spare : Nat → Bool} {held : Bool} {r : Reach} {b0 : Nat} {v : Value} {d : DataW H} {p : List MemPlace} (hv : Value.okWide Tryz.prog W r b0 38 v) (h : DataW.Trod enc Tryz.prog W 0 spare held 38 v d p) :
    ∃ o : OpV, v = .agg #[.int .i64 o.1, .int .i64 o.2.1, .int .i64 o.2.2.1, .int .i64 o.2.2.2.1, .int .u32 o.2.2.2.2] ∧ okOp o := by
  obtain ⟨cs, rfl, hsz⟩ := okWide_struct Tryz.underlying38 hv
  obtain ⟨fuel, hf⟩ := h
  obtain ⟨l⟩ := cs
  rw [cellsOf38] at hsz
  match l, hsz with
  | [c0, c1, c2, c3, c4], _ =>
    obtain ⟨y0, y1, y2, y3, y4, q, e0, e1, e2, e3, e4⟩ := trod_struct5 Tryz.underlying38 hf
    simp only [cellsOf3, cellsOfU, Value.cells, List.drop, List.take] at e0 e1 e2 e3 e4
    obtain ⟨k0, f0, -, w0⟩ := DataW.trod_int Tryz.underlying3 e0
    obtain ⟨k1, f1, -, w1⟩ := DataW.trod_int Tryz.underlying3 e1
    obtain ⟨k2, f2, -, w2⟩ := DataW.trod_int Tryz.underlying3 e2
    obtain ⟨k3, f3, -, w3⟩ := DataW.trod_int Tryz.underlying3 e3
    obtain ⟨k4, f4, -, w4⟩ := DataW.trod_int Tryz.underlying36 e4
    simp only [List.cons.injEq, and_true] at f0 f1 f2 f3 f4
    subst f0 f1 f2 f3 f4
    exact ⟨(k0, k1, k2, k3, k4), rfl, w0, w1, w2, w3, w4⟩
end

end Go.Proofs.YtbmcibofecigeaaGreat
