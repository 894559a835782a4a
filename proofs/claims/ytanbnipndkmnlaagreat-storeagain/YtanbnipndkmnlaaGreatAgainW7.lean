/- StoreAgain, walked. -/
import Derived.Test.YtanbnipndkmnlaaGreatAgain7
namespace Go.Proofs.YtanbnipndkmnlaaGreat
open Go.RowKit Go.Maps

set_option maxHeartbeats 8000000 in
set_option maxRecDepth 100000 in
theorem again_any [Inhabited EntI] (a : Option Addr) (len cap : Nat) (o : Nat → OpV) (pk : Int) (w : World) (h : IsOps w a len o) :
    Calls Tryz.prog 6 #[.slice a len cap, .int .i64 pk] w fun e w' => e = .returned (.bool true) ∧ Below w.heap.size w w' := by
  have CB := hide (builtS a len cap o w h)
  have CW : Hid (∀ W, Calls Tryz.prog 9 #[] W fun e w' => e = .returned (.bool true) ∧ Below W.heap.size W w') := fun W => awakeS W
  clear h
  go_enter Tryz.func6, Tryz.ntmps6
  go_wp2_with fail
  refine (unhide CB).mono ?_
  rintro e w1 hh
  obtain ⟨s, a1, m1, q1, a2, m2, q2, rd, wr0, rfl, n, X, g, vs, es, hn, hG, hs, hL, hB, hrd, hwr⟩ := unhide hh
  obtain ⟨hKA, hKG, hWT⟩ := ka_of hG hL hB
  rw [hs] at hKA
  have HK := hide hKG
  have HWT := hide hWT
  have HKA := hide (hKA.below (below_new w1 (oG (.slice a1 m1 q1) (.slice a2 m2 q2) rd wr0)))
  generalize g.V = V at *
  generalize g.ps = ps at *
  clear hh hG hs hL hB hrd hwr CB hn hKA hKG hWT
  go_upto_region 2 with fail
  change Code.wp _ _ _ _ (w1.alloc (oG (.slice a1 m1 q1) (.slice a2 m2 q2) rd wr0))
  generalize w1.alloc (oG (.slice a1 m1 q1) (.slice a2 m2 q2) rd wr0) = w2 at *
  generalize w1.heap.size = b1 at *
  go_wp2_with fail
  refine (unhide CW _).mono ?_
  rintro e w3 ⟨rfl, hb3⟩
  have CV := hide (aVerts ((unhide HKA).below hb3) (unhide HK).rv (unhide HK).V)
  clear CW hb3 HKA
  go_wp2_with fail
  refine (unhide CV).mono ?_
  rintro e w5 ⟨va, vm, vk, rfl, h5⟩
  have HVM := hide (unhide h5).1
  have HS5 := hide (unhide h5).2
  clear CV h5
  by_cases hv0 : vm = 0
  · have hz : (vm : Int) = 0 := by omega
    have CF := hide (aFree1 (unhide HS5) (fun i x hx => by
      have h1 := ((unhide HK).edge i x hx).2.1
      have h2 := ((unhide HK).V _).1 h1
      have h3 : vs = [] := List.length_eq_zero_iff.1 (by have := unhide HVM; omega)
      rw [h3] at h2; cases h2))
    subst hv0
    clear HS5 hz
    go_wp2_with fail
    refine (unhide CF).mono ?_
    rintro e w6 ⟨rfl, hb⟩
    have HB := hide hb
    clear hb CF
    go_wp2_with fail
    go_ret
    exact ⟨rfl, unhide HB⟩
  · have hz : ((vm : Int) == 0) = false := by simp; omega
    have hz1 : ¬ (vm : Int) = 0 := by omega
    obtain ⟨l, hlz, hl⟩ := pick_of pk vm (by omega) (by rw [unhide HVM]; exact (unhide HK).vlen)
    have hu : IntKind.u64.wrap (vm : Int) = (vm : Int) := by
      have := (unhide HK).vlen
      rw [← unhide HVM] at this
      unfold IntKind.wrap; simp [IntKind.signed, IntKind.bits]; omega
    have hlt : (l : Int) < (vm : Int) := by omega
    obtain ⟨v, hv⟩ : ∃ v, vs[l]? = some v := ⟨_, List.getElem?_eq_getElem (by have := unhide HVM; omega)⟩
    have hVv : V v = true := ((unhide HK).V v).2 (List.mem_of_getElem? hv)
    have hr0 := (unhide HS5).row (v := .slice va vm vk) (ks := vs) (by simp)
    obtain ⟨gv, rfl⟩ := brow_some hr0 (by have := unhide HVM; omega)
    have hcv : w5.cell? ⟨gv, l, none⟩ = some (.int .i64 v) := brow_at hr0 hv
    have HVV : Hid (V v = true) := hVv
    have HOK : Hid (0 ≤ v ∧ v ≤ 2147483647) := (unhide HK).ok v hVv
    have CO := hide (aOut (unhide HS5) hVv)
    have hln : l < vm := hl
    clear hr0 hv hVv hv0 hl HS5
    go_wp2_with fail
    refine (unhide CO).mono ?_
    rintro e w6 ⟨oa, om, ok, rfl, h6⟩
    have CI := hide (aIn (unhide h6).2 (unhide HVV))
    clear CO h6 hcv hlz hlt hln hu hz hz1
    go_wp2_with fail
    refine (unhide CI).mono ?_
    rintro e w7 ⟨ia, im, ik, rfl, h7⟩
    have CE := hide (aEdges (unhide h7).2)
    clear CI h7
    go_wp2_with fail
    refine (unhide CE).mono ?_
    rintro e w8 ⟨ea, em, ek, rfl, h8⟩
    have HEM := hide (unhide h8).1
    have CD := hide (aDropV (unhide h8).2 (unhide HVV) (by omega))
    clear CE h8
    go_wp2_with fail
    refine (unhide CD).mono ?_
    rintro e w9 ⟨ga, gm, gk, rfl, h9⟩
    have hgone : (boths ps v).map (recOf ps) = es.filter (hits v) := (unhide HK).rel.gone v
    obtain ⟨gs, hgs⟩ : ∃ gs, gs = es.filter (hits v) := ⟨_, rfl⟩
    obtain ⟨V1, hV1⟩ : ∃ V1 : Int → Bool, V1 = fun j => !decide (j = v) && V j := ⟨_, rfl⟩
    obtain ⟨ps1, hp1⟩ : ∃ ps1, ps1 = clr ps (boths ps v) := ⟨_, rfl⟩
    have HGS := hide hgs
    have HGM : Hid (gm = gs.length ∧ gs.length ≤ 1024) := by
      have h1 := (unhide h9).1
      have h2 : (boths ps v).length = gs.length := by rw [hgs, ← hgone, List.length_map]
      exact ⟨by omega, by rw [← h2]; exact Nat.le_trans (length_numsOf _ _) (unhide HK).len⟩
    have HP1 : Hid (Part ps v [] ps1) := by rw [hp1]; exact part_drop ps v
    have HV1 : Hid (V1 v = false ∧ (fun j => decide (j = v) || V1 j) = V) := by
      refine ⟨by rw [hV1]; simp, funext fun j => ?_⟩
      rw [hV1]
      by_cases e : j = v
      · subst e; simp [unhide HVV]
      · simp [e]
    have HA1 : Hid (KA w s V1 (vs.length - 1) ps1 1024 [(.slice ea em ek, numsOf (fun _ => true) ps), (.slice ia im ik, inns ps v), (.slice oa om ok, outs ps v), (.slice (some ⟨gv, 0, none⟩) vm vk, vs)] (.slice ga gm gk) gs w9) := by
      have h1 := (unhide h9).2
      rw [hgone, ← hgs, ← hV1, ← hp1] at h1
      refine h1.up ?_
      have h2 : (boths ps v).length = gs.length := by rw [hgs, ← hgone, List.length_map]
      have := (unhide HGM).2
      omega
    have HLEN : Hid ((numsOf (fun _ => true) ps1).length + gm = em) := by
      have h1 := ((unhide HK).rel.lose (unhide HVV)).all
      have h2 := (unhide HK).rel.all
      have h3 := filt_len es (hits v)
      have h4 : (numsOf (fun _ => true) ps1).length = (es.filter (fun x => !hits v x)).length := by rw [hp1, show numsOf (fun _ => true) (clr ps (boths ps v)) = eAll (es.filter (fun x => !hits v x)) from h1.symm]; simp [eAll]
      have h5 : (numsOf (fun _ => true) ps).length = es.length := by rw [show numsOf (fun _ => true) ps = eAll es from h2.symm]; simp [eAll]
      have h6 := unhide HEM
      have h7 := (unhide HGM).1
      rw [hgs] at h7
      show _ + gm = em
      omega
    have HEL : Hid (em ≤ 1024) := by rw [unhide HEM]; exact Nat.le_trans (length_numsOf _ _) (unhide HK).len
    have CH := hide (aHas (unhide HA1) v (okN_of (unhide HOK).1 (unhide HOK).2))
    rw [show V1 v = false from (unhide HV1).1] at CH
    have CN := hide (aOutNo (unhide HA1) (okN_of (unhide HOK).1 (unhide HOK).2) (unhide HV1).1)
    have CE2 := hide (aEdges (unhide HA1))
    clear CD h9 hgone hgs hV1 hp1 HA1
    go_wp2_with fail
    refine (unhide CH).mono ?_
    rintro e w10 ⟨rfl, rfl⟩
    clear CH
    go_wp2_with fail
    refine (unhide CN).mono ?_
    rintro e w10 ⟨rfl, rfl⟩
    clear CN
    go_wp2_with fail
    refine (unhide CE2).mono ?_
    rintro e w11 ⟨fa, fm, fk, rfl, h11⟩
    have hsub : IntKind.i64.wrap ((em : Int) - (gm : Int)) = (fm : Int) := by
      have := (unhide h11).1; have := unhide HLEN; have := unhide HEL
      rw [IntKind.wrap_i64]; omega
    have CA := hide (aAddV ((unhide h11).2.less (rows' := [(.slice ea em ek, numsOf (fun _ => true) ps), (.slice ia im ik, inns ps v), (.slice oa om ok, outs ps v), (.slice (some ⟨gv, 0, none⟩) vm vk, vs)]) (fun r hr => List.mem_cons_of_mem _ hr)) (unhide HOK) (unhide HV1).1 (by have := (unhide HK).vlen; omega))
    clear CE2 h11 HLEN
    go_wp2_with fail
    refine (unhide CA).mono ?_
    rintro e w12 ⟨rfl, h12⟩
    have HA2 : Hid (KA w s V (vs.length - 1 + 1) ps1 1024 [(.slice ea em ek, numsOf (fun _ => true) ps), (.slice ia im ik, inns ps v), (.slice oa om ok, outs ps v), (.slice (some ⟨gv, 0, none⟩) vm vk, vs)] (.slice ga gm gk) gs w12) := by
      have h1 := unhide h12
      rw [show (fun j => decide (j = v) || V1 j) = V from (unhide HV1).2] at h1
      exact h1
    generalize vs.length - 1 + 1 = N at *
    have hgz : IntKind.i64.wrap ((gm : Int) - 1) = (gm : Int) - 1 := by rw [IntKind.wrap_i64]; have := unhide HGM; omega
    clear CA h12 hsub
    go_wp2_with fail
    go_loopw [15] (fun sz wr => ∃ z : Int, sz = .int .i64 z ∧ -1 ≤ z ∧ z < (gm : Int) ∧ Hid (∃ q, Part ps v (gs.drop (z + 1).toNat) q ∧ KA w s V N q (1100 + 2 * (gm - (z + 1).toNat)) [(.slice ea em ek, numsOf (fun _ => true) ps), (.slice ia im ik, inns ps v), (.slice oa om ok, outs ps v), (.slice (some ⟨gv, 0, none⟩) vm vk, vs)] (.slice ga gm gk) gs wr)) (fun sz _ => (intOf sz + 1).toNat)
    case atStart =>
      refine ⟨_, rfl, by omega, by omega, ps1, ?_, (unhide HA2).up (by omega)⟩
      rw [List.drop_eq_nil_of_le (by have := unhide HGM; omega)]
      exact unhide HP1
    case round =>
      obtain ⟨z, rfl, hz1, hz2, hSt⟩ := hrel
      clear HA2 HP1 hgz
      by_cases hz0 : 0 ≤ z
      · obtain ⟨j, rfl⟩ : ∃ j : Nat, z = (j : Int) := ⟨z.toNat, by omega⟩
        obtain ⟨q, hP, hA⟩ := unhide hSt
        rw [show ((j : Int) + 1).toNat = j + 1 by omega] at hP hA
        have hjl : j < gs.length := by have := unhide HGM; omega
        obtain ⟨x, hx⟩ : ∃ x, gs[j]? = some x := ⟨_, List.getElem?_eq_getElem hjl⟩
        have hxm : x ∈ es ∧ hits v x = true := by
          have := List.mem_of_getElem? hx
          rw [unhide HGS] at this
          exact List.mem_filter.1 this
        obtain ⟨i, hi⟩ := ((unhide HK).mem x).1 hxm.1
        obtain ⟨e1, e2, e3⟩ := (unhide HK).edge i x hi
        have hil : i < 1024 := Nat.lt_of_lt_of_le (List.getElem?_eq_some_iff.1 hi).1 (unhide HK).len
        have hwt := unhide HWT x hxm.1
        have hrec : Recs gs := by rw [unhide HGS]; exact (unhide HK).re.filter _
        have hfree : ∀ y, q[i]? ≠ some (y, true) := fun y hy => by
          obtain ⟨y1, y2⟩ := (hP.2 i y).1 hy
          rw [hi] at y1
          cases y1
          exact not_later hrec hx (y2 hxm.2)
        obtain ⟨X0, X1, X2, X3⟩ := x
        simp only at e1 e2 e3 hwt
        subst e1
        obtain ⟨gb, hga, -, d0, d1, d2, d3⟩ := hA.cells hx
        subst hga
        simp only at d0 d1 d2 d3
        have CP := hide (aPut hA hil hfree e2 e3 hwt (by have := unhide HGM; omega))
        have HP2 : Hid (Part ps v (gs.drop j) ((groE q (i + 1)).set i (((i : Int) + 1, X1, X2, X3), true))) := by
          rw [drop_cons hx]
          exact hP.put (fun i x hx => ((unhide HK).edge i x hx).1) hi
        have hq2 : ((groE q (i + 1)).set i (((i : Int) + 1, X1, X2, X3), true))[i]? = some (((i : Int) + 1, X1, X2, X3), true) := ((unhide HP2).2 i _).2 ⟨hi, fun _ => by rw [drop_cons hx]; simp⟩
        generalize (groE q (i + 1)).set i (((i : Int) + 1, X1, X2, X3), true) = q2 at *
        have HX := hide (And.intro hx (And.intro hq2 (And.intro e2 (And.intro e3 hwt))))
        clear hP hA hjl hx hxm hi e2 e3 hil hwt hrec hfree hSt hq2
        have hwj : wrap64 ((j : Int) - 1) = (j : Int) - 1 := by have := unhide HGM; unfold wrap64; omega
        have HWJ := hide hwj
        clear hwj
        go_wp2_with fail
        refine (unhide CP).mono ?_
        rintro e w1 ⟨rfl, h1⟩
        have CT := hide (aTwice (unhide h1) (unhide HX).2.1 (unhide HX).2.2.1 (unhide HX).2.2.2.1 (unhide HX).2.2.2.2)
        clear d0 d1 d2 d3
        obtain ⟨gb', hga', -, d0, d1, d2, d3⟩ := (unhide h1).cells (unhide HX).1
        simp only at d0 d1 d2 d3
        obtain rfl : gb = gb' := by injection hga' with e; injection e
        clear CP h1 hga'
        go_wp2_with fail
        refine (unhide CT).mono ?_
        rintro e w2 ⟨rfl, h2⟩
        have CG := hide (aEdge (unhide h2) (unhide HX).2.1 (by have := unhide HGM; omega))
        clear d0 d1 d2 d3
        obtain ⟨gb', hga', -, d0, d1, d2, d3⟩ := (unhide h2).cells (unhide HX).1
        simp only at d0 d1 d2 d3
        obtain rfl : gb = gb' := by injection hga' with e; injection e
        clear CT h2 hga'
        go_wp2_with fail
        refine (unhide CG).mono ?_
        rintro e w3 ⟨rfl, h3⟩
        have hS2 := (unhide h3).below (below_new w3 (oX ((i : Int) + 1, X1, X2, X3)))
        have HS2 := hide hS2
        clear d0 d1 d2 d3
        obtain ⟨gb', hga', -, d0, d1, d2, d3⟩ := hS2.cells (unhide HX).1
        simp only at d0 d1 d2 d3
        obtain rfl : gb = gb' := by injection hga' with e; injection e
        obtain ⟨x0, x1, x2, x3, -⟩ := cellsX (heap_alloc_new w3 (oX ((i : Int) + 1, X1, X2, X3)))
        simp only at x0 x1 x2 x3
        clear CG h3 hga' hS2
        go_upto_region 18 with fail
        change Code.wp _ _ _ _ (w3.alloc (oX ((i : Int) + 1, X1, X2, X3)))
        generalize w3.alloc (oX ((i : Int) + 1, X1, X2, X3)) = w4 at *
        generalize w3.heap.size = bx at *
        have hq : ∀ W : World, (Op.equalIn 10000 37 (.agg #[.int .i64 ((i : Int) + 1), .int .i64 X1, .int .i64 X2, .int .u32 X3]) (.agg #[.int .i64 ((i : Int) + 1), .int .i64 X1, .int .i64 X2, .int .u32 X3])).run Tryz.prog W = .ok true W := fun W => by
          have := eqE ((i : Int) + 1, X1, X2, X3) ((i : Int) + 1, X1, X2, X3) W
          rw [decide_eq_true rfl] at this
          exact this
        refine wp_region_noPanic ?_
        refine regionL [] (fun y => (y.cell? ⟨bx, 0, none⟩ = some (.int .i64 ((i : Int) + 1)) ∧ y.cell? ⟨bx, 1, none⟩ = some (.int .i64 X1) ∧ y.cell? ⟨bx, 2, none⟩ = some (.int .i64 X2) ∧ y.cell? ⟨bx, 3, none⟩ = some (.int .u32 X3)) ∧ y.cell? ⟨gb, j * 4, none⟩ = some (.int .i64 ((i : Int) + 1)) ∧ y.cell? ⟨gb, j * 4 + 1, none⟩ = some (.int .i64 X1) ∧ y.cell? ⟨gb, j * 4 + 2, none⟩ = some (.int .i64 X2) ∧ y.cell? ⟨gb, j * 4 + 3, none⟩ = some (.int .u32 X3)) (by kernel_rfl) ⟨⟨x0, x1, x2, x3⟩, d0, d1, d2, d3⟩ (fun hHeld => ?_)
        refine takeL (i := 0) (v := ?t2v0) (some 126) rfl rfl (by kernel_rfl) (by kernel_rfl) (by kernel_rfl) (by kernel_rfl) (by kernel_rfl) (fun _ _ _ h => h) (Or.inl ⟨by rfl, ?t2h0⟩) (by assumption) ?t2r0
        case t2h0 => (intro y hSu; (try dsimp only at hSu); go_simp; first | done | with_reducible rfl)
        (try simp only [Act.put, List.setIfInBounds_toArray, List.set_cons_zero, List.set_cons_succ])
        refine takeL (i := 1) (v := ?t2v1) (some 127) rfl rfl (by kernel_rfl) (by kernel_rfl) (by kernel_rfl) (by kernel_rfl) (by kernel_rfl) (fun _ _ _ h => h) (Or.inl ⟨by rfl, ?t2h1⟩) (by assumption) ?t2r1
        case t2h1 => (intro y hSu; (try dsimp only at hSu); go_simp; first | done | with_reducible rfl)
        (try simp only [Act.put, List.setIfInBounds_toArray, List.set_cons_zero, List.set_cons_succ])
        refine takeL (i := 2) (v := ?t2v2) (some 128) rfl rfl (by kernel_rfl) (by kernel_rfl) (by kernel_rfl) (by kernel_rfl) (by kernel_rfl) (fun _ _ _ h => h) (Or.inl ⟨by rfl, ?t2h2⟩) (by assumption) ?t2r2
        case t2h2 => (intro y hSu; (try dsimp only at hSu); go_simp; first | done | with_reducible rfl)
        (try simp only [Act.put, List.setIfInBounds_toArray, List.set_cons_zero, List.set_cons_succ])
        refine takeL (i := 3) (v := ?t2v3) (some 129) rfl rfl (by kernel_rfl) (by kernel_rfl) (by kernel_rfl) (by kernel_rfl) (by kernel_rfl) (fun _ _ _ h => h) (Or.inl ⟨by rfl, ?t2h3⟩) (by assumption) ?t2r3
        case t2h3 => (intro y hSu; (try dsimp only at hSu); go_simp; first | done | with_reducible rfl)
        (try simp only [Act.put, List.setIfInBounds_toArray, List.set_cons_zero, List.set_cons_succ])
        refine takeL (i := 4) (v := ?t2v4) (some 130) rfl rfl (by kernel_rfl) (by kernel_rfl) (by kernel_rfl) (by kernel_rfl) (by kernel_rfl) (fun _ _ _ h => h) (Or.inl ⟨by rfl, ?t2h4⟩) (by assumption) ?t2r4
        case t2h4 => (intro y hSu; (try dsimp only at hSu); go_simp; first | done | with_reducible rfl)
        (try simp only [Act.put, List.setIfInBounds_toArray, List.set_cons_zero, List.set_cons_succ])
        refine takeL (i := 5) (v := ?t2v5) (some 131) rfl rfl (by kernel_rfl) (by kernel_rfl) (by kernel_rfl) (by kernel_rfl) (by kernel_rfl) (fun _ _ _ h => h) (Or.inl ⟨by rfl, ?t2h5⟩) (by assumption) ?t2r5
        case t2h5 => (intro y hSu; (try dsimp only at hSu); go_simp; first | done | with_reducible rfl)
        (try simp only [Act.put, List.setIfInBounds_toArray, List.set_cons_zero, List.set_cons_succ])
        refine takeL (i := 6) (v := ?t2v6) (some 132) rfl rfl (by kernel_rfl) (by kernel_rfl) (by kernel_rfl) (by kernel_rfl) (by kernel_rfl) (fun _ _ _ h => h) (Or.inl ⟨by rfl, ?t2h6⟩) (by assumption) ?t2r6
        case t2h6 => (intro y hSu; (try dsimp only at hSu); go_simp; first | done | with_reducible rfl)
        (try simp only [Act.put, List.setIfInBounds_toArray, List.set_cons_zero, List.set_cons_succ])
        refine takeL (i := 7) (v := ?t2v7) (some 133) rfl rfl (by kernel_rfl) (by kernel_rfl) (by kernel_rfl) (by kernel_rfl) (by kernel_rfl) (fun _ _ _ h => h) (Or.inl ⟨by rfl, ?t2h7⟩) (by assumption) ?t2r7
        case t2h7 => (intro y hSu; (try dsimp only at hSu); go_simp; first | done | with_reducible rfl)
        (try simp only [Act.put, List.setIfInBounds_toArray, List.set_cons_zero, List.set_cons_succ])
        refine takeL (i := 8) (v := ?t2v8) (some 134) rfl rfl (by kernel_rfl) (by kernel_rfl) (by kernel_rfl) (by kernel_rfl) (by kernel_rfl) (fun _ _ _ h => h) (Or.inl ⟨by rfl, ?t2h8⟩) (by assumption) ?t2r8
        case t2h8 => (intro y hSu; (try dsimp only at hSu); go_simp; first | done | with_reducible rfl)
        (try simp only [Act.put, List.setIfInBounds_toArray, List.set_cons_zero, List.set_cons_succ])
        refine takeL (i := 9) (v := ?t2v9) (some 135) rfl rfl (by kernel_rfl) (by kernel_rfl) (by kernel_rfl) (by kernel_rfl) (by kernel_rfl) (fun _ _ _ h => h) (Or.inl ⟨by rfl, ?t2h9⟩) (by assumption) ?t2r9
        case t2h9 => (intro y hSu; (try dsimp only at hSu); go_simp; first | done | with_reducible rfl)
        (try simp only [Act.put, List.setIfInBounds_toArray, List.set_cons_zero, List.set_cons_succ])
        refine doneL (by kernel_rfl) ?_ _
        refine NoPanic.normal ?_
        clear x0 x1 x2 x3 d0 d1 d2 d3 hHeld hq
        go_wp2_with fail
        (try rw [unhide HWJ])
        refine ⟨⟨(j : Int) - 1, rfl, by omega, by omega, q2, ?_, ?_⟩, by simp [intOf]⟩
        · rw [show ((j : Int) - 1 + 1).toNat = j by omega]; exact unhide HP2
        · rw [show ((j : Int) - 1 + 1).toNat = j by omega]
          exact ((unhide HS2).below (Below.refl _ _).drew).up (by omega)
      · obtain ⟨q, hP, hA⟩ := unhide hSt
        rw [show (z + 1).toNat = 0 by omega] at hP hA
        have HN : Hid (∀ p, numsOf p q = numsOf p ps) := fun p => hP.nums (fun j y hj hy => by
          rw [List.drop_zero, unhide HGS]
          exact List.mem_filter.2 ⟨((unhide HK).mem y).2 ⟨j, hj⟩, hy⟩) p
        have HLL : Hid (∀ p, (numsOf p ps).length ≤ 1000000) := fun p => Nat.le_trans (length_numsOf _ _) (by have := (unhide HK).len; omega)
        have CO := hide (aOut hA (unhide HVV))
        rw [show outs q v = outs ps v from unhide HN _] at CO
        clear hP hA hSt
        go_wp2_with fail
        refine (unhide CO).mono ?_
        rintro e w1 ⟨a1', m1', k1', rfl, h1⟩
        have C1 := hide (aSame (v1 := .slice a1' m1' k1') (v2 := .slice oa om ok) (ks := outs ps v) (unhide h1).2 (by simp) (by simp) (unhide HLL _))
        clear CO h1
        go_wp2_with fail
        refine (unhide C1).mono ?_
        rintro e w2 ⟨rfl, h2⟩
        have CI := hide (aIn (unhide h2) (unhide HVV))
        rw [show inns q v = inns ps v from unhide HN _] at CI
        clear C1 h2
        go_wp2_with fail
        refine (unhide CI).mono ?_
        rintro e w3 ⟨a2', m2', k2', rfl, h3⟩
        have C2 := hide (aSame (v1 := .slice a2' m2' k2') (v2 := .slice ia im ik) (ks := inns ps v) (unhide h3).2 (by simp) (by simp) (unhide HLL _))
        clear CI h3
        go_wp2_with fail
        refine (unhide C2).mono ?_
        rintro e w4 ⟨rfl, h4⟩
        have CE := hide (aEdges (unhide h4))
        rw [show numsOf (fun _ => true) q = numsOf (fun _ => true) ps from unhide HN _] at CE
        clear C2 h4
        go_wp2_with fail
        refine (unhide CE).mono ?_
        rintro e w5 ⟨a3', m3', k3', rfl, h5⟩
        have C3 := hide (aSame (v1 := .slice a3' m3' k3') (v2 := .slice ea em ek) (ks := numsOf (fun _ => true) ps) (unhide h5).2 (by simp) (by simp) (unhide HLL _))
        clear CE h5
        go_wp2_with fail
        refine (unhide C3).mono ?_
        rintro e w6 ⟨rfl, h6⟩
        have CV := hide (aVerts (unhide h6) (unhide HK).rv (unhide HK).V)
        clear C3 h6
        go_wp2_with fail
        refine (unhide CV).mono ?_
        rintro e w7 ⟨a4', m4', k4', rfl, h7⟩
        have C4 := hide (aSame (v1 := .slice a4' m4' k4') (v2 := .slice (some ⟨gv, 0, none⟩) vm vk) (ks := vs) (unhide h7).2 (by simp) (by simp) (by have := (unhide HK).vlen; omega))
        clear CV h7
        go_wp2_with fail
        refine (unhide C4).mono ?_
        rintro e w8 ⟨rfl, h8⟩
        have HB : Hid (Below w.heap.size w w8) := (unhide h8).out
        clear C4 h8
        go_wp2_with fail
        go_ret
        exact ⟨rfl, unhide HB⟩
end Go.Proofs.YtanbnipndkmnlaaGreat
