/- TreeLeast, walked. -/
import Derived.Test.YtijgeoegeeejcaaAwake13
import Derived.Test.YtijgeoegeeejcaaSum13
namespace Go.Proofs.Ytijgeoegeeejcaa
open Go.RowKit Go.Maps
theorem askB_le {B : Nat} {W : World} {p : Nat} {s : Int} {ys : List Int} {es : List EdV} {ds : List DiV} {fs : List Int} (h : TreeAt B W p s ys es ds fs) (v : Int) : askB ys ds v ≤ 2139095040 := by
  obtain ⟨ord, hd⟩ := h.dj
  unfold askB
  split
  · exact hd.le_ _
  · omega
theorem ask_src {B : Nat} {W : World} {p : Nat} {s : Int} {ys : List Int} {es : List EdV} {ds : List DiV} {fs : List Int} (h : TreeAt B W p s ys es ds fs) : askC ys ds s = 0 ∧ askB ys ds s = 0 ∧ askE ys ds s = 0 := by
  obtain ⟨ord, hd⟩ := h.dj
  obtain ⟨-, h1, h2, h3⟩ := hd.src
  have hc : askC ys ds s = 0 := ask_ok.2 ⟨h.good.src, h1⟩
  exact ⟨hc, (if_pos hc).trans h2, (if_pos hc).trans h3⟩
set_option maxHeartbeats 4000000 in
set_option maxRecDepth 100000 in
theorem least_any [Inhabited EntF] {w : World} {a0 a1 : Option Addr} {len0 cap0 len1 cap1 : Nat} {z : Nat → Int} {o : Nat → EdV} (s : Int) (h0 : IsIntsC w a0 len0 cap0 z) (h1 : IsEdsC w a1 len1 cap1 o) (hb0 : len0 < 1000000000000000000) (hb1 : len1 < 1000000000000000000) :
    Calls Try.prog 4 #[.slice a0 len0 cap0, .slice a1 len1 cap1, .int .i64 s] w fun e w' => e = .returned (.bool true) ∧ Below w.heap.size w w' := by
  have CA := hide (awakeS w)
  have CC : Hid (∀ W, Below w.heap.size w W → Calls Try.prog 9 #[.slice a0 len0 cap0, .slice a1 len1 cap1] W fun e w' => Hid (∃ v1 v2, e = .returned (.tuple #[v1, v2]) ∧ CutAns W ((List.range (min len0 40)).map z) ((List.range (min len1 160)).map o) v1 v2 w')) := fun W hW => cutS ⟨isInts_below h0.1 hW, h0.2⟩ (isEds_below h1 hW) hb0 hb1
  have hk1 : ((List.range (min len0 40)).map z).length ≤ 1000 := by simp; omega
  have hk2 : ((List.range (min len1 160)).map o).length ≤ 1000 := by simp; omega
  generalize (List.range (min len0 40)).map z = ks at *
  generalize (List.range (min len1 160)).map o = es at *
  have HK : Hid (ks.length ≤ 1000 ∧ es.length ≤ 1000) := ⟨hk1, hk2⟩
  clear h0 h1 hb0 hb1 hk1 hk2
  go_enter Try.func4, Try.ntmps4
  go_wp2_with fail
  refine (unhide CA).mono ?_
  rintro e w1 ⟨rfl, hb1⟩
  have CC2 := hide (unhide CC w1 (unhide hb1))
  clear CA CC
  go_wp2_with fail
  refine (unhide CC2).mono ?_
  intro e w2 H2
  obtain ⟨v1, v2, rfl, c1, c2, c3, -⟩ := unhide H2
  obtain ⟨x1, r1, rfl, -⟩ := brow_shape c2
  obtain ⟨x2, r2, rfl⟩ := rrow_shape c3
  have C3 := hide (buildS (s := s) (brow_at0 c2) (rrow_low c3 (Nat.zero_le _)) (unhide HK).1 (unhide HK).2)
  have hB2 : Below w.heap.size w w2 := (unhide hb1).trans (c1.mono (unhide hb1).size)
  obtain ⟨n1, hn1⟩ : ∃ n1, n1 = ks.length := ⟨_, rfl⟩
  obtain ⟨n2, hn2⟩ : ∃ n2, n2 = es.length := ⟨_, rfl⟩
  rw [← hn1, ← hn2] at C3
  rw [← hn2] at c3
  have HE : Hid (ERow 0 w2 (.slice x2 n2 r2) es ∧ n2 = es.length ∧ n2 ≤ 1000 ∧ Below w.heap.size w w2) := ⟨rrow_low c3 (Nat.zero_le _), hn2, by have := (unhide HK).2; omega, hB2⟩
  rw [← hn1, ← hn2]
  clear CC2 H2 c1 c2 c3 hB2 hb1 hn1 hn2
  go_wp2_with fail
  refine (unhide C3).mono ?_
  rintro e w3 ⟨po, er, rfl, H3⟩
  clear C3
  by_cases her : er = 0
  · subst her
    obtain ⟨p, ys, ds, fs, rfl, HT⟩ : ∃ p ys ds fs, po = some ⟨p, 0, none⟩ ∧ Hid (TreeAt w2.heap.size w3 p s ys es ds fs ∧ Below w.heap.size w w3 ∧ Below w2.heap.size w2 w3) := by
      obtain ⟨ys, q1, q2, q3, q4, q5⟩ := unhide H3
      rcases q5 with ⟨z, -⟩ | ⟨-, p, ds, fs, e, hT⟩
      · exact absurd rfl z
      · exact ⟨p, ys, ds, fs, e, hT, (unhide HE).2.2.2.trans (q3.mono (unhide HE).2.2.2.size), q3⟩
    obtain ⟨k1, k2, k3⟩ := ask_src (unhide HT).1
    have C4 := hide (distT (unhide HT).1 s)
    rw [k1, k2] at C4
    have C5 : Hid (∀ W, Below w3.heap.size w3 W → Calls Try.prog 15 #[.pointer (some ⟨p, 0, none⟩), .int .i64 s] W fun e w' => e = .returned (.int .i64 0) ∧ Hid (Below W.heap.size W w')) := fun W hW => by
      have := lastT ((unhide HT).1.below hW) s
      rwa [k3] at this
    clear H3 k1 k2 k3
    go_wp2_with fail
    refine (unhide C4).mono ?_
    rintro e w4 ⟨rfl, hb4⟩
    have C6 := hide (unhide C5 w4 (unhide hb4))
    clear C4 C5
    go_wp2_with fail
    refine (unhide C6).mono ?_
    rintro e w5 ⟨rfl, hb5⟩
    have HB5 : Hid (Below w3.heap.size w3 w5) := (unhide hb4).trans ((unhide hb5).mono (unhide hb4).size)
    clear C6 hb4 hb5
    go_wp2_with fail
    go_loopw [66, 11] (fun s66 s11 wr => ∃ (i n : Nat), s66 = .int .i64 i ∧ s11 = .int .i64 n ∧ Hid (i ≤ n2 ∧ n = usedN ys ds (es.take i) ∧ Below w3.heap.size w3 wr)) (fun s66 _ _ => n2 - (intOf s66).toNat)
    case atStart => exact ⟨0, 0, rfl, rfl, Nat.zero_le _, rfl, unhide HB5⟩
    case round =>
      clear HB5
      obtain ⟨i, n, rfl, rfl, HI⟩ := hrel
      obtain ⟨i1, i2, i3⟩ := unhide HI
      obtain ⟨e1, e2, e3, -⟩ := unhide HE
      obtain ⟨hT, t2, t3⟩ := unhide HT
      by_cases hlt : i < n2
      · obtain ⟨x, hx⟩ : ∃ x, es[i]? = some x := ⟨_, List.getElem?_eq_getElem (by omega)⟩
        have hxm := List.mem_of_getElem? hx
        have hB : Below w2.heap.size w2 wr := t3.trans (i3.mono t3.size)
        have hrow := rrow_below e1 hB
        obtain ⟨g, rfl⟩ := rrow_some hrow (by omega)
        obtain ⟨d0, d1, d2, d3⟩ := erow_at hrow hx
        have hb := below_new wr (oEd x)
        have hblk := heap_alloc_new wr (oEd x)
        obtain ⟨W1, hW1⟩ : ∃ W1, W1 = wr.alloc (oEd x) := ⟨_, rfl⟩
        obtain ⟨wb, hwb⟩ : ∃ wb, wb = wr.heap.size := ⟨_, rfl⟩
        rw [← hW1] at hb hblk
        rw [← hwb] at hblk
        have hB1 : Below w3.heap.size w3 W1 := i3.trans (hb.mono i3.size)
        have hwl : wb < W1.heap.size := (Array.getElem?_eq_some_iff.1 hblk).1
        have HX : Hid (∀ W', Below W1.heap.size W1 W' → W'.cell? ⟨wb, 0, none⟩ = some (.int .i64 x.1) ∧ W'.cell? ⟨wb, 1, none⟩ = some (.int .i64 x.2.1) ∧ W'.cell? ⟨wb, 2, none⟩ = some (.int .i64 x.2.2.1) ∧ W'.cell? ⟨wb, 3, none⟩ = some (.int .u32 x.2.2.2)) := fun W' h => cellsEd ((h.block wb hwl).trans hblk)
        have HM : Hid (∀ W', Below W1.heap.size W1 W' → TreeAt w2.heap.size W' p s ys es ds fs) := fun W' h => hT.below (hB1.trans (h.mono hB1.size))
        obtain ⟨f1, f2⟩ := hT.edge hxm
        have hus := used_snoc ys ds hx
        have C1 := hide (distT (hT.below hB1) x.2.1)
        obtain ⟨o0, o1, o2, o3⟩ := unhide HX W1 (Below.refl _ _)
        obtain ⟨j, hj⟩ : ∃ j, j = i + 1 := ⟨_, rfl⟩
        have zw : Hid (wrap64 ((i : Int) + 1) = (j : Int)) := by show wrap64 ((i : Int) + 1) = (j : Int); unfold wrap64; omega
        have HJ : Hid (j = i + 1 ∧ n2 - j < n2 - i ∧ j ≤ n2) := ⟨hj, by omega, by omega⟩
        have hn1000 : n ≤ 1000 := by
          rw [i2]; unfold usedN
          have := List.countP_le_length (p := usedB ys ds) (l := es.take i)
          rw [List.length_take] at this; omega
        rw [← hj, ← i2] at hus
        have HU : Hid (usedN ys ds (es.take j) = n + (if usedB ys ds x = true then 1 else 0) ∧ n ≤ 1000) := ⟨hus, hn1000⟩
        have HG := hide (hT.good.wt x hxm)
        have HL := hide (askB_le hT x.2.1)
        have HF := hide f2
        have z1 : (i : Int) < (n2 : Int) := by omega
        have HB1 := hide hB1
        have HW1 := hide hW1
        have HWB := hide hwb
        clear HI i1 i2 i3 e1 e2 e3 hT t2 t3 hlt hx hxm hB hrow hb hblk hW1 hwb hB1 hwl f2 hus hj hn1000
        (try dsimp only at d0 d1 d2 d3)
        go_upto_region 14 with fail
        rw [show wr.alloc (.cells #[.int .i64 x.1, .int .i64 x.2.1, .int .i64 x.2.2.1, .int .u32 x.2.2.2] 42) = W1 from (unhide HW1).symm, ← unhide HWB]
        clear HW1 HWB d0 d1 d2 d3 z1
        go_wp2_with fail
        refine (unhide C1).mono ?_
        rintro e w6 ⟨rfl, hb6⟩
        have C2 := hide (distT (unhide HM w6 (unhide hb6)) x.2.2.1)
        clear C1 o0 o1 o2 o3
        obtain ⟨o0, o1, o2, o3⟩ := unhide HX w6 (unhide hb6)
        go_wp2_with fail
        refine (unhide C2).mono ?_
        rintro e w7 ⟨rfl, hb7⟩
        have HB7 : Hid (Below W1.heap.size W1 w7) := (unhide hb6).trans ((unhide hb7).mono (unhide hb6).size)
        clear C2 hb6 hb7 o0 o1 o2 o3
        rcases f1 with hf | hf
        · have HJ2 : Hid (n = usedN ys ds (es.take j) ∧ Below w3.heap.size w3 w7) := ⟨by
            have hu : usedB ys ds x = false := by unfold usedB; rw [hf]; rfl
            rw [(unhide HU).1, hu]; rfl, (unhide HB1).trans ((unhide HB7).mono (unhide HB1).size)⟩
          rw [hf]
          generalize askC ys ds x.2.2.1 = cv at *
          generalize askB ys ds x.2.2.1 = bv at *
          generalize askB ys ds x.2.1 = bu at *
          clear HX HM HU HG HL HF HB1 HB7 hf
          go_wp2_with fail
          (try rw [unhide zw])
          exact ⟨⟨j, n, by first | rfl | (rw [(unhide HJ).1]; rfl), rfl, (unhide HJ).2.2, (unhide HJ2).1, (unhide HJ2).2⟩, by have := unhide HJ; simp [intOf]; omega⟩
        · obtain ⟨g1, g2, g3⟩ := unhide HF hf
          have C3 := hide (sumS (unhide HL) (unhide HG) w7)
          have CL := hide (fun W' (h : Below W1.heap.size W1 W') => lastT (unhide HM W' h) x.2.2.1)
          have HU2 : Hid (usedN ys ds (es.take j) = n + (if askE ys ds x.2.2.1 = x.1 then 1 else 0)) := by
            have := (unhide HU).1
            unfold usedB at this
            rw [hf] at this
            show usedN ys ds (es.take j) = _
            rw [this]; simp
          obtain ⟨o0, o1, o2, o3⟩ := unhide HX w7 (unhide HB7)
          rw [hf, g1]
          generalize M.addC (askB ys ds x.2.1) (wtN x) = cc at *
          generalize askB ys ds x.2.2.1 = bv at *
          generalize askE ys ds x.2.2.1 = ev at *
          generalize askB ys ds x.2.1 = bu at *
          have HG3 := hide g3
          have HNB := hide (unhide HU).2
          have zb : ¬ (cc : Int) < (bv : Int) := by omega
          clear HM HU HG HL HF hf g1 g2 g3
          go_wp2_with fail
          refine (unhide C3).mono ?_
          rintro e w8 ⟨rfl, hb8⟩
          have HB8 : Hid (Below W1.heap.size W1 w8) := (unhide HB7).trans ((unhide hb8).mono (unhide HB7).size)
          clear C3 hb8 HB7 o0 o1 o2 o3
          obtain ⟨o0, o1, o2, o3⟩ := unhide HX w8 (unhide HB8)
          go_upto_region 20 with fail
          clear zb
          refine wp_region_noPanic ?_
          refine regionL [] (fun y => y.cell? ⟨wb, 2, none⟩ = some (.int .i64 x.2.2.1) ∧ y.cell? ⟨wb, 0, none⟩ = some (.int .i64 x.1)) (by kernel_rfl) ⟨o2, o0⟩ (fun hHeld => ?_)
          refine takeL (i := 0) (v := ?t2v0) (some 101) rfl rfl (by kernel_rfl) (by kernel_rfl) (by kernel_rfl) (by kernel_rfl) (by kernel_rfl) (fun _ _ _ h => h) (Or.inl ⟨by rfl, ?t2h0⟩) (by assumption) ?t2r0
          case t2h0 => (intro y hSu; (try dsimp only at hSu); go_simp; first | done | with_reducible rfl)
          (try simp only [Act.put, List.setIfInBounds_toArray, List.set_cons_zero, List.set_cons_succ])
          refine takeL (i := 1) (v := ?t2v1) (some 102) rfl rfl (by kernel_rfl) (by kernel_rfl) (by kernel_rfl) (by kernel_rfl) (by kernel_rfl) (fun _ _ _ h => h) (Or.inl ⟨by rfl, ?t2h1⟩) (by assumption) ?t2r1
          case t2h1 => (intro y hSu; (try dsimp only at hSu); go_simp; first | done | with_reducible rfl)
          (try simp only [Act.put, List.setIfInBounds_toArray, List.set_cons_zero, List.set_cons_succ])
          refine takeL (i := 2) (v := ?t2v2) (some 103) rfl rfl (by kernel_rfl) (by kernel_rfl) (by kernel_rfl) (by kernel_rfl) (by kernel_rfl) (fun _ _ _ h => h) (Or.inl ⟨by rfl, ?t2h2⟩) (by assumption) ?t2r2
          case t2h2 => (intro y hSu; (try dsimp only at hSu); go_simp; first | done | with_reducible rfl)
          (try simp only [Act.put, List.setIfInBounds_toArray, List.set_cons_zero, List.set_cons_succ])
          refine takeL (i := 4) (v := ?t2v4) (some 105) rfl rfl (by kernel_rfl) (by kernel_rfl) (by kernel_rfl) (by kernel_rfl) (by kernel_rfl) (fun _ _ _ h => h) (Or.inl ⟨by rfl, ?t2h4⟩) (by assumption) ?t2r4
          case t2h4 => (intro y hSu; (try dsimp only at hSu); go_simp; first | done | with_reducible rfl)
          (try simp only [Act.put, List.setIfInBounds_toArray, List.set_cons_zero, List.set_cons_succ])
          refine takeL (i := 5) (v := ?t2v5) (some 106) rfl rfl (by kernel_rfl) (by kernel_rfl) (by kernel_rfl) (by kernel_rfl) (by kernel_rfl) (fun _ _ _ h => h) (Or.inl ⟨by rfl, ?t2h5⟩) (by assumption) ?t2r5
          case t2h5 => (intro y hSu; (try dsimp only at hSu); go_simp; first | done | with_reducible rfl)
          (try simp only [Act.put, List.setIfInBounds_toArray, List.set_cons_zero, List.set_cons_succ])
          refine readyL (i := 3) (by kernel_rfl) rfl (fun K hK => ?_)
          go_simp
          refine (unhide CL _ (below_drewN (unhide HB8) 1)).mono ?_
          rintro e w9 ⟨rfl, hb9⟩
          have HB9 : Hid (Below W1.heap.size W1 w9) := (below_drewN (unhide HB8) 1).trans ((unhide hb9).mono (below_drewN (unhide HB8) 1).size)
          clear CL hb9 HB8
          have HO := hide (unhide HX w9 (unhide HB9))
          (try dsimp only)
          refine hK.out _ _ (fun _ => (And.intro (unhide HO).2.2.1 (unhide HO).1)) ?_
          clear hK K
          (try simp only [Act.put, List.setIfInBounds_toArray, List.set_cons_zero, List.set_cons_succ])
          have hH4 := (And.intro (unhide HO).2.2.1 (unhide HO).1)
          refine takeL (i := 6) (v := ?t5v6) (some 107) rfl rfl (by kernel_rfl) (by kernel_rfl) (by kernel_rfl) (by kernel_rfl) (by kernel_rfl) (fun _ _ _ h => h) (Or.inl ⟨by rfl, ?t5h6⟩) (by assumption) ?t5r6
          case t5h6 => (intro y hSu; (try dsimp only at hSu); go_simp; first | done | with_reducible rfl)
          (try simp only [Act.put, List.setIfInBounds_toArray, List.set_cons_zero, List.set_cons_succ])
          refine doneL (by kernel_rfl) ?_ _
          refine NoPanic.normal ?_
          clear o0 o1 o2 o3 hHeld
          obtain ⟨o0, o1, o2, o3⟩ := unhide HO
          by_cases hev : ev = x.1
          · obtain ⟨gb, gs⟩ := unhide HG3 hev
            obtain ⟨n', hn'⟩ : ∃ n', n' = n + 1 := ⟨_, rfl⟩
            have zn : Hid (wrap64 ((n : Int) + 1) = (n' : Int)) := by
              show wrap64 ((n : Int) + 1) = (n' : Int)
              have := unhide HNB
              unfold wrap64; omega
            have HJ2 : Hid (n' = usedN ys ds (es.take j) ∧ Below w3.heap.size w3 w9) := ⟨by rw [unhide HU2, if_pos hev, hn'], (unhide HB1).trans ((unhide HB9).mono (unhide HB1).size)⟩
            have zs : (x.2.2.1 == s) = false := by simpa using gs
            subst gb hev
            clear HX HU2 HNB HB1 HB9 HO HG3 gs hn'
            go_wp2_with fail
            (try rw [unhide zw])
            (try rw [unhide zn])
            exact ⟨⟨j, n', by first | rfl | (rw [(unhide HJ).1]; rfl), rfl, (unhide HJ).2.2, (unhide HJ2).1, (unhide HJ2).2⟩, by have := unhide HJ; simp [intOf]; omega⟩
          · have HJ2 : Hid (n = usedN ys ds (es.take j) ∧ Below w3.heap.size w3 w9) := ⟨by rw [unhide HU2, if_neg hev]; rfl, (unhide HB1).trans ((unhide HB9).mono (unhide HB1).size)⟩
            have ze : (ev == x.1) = false := by simpa using hev
            clear HX HU2 HNB HB1 HB9 HO HG3 hev
            go_wp2_with fail
            (try rw [unhide zw])
            exact ⟨⟨j, n, by first | rfl | (rw [(unhide HJ).1]; rfl), rfl, (unhide HJ).2.2, (unhide HJ2).1, (unhide HJ2).2⟩, by have := unhide HJ; simp [intOf]; omega⟩
      · have z1 : ¬ (i : Int) < (n2 : Int) := by omega
        have C1 := hide (reachedLT (hT.below i3))
        have hc := hT.count
        rw [List.take_of_length_le (by omega)] at i2
        have HB := hide (t2.trans (i3.mono t2.size))
        have HC : Hid (n + 1 = (nearV ds).length ∧ n ≤ 1000) := ⟨by rw [i2]; exact hc, by
          rw [i2]; unfold usedN
          have := List.countP_le_length (p := usedB ys ds) (l := es)
          omega⟩
        clear HI i1 i2 i3 e1 e2 e3 hT t2 t3 hlt hc
        go_wp2_with fail
        refine (unhide C1).mono ?_
        rintro e w6 ⟨a6, n6, c6, rfl, H6⟩
        obtain ⟨q1, q2⟩ := unhide H6
        have h6 : n6 = n + 1 := by
          obtain ⟨_, _, e, -⟩ := brow_shape q1
          injection e with _ e2 _
          rw [e2, (unhide HC).1]
        have HB6 := hide ((unhide HB).trans (q2.mono (unhide HB).size))
        have zs : Hid (wrap64 ((n6 : Int) - 1) = (n : Int)) := by
          show wrap64 ((n6 : Int) - 1) = (n : Int)
          have := (unhide HC).2
          unfold wrap64; omega
        clear C1 H6 q1 q2 HB HC h6 z1
        go_wp2_with fail
        go_ret
        exact ⟨by (try rw [unhide zs]); first | rfl | simp, unhide HB6⟩
  · have HB3 : Hid (Below w.heap.size w w3 ∧ po = none) := by
      obtain ⟨ys, q1, q2, q3, q4, q5⟩ := unhide H3
      rcases q5 with ⟨-, z⟩ | ⟨z, -⟩
      · exact ⟨(unhide HE).2.2.2.trans (q3.mono (unhide HE).2.2.2.size), z⟩
      · exact absurd z her
    obtain rfl := (unhide HB3).2
    have z0 : (er != 0) = true := by simpa using her
    clear H3 HE HK her
    go_wp2_with fail
    go_ret
    exact ⟨rfl, (unhide HB3).1⟩
end Go.Proofs.Ytijgeoegeeejcaa
