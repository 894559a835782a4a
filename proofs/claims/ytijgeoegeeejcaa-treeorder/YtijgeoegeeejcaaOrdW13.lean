/- TreeOrder, walked. -/
import Derived.Test.YtijgeoegeeejcaaDists13
namespace Go.Proofs.Ytijgeoegeeejcaa
open Go.RowKit Go.Maps
theorem rev_drop {X : Type} {l : List X} {m : Nat} {x : X} (h : l[m]? = some x) : (l.drop m).reverse = (l.drop (m + 1)).reverse ++ [x] := by
  obtain ⟨h1, h2⟩ := List.getElem?_eq_some_iff.1 h
  rw [List.drop_eq_getElem_cons h1, h2, List.reverse_cons]
set_option maxHeartbeats 8000000 in
set_option maxRecDepth 100000 in
theorem order_any [Inhabited EntF] {w : World} {a0 a1 : Option Addr} {len0 cap0 len1 cap1 : Nat} {z : Nat → Int} {o : Nat → EdV} (s : Int) (h0 : IsIntsC w a0 len0 cap0 z) (h1 : IsEdsC w a1 len1 cap1 o) (hb0 : len0 < 1000000000000000000) (hb1 : len1 < 1000000000000000000) :
    Calls Try.prog 5 #[.slice a0 len0 cap0, .slice a1 len1 cap1, .int .i64 s] w fun e w' => e = .returned (.bool true) ∧ Below w.heap.size w w' := by
  have CA := hide (awakeS w)
  have CC : Hid (∀ W, Below w.heap.size w W → Calls Try.prog 9 #[.slice a0 len0 cap0, .slice a1 len1 cap1] W fun e w' => Hid (∃ v1 v2, e = .returned (.tuple #[v1, v2]) ∧ CutAns W ((List.range (min len0 40)).map z) ((List.range (min len1 160)).map o) v1 v2 w')) := fun W hW => cutS ⟨isInts_below h0.1 hW, h0.2⟩ (isEds_below h1 hW) hb0 hb1
  have hk1 : ((List.range (min len0 40)).map z).length ≤ 1000 := by simp; omega
  have hk2 : ((List.range (min len1 160)).map o).length ≤ 1000 := by simp; omega
  generalize (List.range (min len0 40)).map z = ks at *
  generalize (List.range (min len1 160)).map o = es at *
  have HK : Hid (ks.length ≤ 1000 ∧ es.length ≤ 1000) := ⟨hk1, hk2⟩
  clear h0 h1 hb0 hb1 hk1 hk2
  go_enter Try.func5, Try.ntmps5
  go_wp2_with fail
  refine (unhide CA).mono ?_
  rintro e w1 ⟨rfl, hb1⟩
  have CC2 := hide (unhide CC w1 (unhide hb1))
  clear CA CC
  go_wp2_with fail
  refine (unhide CC2).mono ?_
  intro e w2 H2
  obtain ⟨v1, v2, rfl, c1, c2, c3, -⟩ := unhide H2
  obtain ⟨x1, r1, rfl, -⟩ := brow_shape c2
  obtain ⟨x2, r2, rfl⟩ := rrow_shape c3
  have hB2 : Below w.heap.size w w2 := (unhide hb1).trans (c1.mono (unhide hb1).size)
  obtain ⟨n1, hn1⟩ : ∃ n1, n1 = ks.length := ⟨_, rfl⟩
  obtain ⟨n2, hn2⟩ : ∃ n2, n2 = es.length := ⟨_, rfl⟩
  rw [← hn2] at c3
  rw [← hn1] at c2
  have HE : Hid (ERow 0 w2 (.slice x2 n2 r2) es ∧ n2 = es.length ∧ n2 ≤ 1000 ∧ Below w.heap.size w w2) := ⟨rrow_low c3 (Nat.zero_le _), hn2, by have := (unhide HK).2; omega, hB2⟩
  have HV : Hid (NRow w2 (.slice x1 n1 r1) ks ∧ n1 = ks.length ∧ n1 ≤ 1000) := ⟨brow_at0 c2, hn1, by have := (unhide HK).1; omega⟩
  obtain ⟨ii, hii⟩ : ∃ ii : Int, ii = (n1 : Int) - 1 := ⟨_, rfl⟩
  have zi : Hid (wrap64 ((n1 : Int) - 1) = ii) := by show wrap64 ((n1 : Int) - 1) = ii; have := (unhide HV).2.2; unfold wrap64; omega
  have HII := hide hii
  rw [← hn1, ← hn2]
  clear CC2 H2 c1 c2 c3 hB2 hb1 hn1 hn2 hii
  go_wp2_with fail
  rw [unhide zi]
  go_loopw [9, 7] (fun s9 s7 wr => ∃ (i : Int) (k : Nat) (y : Option Addr) (yn yc : Nat), s9 = .int .i64 i ∧ s7 = .slice y yn yc ∧ Hid (i = (k : Int) - 1 ∧ k ≤ n1 ∧ BRow w2.heap.size wr (.slice y yn yc) ((ks.drop k).reverse) ∧ Below w2.heap.size w2 wr)) (fun s9 _ _ => (intOf s9 + 1).toNat)
  case atStart => exact ⟨ii, n1, none, 0, 0, rfl, rfl, unhide HII, Nat.le_refl _, by rw [(unhide HV).2.1, List.drop_length]; exact ⟨rfl, .inl ⟨rfl, rfl⟩⟩, Below.refl _ _⟩
  case round =>
    clear HII zi
    obtain ⟨i, k, y, yn, yc, rfl, rfl, HI⟩ := hrel
    obtain ⟨i1, i2, i3, i4⟩ := unhide HI
    obtain ⟨e1, e2, e3, -⟩ := unhide HE
    obtain ⟨v1, v2, v3⟩ := unhide HV
    by_cases hk0 : k = 0
    · have ei : i = -1 := by omega
      subst ei
      rw [hk0, List.drop_zero] at i3
      obtain ⟨wL, hwL⟩ : ∃ wL, wL = wr := ⟨_, rfl⟩
      subst hwL
      have HL : Hid (BRow w2.heap.size wL (.slice y yn yc) ks.reverse ∧ Below w2.heap.size w2 wL) := ⟨i3, i4⟩
      obtain ⟨jj, hjj⟩ : ∃ jj : Int, jj = (n2 : Int) - 1 := ⟨_, rfl⟩
      have zj : Hid (wrap64 ((n2 : Int) - 1) = jj) := by show wrap64 ((n2 : Int) - 1) = jj; unfold wrap64; omega
      have HJJ := hide hjj
      clear HI i1 i2 i3 i4 e1 e2 e3 v1 v2 v3 hk0 hjj
      go_wp2_with fail
      rw [unhide zj]
      go_loopw [10, 8] (fun s10 s8 wr => ∃ (i : Int) (k : Nat) (y : Option Addr) (yn yc : Nat), s10 = .int .i64 i ∧ s8 = .slice y yn yc ∧ Hid (i = (k : Int) - 1 ∧ k ≤ n2 ∧ ERow wL.heap.size wr (.slice y yn yc) ((es.drop k).reverse) ∧ Below wL.heap.size wL wr)) (fun s10 _ _ => (intOf s10 + 1).toNat)
      case atStart => exact ⟨jj, n2, none, 0, 0, rfl, rfl, unhide HJJ, Nat.le_refl _, by rw [(unhide HE).2.1, List.drop_length]; exact ⟨rfl, .inl ⟨rfl, rfl⟩⟩, Below.refl _ _⟩
      case round =>
        clear HJJ zj
        obtain ⟨i, k, yf, ynf, ycf, rfl, rfl, HI⟩ := hrel
        obtain ⟨i1, i2, i3, i4⟩ := unhide HI
        obtain ⟨e1, e2, e3, -⟩ := unhide HE
        obtain ⟨l1, l2⟩ := unhide HL
        have hB : Below w2.heap.size w2 wr := l2.trans (i4.mono l2.size)
        by_cases hk0 : k = 0
        · have ei : i = -1 := by omega
          subst ei
          rw [hk0, List.drop_zero] at i3
          have hks := nrow_below (unhide HV).1 hB
          have hes := rrow_below e1 hB
          have hws : NRow wr (.slice y yn yc) ks.reverse := brow_at0 (brow_kept l1 (fun b e => i4.block b (l1.lt b e).2))
          have hfs : ERow 0 wr (.slice yf ynf ycf) es.reverse := rrow_low i3 (Nat.zero_le _)
          have C1 := hide (buildS (s := s) hks hes (unhide HK).1 (unhide HK).2)
          have HR2 : Hid (NRow wr (.slice y yn yc) ks.reverse ∧ ERow 0 wr (.slice yf ynf ycf) es.reverse ∧ Below w.heap.size w wr) := ⟨hws, hfs, (unhide HE).2.2.2.trans (hB.mono (unhide HE).2.2.2.size)⟩
          clear HI i1 i2 i3 i4 e1 e2 e3 l1 l2 hB hk0 hks hes hws hfs HL
          go_wp2_with fail
          refine (unhide C1).mono ?_
          rintro e w3 ⟨po, er, rfl, H3⟩
          clear C1
          obtain ⟨ys, HY, her⟩ : ∃ ys, Hid (ys.Perm ks ∧ ys.Pairwise (· ≤ ·) ∧ Below wr.heap.size wr w3 ∧ er = faultC ys es s) ∧ ((er ≠ 0 ∧ po = none) ∨ (er = 0 ∧ ∃ p ds fs, po = some ⟨p, 0, none⟩ ∧ Hid (TreeAt wr.heap.size w3 p s ys es ds fs))) := by
            obtain ⟨ys, q1, q2, q3, q4, q5⟩ := unhide H3
            exact ⟨ys, ⟨q1, q2, q3, q4⟩, q5⟩
          have C2 := hide (buildS (s := s) (nrow_below (unhide HR2).1 (unhide HY).2.2.1) (rrow_below (unhide HR2).2.1 (unhide HY).2.2.1) (by rw [List.length_reverse]; exact (unhide HK).1) (by rw [List.length_reverse]; exact (unhide HK).2))
          clear H3
          go_wp2_with fail
          refine (unhide C2).mono ?_
          rintro e w4 ⟨po2, er2, rfl, H4⟩
          clear C2
          obtain ⟨rfl, HY2, her2⟩ : er2 = er ∧ Hid (Below w.heap.size w w4 ∧ Below w3.heap.size w3 w4) ∧ ((er ≠ 0 ∧ po2 = none) ∨ (er = 0 ∧ ∃ p ds fs, po2 = some ⟨p, 0, none⟩ ∧ Hid (TreeAt w3.heap.size w4 p s ys es.reverse ds fs))) := by
            obtain ⟨ys', q1, q2, q3, q4, q5⟩ := unhide H4
            obtain ⟨y1, y2, y3, y4⟩ := unhide HY
            have hys : ys' = ys := srt_eq (q1.trans ((List.reverse_perm ks).trans y1.symm)) q2 y2
            subst hys
            have he : er2 = er := by rw [q4, y4]; exact fault_perm (List.reverse_perm es)
            subst he
            have hb3 : Below w.heap.size w w3 := (unhide HR2).2.2.trans (y3.mono (unhide HR2).2.2.size)
            exact ⟨rfl, ⟨hb3.trans (q3.mono hb3.size), q3⟩, q5⟩
          clear H4
          rcases her with ⟨z0, rfl⟩ | ⟨rfl, p, ds, fs, rfl, HT⟩
          · obtain rfl : po2 = none := by
              rcases her2 with ⟨-, e⟩ | ⟨e, -⟩
              · exact e
              · exact absurd e z0
            have z1 : (er2 != 0) = true := by simpa using z0
            have z2 : (er2 == 0) = false := by simpa using z0
            have HB := hide (unhide HY2).1
            clear her2 z0 HY HY2 HR2 HE HV HK
            go_wp2_with fail
            go_ret
            exact ⟨rfl, unhide HB⟩
          · obtain ⟨p2, ds2, fs2, rfl, HT2⟩ : ∃ p2 ds2 fs2, po2 = some ⟨p2, 0, none⟩ ∧ Hid (TreeAt w3.heap.size w4 p2 s ys es.reverse ds2 fs2) := by
              rcases her2 with ⟨e, -⟩ | ⟨-, e⟩
              · exact absurd rfl e
              · exact e
            have C3 := hide (distsT ((unhide HT).below (unhide HY2).2))
            have HS : Hid (∀ i, i < ys.length → ∃ v f b e1 e2, ds[i]? = some (v, f, b, e1) ∧ ds2[i]? = some (v, f, b, e2)) := fun i hi => order_same (unhide HT) (unhide HT2) (List.reverse_perm es).symm i hi
            have HN : Hid (ds.length = ys.length ∧ ds2.length = ys.length ∧ ys.length ≤ 1000) := ⟨(unhide HT).dl, (unhide HT2).dl, (unhide HT).gk.len⟩
            have HB4 := hide (unhide HY2).1
            clear her2 HY HY2 HR2 HE HV HK HT
            go_wp2_with fail
            refine (unhide C3).mono ?_
            rintro e w5 ⟨a5, n5, c5, rfl, H5⟩
            have C4 := hide (distsT ((unhide HT2).below (unhide H5).2))
            clear C3 HT2
            go_wp2_with fail
            refine (unhide C4).mono ?_
            rintro e w6 ⟨a6, n6, c6, rfl, H6⟩
            clear C4
            obtain ⟨n, q5, q6, HD⟩ : ∃ n, n = n5 ∧ n = n6 ∧ Hid (DRow 0 w6 (.slice a5 n c5) ds ∧ DRow 0 w6 (.slice a6 n c6) ds2 ∧ Below w.heap.size w w6 ∧ n = ys.length ∧ n ≤ 1000) := by
              obtain ⟨d1, d2⟩ := unhide H5
              obtain ⟨f1, f2⟩ := unhide H6
              obtain ⟨u1, u2, u3⟩ := unhide HN
              have q1 := rrow_len d1
              have q2 := rrow_len f1
              have q3 : n6 = n5 := by omega
              subst q3
              have hb5 := (unhide HB4).trans (d2.mono (unhide HB4).size)
              exact ⟨n6, rfl, rfl, rrow_low (rrow_below d1 f2) (Nat.zero_le _), rrow_low f1 (Nat.zero_le _), hb5.trans (f2.mono hb5.size), by omega, by omega⟩
            subst q5
            subst q6
            clear H5 H6 HN HB4
            go_wp2_with fail
            obtain ⟨wD, hwD⟩ : ∃ wD, wD = w6 := ⟨_, rfl⟩
            subst hwD
            go_loopw [98] (fun s98 wr => ∃ (i : Nat), s98 = .int .i64 i ∧ Hid (i ≤ n ∧ ∃ q, wr = wD.drewN q)) (fun s98 _ => n - (intOf s98).toNat)
            case atStart => exact ⟨0, rfl, Nat.zero_le _, 0, rfl⟩
            case round =>
              obtain ⟨i, rfl, HI⟩ := hrel
              obtain ⟨i1, q, rfl⟩ := unhide HI
              obtain ⟨d1, d2, d3, d4, d5⟩ := unhide HD
              by_cases hlt : i < n
              · obtain ⟨v, f, b, e1, e2, h1, h2⟩ := unhide HS i (by omega)
                obtain ⟨gA, rfl⟩ := rrow_some d1 (by have := (List.getElem?_eq_some_iff.1 h1).1; omega)
                obtain ⟨gB, rfl⟩ := rrow_some d2 (by have := (List.getElem?_eq_some_iff.1 h2).1; omega)
                obtain ⟨k0, k1, k2, -⟩ := drow_at d1 h1
                obtain ⟨m0, m1, m2, -⟩ := drow_at d2 h2
                obtain ⟨j, hj⟩ : ∃ j, j = i + 1 := ⟨_, rfl⟩
                have zw : Hid (wrap64 ((i : Int) + 1) = (j : Int)) := by show wrap64 ((i : Int) + 1) = (j : Int); unfold wrap64; omega
                have HJ : Hid (j = i + 1 ∧ n - j < n - i ∧ j ≤ n) := ⟨hj, by omega, by omega⟩
                have z1 : (i : Int) < (n : Int) := by omega
                (try dsimp only at k0 k1 k2 m0 m1 m2)
                clear HI i1 d1 d2 d3 d4 d5 hlt h1 h2 hj
                go_upto_region 26 with fail
                go_quiet (fail)
                go_wp2_with fail
                (try rw [unhide zw])
                exact ⟨⟨j, by first | rfl | (rw [(unhide HJ).1]; rfl), (unhide HJ).2.2, _, by first | rfl | simp [World.drewN]⟩, by have := unhide HJ; simp [intOf]; omega⟩
              · have z1 : ¬ (i : Int) < (n : Int) := by omega
                have HB := hide (below_drewN d3 q)
                clear HI i1 d1 d2 d3 d4 d5 hlt HD HS
                go_wp2_with fail
                go_ret
                exact ⟨rfl, unhide HB⟩
        · obtain ⟨m, rfl⟩ : ∃ m, k = m + 1 := ⟨k - 1, by omega⟩
          have ei : i = (m : Int) := by omega
          subst ei
          obtain ⟨x, hx⟩ : ∃ x, es[m]? = some x := ⟨_, List.getElem?_eq_getElem (by omega)⟩
          have hrow := rrow_below e1 hB
          obtain ⟨g1, rfl⟩ := rrow_some hrow (by omega)
          obtain ⟨d0, d1, d2, d3⟩ := erow_at hrow hx
          obtain ⟨a', n', c', w', r, g1', g2, -⟩ := run_app1 (ts := 23) kitE Try.underlying23 infoED rfl (by omega) x (cs := #[.int .i64 x.1, .int .i64 x.2.1, .int .i64 x.2.2.1, .int .u32 x.2.2.2]) rfl i3 i4.size (by rw [List.length_reverse, List.length_drop]; omega)
          have HR := hide r
          obtain ⟨i', hi'⟩ : ∃ i' : Int, i' = (m : Int) - 1 := ⟨_, rfl⟩
          have zw : Hid (wrap64 ((m : Int) - 1) = i') := by show wrap64 ((m : Int) - 1) = i'; unfold wrap64; omega
          have HJ : Hid (i' = (m : Int) - 1 ∧ m ≤ n2 ∧ ERow wL.heap.size w' (.slice a' n' c') ((es.drop m).reverse) ∧ Below wL.heap.size wL w') := ⟨hi', by omega, by rw [rev_drop hx]; exact g1', i4.trans (g2.below i4.size (fun b e => (i3.lt b e).1))⟩
          have z1 : (m : Int) < (n2 : Int) := by omega
          clear HI i1 i2 i3 i4 e1 e2 e3 l1 l2 hB hk0 hx hrow r g1' g2 hi' HL
          go_wp2_with (at_builtin; refine Lib.wpList_append_run _ rfl _ _ 23 23 rfl _ _ rfl rfl _ _ (unhide HR _) ?_)
          (try rw [unhide zw])
          exact ⟨⟨i', m, a', n', c', rfl, rfl, unhide HJ⟩, by have := (unhide HJ).1; simp [intOf]; omega⟩
    · obtain ⟨m, rfl⟩ : ∃ m, k = m + 1 := ⟨k - 1, by omega⟩
      have ei : i = (m : Int) := by omega
      subst ei
      obtain ⟨x, hx⟩ : ∃ x, ks[m]? = some x := ⟨_, List.getElem?_eq_getElem (by omega)⟩
      have hrow := nrow_below v1 i4
      obtain ⟨g1, rfl⟩ := brow_some hrow (by omega)
      have kv := brow_at hrow hx
      obtain ⟨a', n', c', w', r, g1', g2, -⟩ := run_app8 x i3 i4.size (by rw [List.length_reverse, List.length_drop]; omega)
      have HR := hide r
      obtain ⟨i', hi'⟩ : ∃ i' : Int, i' = (m : Int) - 1 := ⟨_, rfl⟩
      have zw : Hid (wrap64 ((m : Int) - 1) = i') := by show wrap64 ((m : Int) - 1) = i'; unfold wrap64; omega
      have HJ : Hid (i' = (m : Int) - 1 ∧ m ≤ n1 ∧ BRow w2.heap.size w' (.slice a' n' c') ((ks.drop m).reverse) ∧ Below w2.heap.size w2 w') := ⟨hi', by omega, by rw [rev_drop hx]; exact g1', i4.trans (g2.below i4.size (fun b e => (i3.lt b e).1))⟩
      have z1 : (m : Int) < (n1 : Int) := by omega
      clear HI i1 i2 i3 i4 e1 e2 e3 v1 v2 v3 hk0 hx hrow r g1' g2 hi'
      go_wp2_with (at_builtin; refine Lib.wpList_append_run _ rfl _ _ 22 22 rfl _ _ rfl rfl _ _ (unhide HR _) ?_)
      (try rw [unhide zw])
      exact ⟨⟨i', m, a', n', c', rfl, rfl, unhide HJ⟩, by have := (unhide HJ).1; simp [intOf]; omega⟩
end Go.Proofs.Ytijgeoegeeejcaa
