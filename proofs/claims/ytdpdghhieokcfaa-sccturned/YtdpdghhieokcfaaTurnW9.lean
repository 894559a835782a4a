/- SccTurned walked. -/
import Derived.Test.YtdpdghhieokcfaaTurnM9
namespace Go.Proofs.Ytdpdghhieokcfaa
open Go.RowKit Go.Maps T9
set_option maxHeartbeats 16000000 in
set_option maxRecDepth 100000 in
theorem turnS [Inhabited EntI] {w : World} {a0 a1 : Option Addr} {len0 cap0 len1 cap1 : Nat} {z : Nat → Int} {o : Nat → Int × Int} (h0 : IsIntsC w a0 len0 cap0 z) (h1 : IsArcsC w a1 len1 cap1 o) (hb0 : len0 < 1000000000000000000) (hb1 : len1 < 1000000000000000000) :
    Calls Try.prog 5 #[.slice a0 len0 cap0, .slice a1 len1 cap1] w fun e w' => e = .returned (.bool true) ∧ Below w.heap.size w w' := by
  have CA := hide (awakeS w)
  have HI := hide (And.intro h0 (And.intro h1 (And.intro hb0 hb1)))
  clear h0 h1 hb0 hb1
  go_enter Try.func5, Try.ntmps5
  go_wp2_with fail
  refine (unhide CA).mono ?_
  rintro e w1 ⟨rfl, hB1⟩
  clear CA
  have CC : Hid (Calls Try.prog 9 #[.slice a0 len0 cap0, .slice a1 len1 cap1] w1 fun e w' => Hid (∃ v1 v2, e = .returned (.tuple #[v1, v2]) ∧ CutAns w1 ((List.range (min len0 60)).map z) ((List.range (min len1 240)).map o) v1 v2 w')) := by
    obtain ⟨h0, h1, hb0, hb1⟩ := unhide HI
    exact cutS ⟨isInts_below h0.1 (unhide hB1), h0.2⟩ (isArcs_below h1 (unhide hB1)) hb0 hb1
  go_wp2_with fail
  refine (unhide CC).mono ?_
  intro r w2 hh
  obtain ⟨v1, v2, rfl, hCut⟩ := unhide hh
  clear CC hh HI
  obtain ⟨ks, hks, hkl⟩ : ∃ ks, ks = (List.range (min len0 60)).map z ∧ ks.length ≤ 60 := ⟨_, rfl, by simp; omega⟩
  obtain ⟨l, hl, hll⟩ : ∃ l, l = (List.range (min len1 240)).map o ∧ l.length ≤ 240 := ⟨_, rfl, by simp; omega⟩
  rw [← hks, ← hl] at hCut
  have hRG : RG w1 ks l v1 v2 w2 := hCut
  obtain ⟨x1, c1, e1, -⟩ := brow_shape hRG.2.1
  obtain ⟨x2, c2, e2, -⟩ := abrow_shape hRG.2.2.1
  obtain ⟨n1, hn1⟩ : ∃ n1, n1 = ks.length := ⟨_, rfl⟩
  obtain ⟨n2, hn2⟩ : ∃ n2, n2 = l.length := ⟨_, rfl⟩
  rw [← hn1] at e1
  rw [← hn2] at e2
  subst e1 e2
  have HT : Hid (TG w1 ks l (ks.drop n1).reverse [] [] (.slice x1 n1 c1) (.slice x2 n2 c2) (.slice none 0 0) (.slice none 0 0) (.slice none 0 0) w2) := by
    have := TG.start hRG
    have e0 : (ks.drop n1).reverse = [] := by rw [hn1, List.drop_length]; rfl
    show TG _ _ _ _ _ _ _ _ _ _ _ _
    rw [e0]; exact this
  have HN := hide (And.intro hn1 (And.intro hn2 (And.intro hkl hll)))
  have HBW : Hid (Below w.heap.size w w1) := unhide hB1
  have zi : Hid (wrap64 ((n1 : Int) - 1) = (n1 : Int) - 1) := by show wrap64 ((n1 : Int) - 1) = (n1 : Int) - 1; unfold wrap64; omega
  clear hRG hCut hks hl hkl hll hn1 hn2 hB1
  go_upto_region 7 with fail
  go_loopw [8, 5] (fun s8 s5 wr => ∃ (k : Nat) (i : Int) (y : Option Addr) (yn yc : Nat), s8 = .int .i64 i ∧ s5 = .slice y yn yc ∧ Hid (i = (k : Int) - 1 ∧ k ≤ n1 ∧ TG w1 ks l (ks.drop k).reverse [] [] (.slice x1 n1 c1) (.slice x2 n2 c2) (.slice y yn yc) (.slice none 0 0) (.slice none 0 0) wr)) (fun s8 _ _ => (intOf s8 + 1).toNat)
  case atStart => exact ⟨n1, wrap64 ((n1 : Int) - 1), none, 0, 0, rfl, rfl, unhide zi, Nat.le_refl _, HT⟩
  case round =>
    obtain ⟨k, i, y, yn, yc, rfl, rfl, hR⟩ := hrel
    obtain ⟨hi, hkn, hT⟩ := unhide hR
    obtain ⟨q1, q2, q3, q4⟩ := unhide HN
    clear hR HT zi
    rcases k with _ | j
    · obtain rfl : i = -1 := by omega
      have HT := hide hT
      have z1 : ¬ (0 : Int) ≤ -1 := by omega
      have zi : Hid (wrap64 ((n2 : Int) - 1) = (n2 : Int) - 1) := by show wrap64 ((n2 : Int) - 1) = (n2 : Int) - 1; unfold wrap64; omega
      clear hT hi hkn q1 q2 q3 q4
      have HS : Hid (TG w1 ks l ks.reverse (twos (l.drop n2).reverse) (abouts (l.drop n2).reverse) (.slice x1 n1 c1) (.slice x2 n2 c2) (.slice y yn yc) (.slice none 0 0) (.slice none 0 0) wr) := by
        have e0 : (l.drop n2).reverse = [] := by rw [(unhide HN).2.1, List.drop_length]; rfl
        show TG _ _ _ _ _ _ _ _ _ _ _ _
        rw [e0]; exact unhide HT
      clear HT
      go_upto_region 11 with fail
      clear z1
      go_loopw [9, 6, 7] (fun s9 s6 s7 wr => ∃ (k : Nat) (i : Int) (y6 y7 : Option Addr) (n6 c6 n7 c7 : Nat), s9 = .int .i64 i ∧ s6 = .slice y6 n6 c6 ∧ s7 = .slice y7 n7 c7 ∧ Hid (i = (k : Int) - 1 ∧ k ≤ n2 ∧ TG w1 ks l ks.reverse (twos (l.drop k).reverse) (abouts (l.drop k).reverse) (.slice x1 n1 c1) (.slice x2 n2 c2) (.slice y yn yc) (.slice y6 n6 c6) (.slice y7 n7 c7) wr)) (fun s9 _ _ _ => (intOf s9 + 1).toNat)
      case atStart => exact ⟨n2, wrap64 ((n2 : Int) - 1), none, none, 0, 0, 0, 0, rfl, rfl, rfl, unhide zi, Nat.le_refl _, HS⟩
      case round =>
        obtain ⟨k, i, y6, y7, n6, c6, n7, c7, rfl, rfl, rfl, hR⟩ := hrel
        obtain ⟨hi, hkn, hT⟩ := unhide hR
        obtain ⟨q1, q2, q3, q4⟩ := unhide HN
        clear hR HS zi
        rcases k with _ | j
        · obtain rfl : i = -1 := by omega
          have HT : Hid (TG w1 ks l ks.reverse (twos l.reverse) (abouts l.reverse) (.slice x1 n1 c1) (.slice x2 n2 c2) (.slice y yn yc) (.slice y6 n6 c6) (.slice y7 n7 c7) wr) := hT
          have z1 : ¬ (0 : Int) ≤ -1 := by omega
          have CO1 := hide (ofT hT.r1 hT.r2 (by omega) (by omega))
          clear hT hi hkn q1 q2 q3 q4
          go_wp2_with fail
          refine (unhide CO1).mono ?_
          intro r w3 hh
          obtain ⟨va, ca, A, rfl, hA, lA, b3⟩ := unhide hh
          clear CO1 hh
          have HL : Hid (ks.length ≤ 1000 ∧ l.length ≤ 1000 ∧ ks.reverse.length ≤ 1000 ∧ (twos l.reverse).length ≤ 1000 ∧ (abouts l.reverse).length ≤ 1000) := by
            obtain ⟨q1, q2, q3, q4⟩ := unhide HN
            refine ⟨by omega, by omega, by rw [List.length_reverse]; omega, by rw [twos_len, List.length_reverse]; omega, by rw [abouts_len, List.length_reverse]; omega⟩
          have HT3 := hide ((unhide HT).below b3)
          have HA : Hid (OfA ks l ca A ∧ LLr w3 va A) := ⟨hA, lA⟩
          have CO2 := hide (ofT (unhide HT3).r3 (unhide HT3).r4 (unhide HL).2.2.1 (unhide HL).2.2.2.1)
          clear hA lA b3 HT
          go_wp2_with fail
          refine (unhide CO2).mono ?_
          intro r w4 hh
          obtain ⟨vb, cb, B, rfl, hB, lB, b4⟩ := unhide hh
          clear CO2 hh
          obtain ⟨hA, lA⟩ := unhide HA
          obtain ⟨ecb, eB⟩ := of_twice hA hB
          subst ecb eB
          have HT4 := hide ((unhide HT3).below b4)
          have HA4 : Hid (OfA ks l ca A ∧ LLr w4 va A ∧ LLr w4 vb A) := ⟨hA, llr_below lA b4, lB⟩
          have CO3 := hide (ofT (unhide HT4).r1 (unhide HT4).r5 (unhide HL).1 (unhide HL).2.2.2.2)
          clear hA lA hB lB b4 HT3 HA
          go_wp2_with fail
          refine (unhide CO3).mono ?_
          intro r w5 hh
          obtain ⟨vc, cc, C, rfl, hC, lC, b5⟩ := unhide hh
          clear CO3 hh
          obtain ⟨hA, lA, lB⟩ := unhide HA4
          obtain ⟨ecc, eC⟩ := of_about hA hC
          subst ecc eC
          have HT5 := hide ((unhide HT4).below b5)
          have HA5 : Hid (OfA ks l ca A ∧ LLr w5 va A ∧ LLr w5 vb A ∧ LLr w5 vc A) := ⟨hA, llr_below lA b5, llr_below lB b5, lC⟩
          have CO4 := hide (orderT (unhide HT5).r1 (unhide HT5).r2 (unhide HL).1 (unhide HL).2.1)
          clear hA lA lB hC lC b5 HT4 HA4
          go_wp2_with fail
          refine (unhide CO4).mono ?_
          intro r w6 hh
          obtain ⟨vx, cx, X, rfl, hX, lX, b6⟩ := unhide hh
          clear CO4 hh
          obtain ⟨hA, lA, lB, lC⟩ := unhide HA5
          have ecx := of_or hA hX
          subst ecx
          have HT6 := hide ((unhide HT5).below b6)
          have HA6 : Hid (OfA ks l ca A ∧ LLr w6 va A ∧ LLr w6 vb A ∧ LLr w6 vc A ∧ OrA ks l ca X ∧ NRow w6 vx X) := ⟨hA, llr_below lA b6, llr_below lB b6, llr_below lC b6, hX, lX⟩
          have CO5 := hide (orderT (unhide HT6).r3 (unhide HT6).r4 (unhide HL).2.2.1 (unhide HL).2.2.2.1)
          clear hA lA lB lC hX lX b6 HT5 HA5
          go_wp2_with fail
          refine (unhide CO5).mono ?_
          intro r w7 hh
          obtain ⟨vy, cy, Y, rfl, hY, lY, b7⟩ := unhide hh
          clear CO5 hh
          obtain ⟨hA, lA, lB, lC, hX, lX⟩ := unhide HA6
          obtain ⟨ecy, eY⟩ := or_twice hX hY
          subst ecy eY
          have HEND : Hid (Below w.heap.size w w7) := by
            obtain ⟨L, h0, -⟩ := (unhide HT6).below b7
            exact (unhide HBW).trans (h0.mono (unhide HBW).size)
          have s2 := ofA_len hA (unhide HL).1
          have s3 := orA_len hX (unhide HL).1
          have CS : Hid (Quiet3 w7 va vb vc vx vy) := quiet3 (llr_below lA b7) (llr_below lB b7) (llr_below lC b7) (nrow_below lX b7) lY s2.1 s2.2 s3
          have CS1 : Hid (Calls Try.prog 15 #[va, vb] w7 (fun e w' => e = .returned (.bool true) ∧ ∃ m, w' = w7.drewN m)) := ((unhide CS) 0).1
          clear hA lA lB lC hX lX hY lY b7 HT6 HA6 s2 s3 HL HN HBW
          go_wp2_with fail
          refine (unhide CS1).mono ?_
          rintro e w8 ⟨rfl, m1, rfl⟩
          clear CS1
          go_wp2_with fail
          refine ((unhide CS) m1).2.1.mono ?_
          rintro e w9 ⟨rfl, m2, rfl⟩
          go_wp2_with fail
          refine ((unhide CS) m2).2.2.mono ?_
          rintro e w10 ⟨rfl, m3, rfl⟩
          go_wp2_with fail
          go_ret
          exact ⟨rfl, below_drewN (unhide HEND) _⟩
        · obtain rfl : i = (j : Int) := by omega
          obtain ⟨⟨u, x⟩, hu⟩ : ∃ u, l[j]? = some u := ⟨_, List.getElem?_eq_getElem (by omega)⟩
          obtain ⟨g2, hg2⟩ : ∃ g2, x2 = some ⟨g2, 0, none⟩ := by
            obtain ⟨L, -, -, ⟨h1, -⟩, -⟩ := hT
            exact abrow_some h1 (by omega)
          subst hg2
          have hT1 := hT.below (W' := wr.drew) ⟨rfl, rfl, rfl, Nat.le_refl _, fun _ _ => rfl⟩
          have hT2 := hT1.below (below_new wr.drew (.cells #[.int .i64 u, .int .i64 x, .int .i64 u, .int .i64 x] 47 (0, 0)))
          have hln : (l.drop (j + 1)).reverse.length ≤ 240 := by rw [List.length_reverse, List.length_drop]; omega
          obtain ⟨a5, n5, c5, w5, r5, hT5⟩ := hT2.appT (ad := ⟨wr.drew.heap.size, 0, none⟩) (c := 2) [(u, x), (u, x)] (cells_two (heap_alloc_new _ _)) (by rw [twos_len]; simp only [List.length_cons, List.length_nil]; omega)
          have HR5 : Hid (∀ ty, (Builtin.append_ #[23, 23] ty #[.slice y6 n6 c6, .slice (some ⟨wr.drew.heap.size, 0, none⟩) 2 2]).run Try.prog (wr.drew.alloc (.cells #[.int .i64 u, .int .i64 x, .int .i64 u, .int .i64 x] 47 (0, 0))) = .ok (.slice a5 n5 c5) w5) := r5
          rw [← twos_snoc, ← drop_rev hu] at hT5
          have hT6 := hT5.below (W' := w5.drew) ⟨rfl, rfl, rfl, Nat.le_refl _, fun _ _ => rfl⟩
          have hT7 := hT6.below (below_new w5.drew (oArc x u))
          obtain ⟨a8, n8, c8, w8, r8, hT8⟩ := hT7.appB (ad := ⟨w5.drew.heap.size, 0, none⟩) (c := 1) [(x, u)] (cells_one (heap_alloc_new _ _)) (by rw [abouts_len]; simp only [List.length_cons, List.length_nil]; omega)
          have HR8 : Hid (∀ ty, (Builtin.append_ #[23, 23] ty #[.slice y7 n7 c7, .slice (some ⟨w5.drew.heap.size, 0, none⟩) 1 1]).run Try.prog (w5.drew.alloc (oArc x u)) = .ok (.slice a8 n8 c8) w8) := r8
          rw [← abouts_snoc (l.drop (j + 1)).reverse (u, x), ← drop_rev hu] at hT8
          have f1 := hT1.arcs hu
          have f2 := hT2.arcs hu
          have f5 := hT5.arcs hu
          have f6 := hT6.arcs hu
          have f7 := hT7.arcs hu
          have f8 := hT8.arcs hu
          obtain ⟨i1, hi1⟩ : ∃ i1, i1 = (j : Int) - 1 := ⟨_, rfl⟩
          have zw : Hid (wrap64 ((j : Int) - 1) = i1) := by show wrap64 ((j : Int) - 1) = i1; unfold wrap64; omega
          have HJ : Hid (i1 = (j : Int) - 1 ∧ j ≤ n2 ∧ TG w1 ks l ks.reverse (twos (l.drop j).reverse) (abouts (l.drop j).reverse) (.slice x1 n1 c1) (.slice (some ⟨g2, 0, none⟩) n2 c2) (.slice y yn yc) (.slice a5 n5 c5) (.slice a8 n8 c8) w8) := ⟨hi1, by omega, hT8⟩
          have z1 : (0 : Int) ≤ (j : Int) := by omega
          have z2 : (j : Int) < (n2 : Int) := by omega
          clear hT hT1 hT2 hT5 hT6 hT7 hT8 hu r5 r8 hi hkn hi1 q1 q2 q3 q4 hln
          go_upto_region 13 with fail
          refine wp_region_noPanic ?_
          refine regionL [] (fun y => y.cell? ⟨g2, j * 2, none⟩ = some (.int .i64 u) ∧ y.cell? ⟨g2, j * 2 + 1, none⟩ = some (.int .i64 x)) (by kernel_rfl) f1 (fun hHeld => ?_)
          refine takeL (i := 0) (v := ?t2v0) (some 49) rfl rfl (by kernel_rfl) (by kernel_rfl) (by kernel_rfl) (by kernel_rfl) (by kernel_rfl) (fun _ _ _ h => h) (Or.inl ⟨by rfl, ?t2h0⟩) (by assumption) ?t2r0
          case t2h0 => (intro y hSu; (try dsimp only at hSu); go_simp; first | done | with_reducible rfl)
          (try simp only [Act.put, List.setIfInBounds_toArray, List.set_cons_zero, List.set_cons_succ])
          refine takeL (i := 1) (v := ?t2v1) (some 50) rfl rfl (by kernel_rfl) (by kernel_rfl) (by kernel_rfl) (by kernel_rfl) (by kernel_rfl) (fun _ _ _ h => h) (Or.inl ⟨by rfl, ?t2h1⟩) (by assumption) ?t2r1
          case t2h1 => (intro y hSu; (try dsimp only at hSu); go_simp; first | done | with_reducible rfl)
          (try simp only [Act.put, List.setIfInBounds_toArray, List.set_cons_zero, List.set_cons_succ])
          refine takeL (i := 2) (v := ?t2v2) (some 51) rfl rfl (by kernel_rfl) (by kernel_rfl) (by kernel_rfl) (by kernel_rfl) (by kernel_rfl) (fun _ _ _ h => h) (Or.inl ⟨by rfl, ?t2h2⟩) (by assumption) ?t2r2
          case t2h2 => (intro y hSu; (try dsimp only at hSu); go_simp; first | done | with_reducible rfl)
          (try simp only [Act.put, List.setIfInBounds_toArray, List.set_cons_zero, List.set_cons_succ])
          refine takeL (i := 3) (v := ?t2v3) (some 52) rfl rfl (by kernel_rfl) (by kernel_rfl) (by kernel_rfl) (by kernel_rfl) (by kernel_rfl) (fun _ _ _ h => h) (Or.inl ⟨by rfl, ?t2h3⟩) (by assumption) ?t2r3
          case t2h3 => (intro y hSu; (try dsimp only at hSu); go_simp; first | done | with_reducible rfl)
          (try simp only [Act.put, List.setIfInBounds_toArray, List.set_cons_zero, List.set_cons_succ])
          refine takeL (i := 4) (v := ?t2v4) (some 53) rfl rfl (by kernel_rfl) (by kernel_rfl) (by kernel_rfl) (by kernel_rfl) (by kernel_rfl) (fun _ _ _ h => h) (Or.inl ⟨by rfl, ?t2h4⟩) (by assumption) ?t2r4
          case t2h4 => (intro y hSu; (try dsimp only at hSu); go_simp; first | done | with_reducible rfl)
          (try simp only [Act.put, List.setIfInBounds_toArray, List.set_cons_zero, List.set_cons_succ])
          refine takeL (i := 5) (v := ?t2v5) (some 54) rfl rfl (by kernel_rfl) (by kernel_rfl) (by kernel_rfl) (by kernel_rfl) (by kernel_rfl) (fun _ _ _ h => h) (Or.inl ⟨by rfl, ?t2h5⟩) (by assumption) ?t2r5
          case t2h5 => (intro y hSu; (try dsimp only at hSu); go_simp; first | done | with_reducible rfl)
          (try simp only [Act.put, List.setIfInBounds_toArray, List.set_cons_zero, List.set_cons_succ])
          refine takeL (i := 6) (v := ?t2v6) (some 55) rfl rfl (by kernel_rfl) (by kernel_rfl) (by kernel_rfl) (by kernel_rfl) (by kernel_rfl) (fun _ _ _ h => h) (Or.inl ⟨by rfl, ?t2h6⟩) (by assumption) ?t2r6
          case t2h6 => (intro y hSu; (try dsimp only at hSu); go_simp; first | done | with_reducible rfl)
          (try simp only [Act.put, List.setIfInBounds_toArray, List.set_cons_zero, List.set_cons_succ])
          refine takeL (i := 7) (v := ?t2v7) (some 56) rfl rfl (by kernel_rfl) (by kernel_rfl) (by kernel_rfl) (by kernel_rfl) (by kernel_rfl) (fun _ _ _ h => h) (Or.inl ⟨by rfl, ?t2h7⟩) (by assumption) ?t2r7
          case t2h7 => (intro y hSu; (try dsimp only at hSu); go_simp; first | done | with_reducible rfl)
          (try simp only [Act.put, List.setIfInBounds_toArray, List.set_cons_zero, List.set_cons_succ])
          refine takeL (i := 8) (v := ?t2v8) (some 57) rfl rfl (by kernel_rfl) (by kernel_rfl) (by kernel_rfl) (by kernel_rfl) (by kernel_rfl) (fun _ _ _ h => h) (Or.inl ⟨by rfl, ?t2h8⟩) (by assumption) ?t2r8
          case t2h8 => (intro y hSu; (try dsimp only at hSu); go_simp; first | done | with_reducible rfl)
          (try simp only [Act.put, List.setIfInBounds_toArray, List.set_cons_zero, List.set_cons_succ])
          refine readyL (i := 9) (by kernel_rfl) rfl (fun K hK => ?_)
          go_simp
          refine hK.out _ _ (fun _ => f2) ?_
          clear hK K
          (try simp only [Act.put, List.setIfInBounds_toArray, List.set_cons_zero, List.set_cons_succ])
          have hH4 := f2
          refine readyL (i := 10) (by kernel_rfl) rfl (fun K hK => ?_)
          refine step_append_run rfl (.tmp 49) (.tmp 58) 23 rfl _ _ (by simp [Act.eval]; first | rfl | done) (by simp [Act.eval]; first | rfl | done) _ _ (unhide HR5 _) ?_
          refine hK.out _ _ (fun _ => f5) ?_
          clear hK K
          (try simp only [Act.put, List.setIfInBounds_toArray])
          have hH5 := f5
          refine readyL (i := 11) (by kernel_rfl) rfl (fun K hK => ?_)
          go_simp
          refine hK.out _ _ (fun _ => f5) ?_
          clear hK K
          (try simp only [Act.put, List.setIfInBounds_toArray, List.set_cons_zero, List.set_cons_succ])
          have hH7 := f5
          refine doneL (by kernel_rfl) ?_ _
          refine NoPanic.normal ?_
          clear hHeld HR5 f1 f2
          go_upto_region 14 with fail
          refine wp_region_noPanic ?_
          refine regionL [] (fun y => y.cell? ⟨g2, j * 2, none⟩ = some (.int .i64 u) ∧ y.cell? ⟨g2, j * 2 + 1, none⟩ = some (.int .i64 x)) (by kernel_rfl) f6 (fun hHeld => ?_)
          refine takeL (i := 0) (v := ?t10v0) (some 60) rfl rfl (by kernel_rfl) (by kernel_rfl) (by kernel_rfl) (by kernel_rfl) (by kernel_rfl) (fun _ _ _ h => h) (Or.inl ⟨by rfl, ?t10h0⟩) (by assumption) ?t10r0
          case t10h0 => (intro y hSu; (try dsimp only at hSu); go_simp; first | done | with_reducible rfl)
          (try simp only [Act.put, List.setIfInBounds_toArray, List.set_cons_zero, List.set_cons_succ])
          refine takeL (i := 1) (v := ?t10v1) (some 61) rfl rfl (by kernel_rfl) (by kernel_rfl) (by kernel_rfl) (by kernel_rfl) (by kernel_rfl) (fun _ _ _ h => h) (Or.inl ⟨by rfl, ?t10h1⟩) (by assumption) ?t10r1
          case t10h1 => (intro y hSu; (try dsimp only at hSu); go_simp; first | done | with_reducible rfl)
          (try simp only [Act.put, List.setIfInBounds_toArray, List.set_cons_zero, List.set_cons_succ])
          refine takeL (i := 2) (v := ?t10v2) (some 62) rfl rfl (by kernel_rfl) (by kernel_rfl) (by kernel_rfl) (by kernel_rfl) (by kernel_rfl) (fun _ _ _ h => h) (Or.inl ⟨by rfl, ?t10h2⟩) (by assumption) ?t10r2
          case t10h2 => (intro y hSu; (try dsimp only at hSu); go_simp; first | done | with_reducible rfl)
          (try simp only [Act.put, List.setIfInBounds_toArray, List.set_cons_zero, List.set_cons_succ])
          refine takeL (i := 3) (v := ?t10v3) (some 63) rfl rfl (by kernel_rfl) (by kernel_rfl) (by kernel_rfl) (by kernel_rfl) (by kernel_rfl) (fun _ _ _ h => h) (Or.inl ⟨by rfl, ?t10h3⟩) (by assumption) ?t10r3
          case t10h3 => (intro y hSu; (try dsimp only at hSu); go_simp; first | done | with_reducible rfl)
          (try simp only [Act.put, List.setIfInBounds_toArray, List.set_cons_zero, List.set_cons_succ])
          refine takeL (i := 4) (v := ?t10v4) (some 64) rfl rfl (by kernel_rfl) (by kernel_rfl) (by kernel_rfl) (by kernel_rfl) (by kernel_rfl) (fun _ _ _ h => h) (Or.inl ⟨by rfl, ?t10h4⟩) (by assumption) ?t10r4
          case t10h4 => (intro y hSu; (try dsimp only at hSu); go_simp; first | done | with_reducible rfl)
          (try simp only [Act.put, List.setIfInBounds_toArray, List.set_cons_zero, List.set_cons_succ])
          refine takeL (i := 5) (v := ?t10v5) (some 65) rfl rfl (by kernel_rfl) (by kernel_rfl) (by kernel_rfl) (by kernel_rfl) (by kernel_rfl) (fun _ _ _ h => h) (Or.inl ⟨by rfl, ?t10h5⟩) (by assumption) ?t10r5
          case t10h5 => (intro y hSu; (try dsimp only at hSu); go_simp; first | done | with_reducible rfl)
          (try simp only [Act.put, List.setIfInBounds_toArray, List.set_cons_zero, List.set_cons_succ])
          refine takeL (i := 6) (v := ?t10v6) (some 66) rfl rfl (by kernel_rfl) (by kernel_rfl) (by kernel_rfl) (by kernel_rfl) (by kernel_rfl) (fun _ _ _ h => h) (Or.inl ⟨by rfl, ?t10h6⟩) (by assumption) ?t10r6
          case t10h6 => (intro y hSu; (try dsimp only at hSu); go_simp; first | done | with_reducible rfl)
          (try simp only [Act.put, List.setIfInBounds_toArray, List.set_cons_zero, List.set_cons_succ])
          refine takeL (i := 7) (v := ?t10v7) (some 67) rfl rfl (by kernel_rfl) (by kernel_rfl) (by kernel_rfl) (by kernel_rfl) (by kernel_rfl) (fun _ _ _ h => h) (Or.inl ⟨by rfl, ?t10h7⟩) (by assumption) ?t10r7
          case t10h7 => (intro y hSu; (try dsimp only at hSu); go_simp; first | done | with_reducible rfl)
          (try simp only [Act.put, List.setIfInBounds_toArray, List.set_cons_zero, List.set_cons_succ])
          refine takeL (i := 8) (v := ?t10v8) (some 68) rfl rfl (by kernel_rfl) (by kernel_rfl) (by kernel_rfl) (by kernel_rfl) (by kernel_rfl) (fun _ _ _ h => h) (Or.inl ⟨by rfl, ?t10h8⟩) (by assumption) ?t10r8
          case t10h8 => (intro y hSu; (try dsimp only at hSu); go_simp; first | done | with_reducible rfl)
          (try simp only [Act.put, List.setIfInBounds_toArray, List.set_cons_zero, List.set_cons_succ])
          refine takeL (i := 9) (v := ?t10v9) (some 69) rfl rfl (by kernel_rfl) (by kernel_rfl) (by kernel_rfl) (by kernel_rfl) (by kernel_rfl) (fun _ _ _ h => h) (Or.inl ⟨by rfl, ?t10h9⟩) (by assumption) ?t10r9
          case t10h9 => (intro y hSu; (try dsimp only at hSu); go_simp; first | done | with_reducible rfl)
          (try simp only [Act.put, List.setIfInBounds_toArray, List.set_cons_zero, List.set_cons_succ])
          refine takeL (i := 10) (v := ?t10v10) (some 70) rfl rfl (by kernel_rfl) (by kernel_rfl) (by kernel_rfl) (by kernel_rfl) (by kernel_rfl) (fun _ _ _ h => h) (Or.inl ⟨by rfl, ?t10h10⟩) (by assumption) ?t10r10
          case t10h10 => (intro y hSu; (try dsimp only at hSu); go_simp; first | done | with_reducible rfl)
          (try simp only [Act.put, List.setIfInBounds_toArray, List.set_cons_zero, List.set_cons_succ])
          refine takeL (i := 11) (v := ?t10v11) (some 71) rfl rfl (by kernel_rfl) (by kernel_rfl) (by kernel_rfl) (by kernel_rfl) (by kernel_rfl) (fun _ _ _ h => h) (Or.inl ⟨by rfl, ?t10h11⟩) (by assumption) ?t10r11
          case t10h11 => (intro y hSu; (try dsimp only at hSu); go_simp; first | done | with_reducible rfl)
          (try simp only [Act.put, List.setIfInBounds_toArray, List.set_cons_zero, List.set_cons_succ])
          refine readyL (i := 12) (by kernel_rfl) rfl (fun K hK => ?_)
          go_simp
          refine hK.out _ _ (fun _ => f7) ?_
          clear hK K
          (try simp only [Act.put, List.setIfInBounds_toArray, List.set_cons_zero, List.set_cons_succ])
          have hH12 := f7
          refine readyL (i := 13) (by kernel_rfl) rfl (fun K hK => ?_)
          refine step_append_run rfl (.tmp 60) (.tmp 72) 23 rfl _ _ (by simp [Act.eval]; first | rfl | done) (by simp [Act.eval]; first | rfl | done) _ _ (unhide HR8 _) ?_
          refine hK.out _ _ (fun _ => f8) ?_
          clear hK K
          (try simp only [Act.put, List.setIfInBounds_toArray])
          have hH13 := f8
          refine readyL (i := 14) (by kernel_rfl) rfl (fun K hK => ?_)
          go_simp
          refine hK.out _ _ (fun _ => f8) ?_
          clear hK K
          (try simp only [Act.put, List.setIfInBounds_toArray, List.set_cons_zero, List.set_cons_succ])
          have hH15 := f8
          refine doneL (by kernel_rfl) ?_ _
          refine NoPanic.normal ?_
          go_wp2_with fail
          (try rw [unhide zw])
          exact ⟨⟨j, i1, a5, a8, n5, c5, n8, c8, rfl, rfl, rfl, HJ⟩, by have := (unhide HJ).1; simp [intOf]; omega⟩
    · obtain rfl : i = (j : Int) := by omega
      obtain ⟨u, hu⟩ : ∃ u, ks[j]? = some u := ⟨_, List.getElem?_eq_getElem (by omega)⟩
      obtain ⟨g1, hg1⟩ : ∃ g1, x1 = some ⟨g1, 0, none⟩ := by
        obtain ⟨L, -, ⟨h1, -⟩, -⟩ := hT
        exact brow_some h1 (by omega)
      subst hg1
      have d1 : wr.cell? ⟨g1, j, none⟩ = some (.int .i64 u) := by
        obtain ⟨L, -, ⟨h1, -⟩, -⟩ := hT
        exact brow_at h1 hu
      obtain ⟨a', n', c', w5, r5, hT5⟩ := hT.appW u (by rw [List.length_reverse, List.length_drop]; omega)
      rw [← drop_rev hu] at hT5
      have HR5 := hide r5
      obtain ⟨i1, hi1⟩ : ∃ i1, i1 = (j : Int) - 1 := ⟨_, rfl⟩
      have zw : Hid (wrap64 ((j : Int) - 1) = i1) := by show wrap64 ((j : Int) - 1) = i1; unfold wrap64; omega
      have HJ : Hid (i1 = (j : Int) - 1 ∧ j ≤ n1 ∧ TG w1 ks l (ks.drop j).reverse [] [] (.slice (some ⟨g1, 0, none⟩) n1 c1) (.slice x2 n2 c2) (.slice a' n' c') (.slice none 0 0) (.slice none 0 0) w5) := ⟨hi1, by omega, hT5⟩
      have z1 : (0 : Int) ≤ (j : Int) := by omega
      have z2 : (j : Int) < (n1 : Int) := by omega
      clear hT hu r5 hT5 hi hkn hi1 q1 q2 q3 q4
      go_wp2_with (at_builtin; refine Lib.wpList_append_run _ rfl _ _ 22 22 rfl _ _ rfl rfl _ _ (unhide HR5 _) ?_)
      (try rw [unhide zw])
      exact ⟨⟨j, i1, a', n', c', rfl, rfl, HJ⟩, by have := (unhide HJ).1; simp [intOf]; omega⟩
end Go.Proofs.Ytdpdghhieokcfaa
