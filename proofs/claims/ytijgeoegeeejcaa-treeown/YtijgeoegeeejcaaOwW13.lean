/- TreeOwn, walked. -/
import Derived.Test.YtijgeoegeeejcaaOwM13
namespace Go.Proofs.Ytijgeoegeeejcaa
open Go.RowKit Go.Maps
theorem slice_if (c g : Nat) : (if c = 0 then some (⟨g, 0, none⟩ : Addr) else some (Addr.add ⟨g, 0, none⟩ 0)) = some ⟨g, 0, none⟩ := by simp [Addr.add]
theorem snoc_last {X : Type} {l l0 : List X} {x : X} {n : Nat} (h : l = l0 ++ [x]) (hn : n + 1 = l.length) : l[n]? = some x := by
  have : n = l0.length := by rw [h] at hn; simp at hn; exact hn
  rw [h, this, List.getElem?_append_right (Nat.le_refl _), Nat.sub_self]; rfl
set_option maxHeartbeats 16000000 in
set_option maxRecDepth 100000 in
theorem own_any [Inhabited EntF] {w : World} {a0 a1 : Option Addr} {len0 cap0 len1 cap1 : Nat} {z : Nat → Int} {o : Nat → EdV} (s : Int) (h0 : IsIntsC w a0 len0 cap0 z) (h1 : IsEdsC w a1 len1 cap1 o) (hb0 : len0 < 1000000000000000000) (hb1 : len1 < 1000000000000000000) :
    Calls Try.prog 7 #[.slice a0 len0 cap0, .slice a1 len1 cap1, .int .i64 s] w fun e w' => e = .returned (.bool true) ∧ Below w.heap.size w w' := by
  have CA := hide (awakeS w)
  have CC : Hid (∀ W, Below w.heap.size w W → Calls Try.prog 9 #[.slice a0 len0 cap0, .slice a1 len1 cap1] W fun e w' => Hid (∃ v1 v2, e = .returned (.tuple #[v1, v2]) ∧ CutAns W ((List.range (min len0 40)).map z) ((List.range (min len1 160)).map o) v1 v2 w')) := fun W hW => cutS ⟨isInts_below h0.1 hW, h0.2⟩ (isEds_below h1 hW) hb0 hb1
  have hk1 : ((List.range (min len0 40)).map z).length ≤ 1000 := by simp; omega
  have hk2 : ((List.range (min len1 160)).map o).length ≤ 1000 := by simp; omega
  have hk3 := eds_pos h1 (min len1 160) (Nat.min_le_left _ _)
  generalize (List.range (min len0 40)).map z = ks at *
  generalize (List.range (min len1 160)).map o = es at *
  have HK : Hid (ks.length ≤ 1000 ∧ es.length ≤ 1000 ∧ ∀ x ∈ es, 0 ≤ x.2.2.2) := ⟨hk1, hk2, hk3⟩
  clear h0 h1 hb0 hb1 hk1 hk2 hk3
  go_enter Try.func7, Try.ntmps7
  go_wp2_with fail
  refine (unhide CA).mono ?_
  rintro e w1 ⟨rfl, hb1⟩
  have CC2 := hide (unhide CC w1 (unhide hb1))
  clear CA CC
  go_wp2_with fail
  refine (unhide CC2).mono ?_
  intro e w2 H2
  obtain ⟨v1, v2, rfl, c1, c2, c3, -⟩ := unhide H2
  obtain ⟨x1, r1, rfl, -⟩ := brow_shape c2
  obtain ⟨x2, r2, rfl⟩ := rrow_shape c3
  have hB2 : Below w.heap.size w w2 := (unhide hb1).trans (c1.mono (unhide hb1).size)
  obtain ⟨n1, hn1⟩ : ∃ n1, n1 = ks.length := ⟨_, rfl⟩
  obtain ⟨n2, hn2⟩ : ∃ n2, n2 = es.length := ⟨_, rfl⟩
  rw [← hn2] at c3
  rw [← hn1] at c2
  rw [← hn1, ← hn2]
  obtain ⟨b1, m1, d1, wA, b2, m2, d2, wB, b3, m3, d3, wC, b4, m4, d4, wD, ⟨rA, rB, rC, rD⟩, f1, f2, f3, f4⟩ := full_mem (brow_at0 c2) (rrow_low c3 (Nat.zero_le _)) (unhide HK).1 (unhide HK).2.1
  obtain ⟨gV, rfl⟩ := brow_some f2 (by simp)
  obtain ⟨gE, rfl⟩ := rrow_some f3 (by simp)
  have hm2 : m2 = n1 + 1 := by
    obtain ⟨_, _, e, -⟩ := brow_shape f2
    injection e with _ e2 _
    rw [e2, hn1]; simp
  have hm4 : m4 = n2 + 1 := by rw [rrow_len f3, hn2]; simp
  have hcV : n1 + 1 ≤ d2 := by
    rcases f2.2 with ⟨e, -⟩ | ⟨g', cap, cur, e, -, -, hc, -⟩
    · cases e
    · injection e with _ _ e3
      simp at hc; omega
  have hcE : n2 + 1 ≤ d4 := by have := rrow_cap f3; omega
  have HE : Hid (∀ W, Turned (fun b => w2.heap.size ≤ b) w2 W → ERow 0 W (.slice x2 n2 r2) es ∧ NRow W (.slice x1 n1 r1) ks ∧ Below w.heap.size w W) := fun W hW => ⟨rrow_low (rrow_kept c3 (fun b e => hW.block b (c3.lt b e).2 (fun q => by have := (c3.lt b e).2; omega))) (Nat.zero_le _), brow_at0 (brow_kept c2 (fun b e => hW.block b (c2.lt b e).2 (fun q => by have := (c2.lt b e).2; omega))), hB2.trans (hW.below hB2.size (fun b e => by have := hB2.size; omega))⟩
  have HF : Hid (FullAt w2 (.slice (some ⟨gV, 0, none⟩) m2 d2) (.slice (some ⟨gE, 0, none⟩) m4 d4) ks es wD ∧ m2 = n1 + 1 ∧ m4 = n2 + 1 ∧ n1 = ks.length ∧ n2 = es.length ∧ n1 ≤ 1000 ∧ n2 ≤ 1000) := ⟨⟨f1, f2, f3, f4⟩, hm2, hm4, hn1, hn2, by have := (unhide HK).1; omega, by have := (unhide HK).2.1; omega⟩
  have C5 : Hid (∀ W, Below wD.heap.size wD W → Calls Try.prog 10 #[.slice (some ⟨gV, 0, none⟩) n1 d2, .slice (some ⟨gE, 0, none⟩) n2 d4, .int .i64 s] W fun e w' => ∃ po er, e = .returned (.tuple #[.pointer po, .int .i64 er]) ∧ Hid (BuildAns W ks es s po er w')) := fun W hW => by
    have q1 := brow_take (brow_kept f2 (fun b e => hW.block b (f2.lt b e).2)) (m := n1) (by omega)
    have q2 := rrow_take kitE (rrow_below f3 hW) (m := n2) (by omega)
    rw [List.take_left' hn1.symm] at q1
    rw [List.take_left' hn2.symm] at q2
    exact buildS (brow_at0 q1) (rrow_low q2 (Nat.zero_le _)) (unhide HK).1 (unhide HK).2.1
  have HR1 := hide rA
  have HR2 := hide rB
  have HR3 := hide rC
  have HR4 := hide rD
  have zV : (n1 : Int) ≤ (d2 : Int) := by omega
  have zE : (n2 : Int) ≤ (d4 : Int) := by omega
  have eV := slice_if d2 gV
  have eE := slice_if d4 gE
  clear CC2 H2 c1 c2 c3 hB2 hb1 hn1 hn2 rA rB rC rD f1 f2 f3 f4 hm2 hm4 hcV hcE
  go_upto_region 5 with (at_builtin; first | (have h := HR1; clear HR1; refine Lib.wpList_append_run _ rfl _ _ 22 22 rfl _ _ rfl rfl _ _ (unhide h _) ?_; clear h) | (have h := HR2; clear HR2; refine Lib.wpList_append_run _ rfl _ _ 22 22 rfl _ _ rfl rfl _ _ (unhide h _) ?_; clear h) | (have h := HR3; clear HR3; refine Lib.wpList_append_run _ rfl _ _ 23 23 rfl _ _ rfl rfl _ _ (unhide h _) ?_; clear h) | (have h := HR4; clear HR4; refine Lib.wpList_append_run _ rfl _ _ 23 23 rfl _ _ rfl rfl _ _ (unhide h _) ?_; clear h))
  refine wp_region_noPanic ?_
  refine regionL [] (fun y => True) (by kernel_rfl) trivial (fun hHeld => ?_)
  refine takeL (i := 0) (v := ?t2v0) (some 43) rfl rfl (by kernel_rfl) (by kernel_rfl) (by kernel_rfl) (by kernel_rfl) (by kernel_rfl) (fun _ _ _ h => h) (Or.inl ⟨by rfl, ?t2h0⟩) (by assumption) ?t2r0
  case t2h0 => (intro y hSu; (try dsimp only at hSu); go_simp; first | done | with_reducible rfl)
  (try simp only [Act.put, List.setIfInBounds_toArray, List.set_cons_zero, List.set_cons_succ])
  refine takeL (i := 1) (v := ?t2v1) (some 44) rfl rfl (by kernel_rfl) (by kernel_rfl) (by kernel_rfl) (by kernel_rfl) (by kernel_rfl) (fun _ _ _ h => h) (Or.inl ⟨by rfl, ?t2h1⟩) (by assumption) ?t2r1
  case t2h1 => (intro y hSu; (try dsimp only at hSu); go_simp; first | done | with_reducible rfl)
  (try simp only [Act.put, List.setIfInBounds_toArray, List.set_cons_zero, List.set_cons_succ])
  refine takeL (i := 2) (v := ?t2v2) (some 45) rfl rfl (by kernel_rfl) (by kernel_rfl) (by kernel_rfl) (by kernel_rfl) (by kernel_rfl) (fun _ _ _ h => h) (Or.inl ⟨by rfl, ?t2h2⟩) (by assumption) ?t2r2
  case t2h2 => (intro y hSu; (try dsimp only at hSu); go_simp; first | done | with_reducible rfl)
  (try simp only [Act.put, List.setIfInBounds_toArray, List.set_cons_zero, List.set_cons_succ])
  refine takeL (i := 3) (v := ?t2v3) (some 46) rfl rfl (by kernel_rfl) (by kernel_rfl) (by kernel_rfl) (by kernel_rfl) (by kernel_rfl) (fun _ _ _ h => h) (Or.inl ⟨by rfl, ?t2h3⟩) (by assumption) ?t2r3
  case t2h3 => (intro y hSu; (try dsimp only at hSu); go_simp; first | done | with_reducible rfl)
  (try simp only [Act.put, List.setIfInBounds_toArray, List.set_cons_zero, List.set_cons_succ])
  refine takeL (i := 4) (v := ?t2v4) (some 47) rfl rfl (by kernel_rfl) (by kernel_rfl) (by kernel_rfl) (by kernel_rfl) (by kernel_rfl) (fun _ _ _ h => h) (Or.inl ⟨by rfl, ?t2h4⟩) (by assumption) ?t2r4
  case t2h4 => (intro y hSu; (try dsimp only at hSu); go_simp; first | done | with_reducible rfl)
  (try simp only [Act.put, List.setIfInBounds_toArray, List.set_cons_zero, List.set_cons_succ])
  refine takeL (i := 5) (v := ?t2v5) (some 48) rfl rfl (by kernel_rfl) (by kernel_rfl) (by kernel_rfl) (by kernel_rfl) (by kernel_rfl) (fun _ _ _ h => h) (Or.inl ⟨by rfl, ?t2h5⟩) (by assumption) ?t2r5
  case t2h5 => (intro y hSu; (try dsimp only at hSu); go_simp; first | done | with_reducible rfl)
  (try simp only [Act.put, List.setIfInBounds_toArray, List.set_cons_zero, List.set_cons_succ])
  refine takeL (i := 6) (v := ?t2v6) (some 49) rfl rfl (by kernel_rfl) (by kernel_rfl) (by kernel_rfl) (by kernel_rfl) (by kernel_rfl) (fun _ _ _ h => h) (Or.inl ⟨by rfl, ?t2h6⟩) (by assumption) ?t2r6
  case t2h6 => (intro y hSu; (try dsimp only at hSu); go_simp; first | done | with_reducible rfl)
  (try simp only [Act.put, List.setIfInBounds_toArray, List.set_cons_zero, List.set_cons_succ])
  refine takeL (i := 7) (v := ?t2v7) (some 50) rfl rfl (by kernel_rfl) (by kernel_rfl) (by kernel_rfl) (by kernel_rfl) (by kernel_rfl) (fun _ _ _ h => h) (Or.inl ⟨by rfl, ?t2h7⟩) (by assumption) ?t2r7
  case t2h7 => (intro y hSu; (try dsimp only at hSu); go_simp; first | done | with_reducible rfl)
  (try simp only [Act.put, List.setIfInBounds_toArray, List.set_cons_zero, List.set_cons_succ])
  refine takeL (i := 8) (v := ?t2v8) (some 51) rfl rfl (by kernel_rfl) (by kernel_rfl) (by kernel_rfl) (by kernel_rfl) (by kernel_rfl) (fun _ _ _ h => h) (Or.inl ⟨by rfl, ?t2h8⟩) (by assumption) ?t2r8
  case t2h8 => (intro y hSu; (try dsimp only at hSu); go_simp; first | done | with_reducible rfl)
  (try simp only [Act.put, List.setIfInBounds_toArray, List.set_cons_zero, List.set_cons_succ])
  refine readyL (i := 9) (by kernel_rfl) rfl (fun K hK => ?_)
  go_simp
  refine (unhide C5 _ (below_drewN (Below.refl _ _) 1)).mono ?_
  rintro e w6 ⟨po, er, rfl, H6⟩
  (try dsimp only)
  refine hK.out _ _ (fun _ => trivial) ?_
  clear hK K
  (try simp only [Act.put, List.setIfInBounds_toArray, List.set_cons_zero, List.set_cons_succ])
  have hH4 := trivial
  refine takeL (i := 10) (v := ?t5v10) (some 42) rfl rfl (by kernel_rfl) (by kernel_rfl) (by kernel_rfl) (by kernel_rfl) (by kernel_rfl) (fun _ _ _ h => h) (Or.inl ⟨by rfl, ?t5h10⟩) (by assumption) ?t5r10
  case t5h10 => (intro y hSu; (try dsimp only at hSu); go_simp; first | done | with_reducible rfl)
  (try simp only [Act.put, List.setIfInBounds_toArray, List.set_cons_zero, List.set_cons_succ])
  refine takeL (i := 11) (v := ?t5v11) (some 53) rfl rfl (by kernel_rfl) (by kernel_rfl) (by kernel_rfl) (by kernel_rfl) (by kernel_rfl) (fun _ _ _ h => h) (Or.inl ⟨by rfl, ?t5h11⟩) (by assumption) ?t5r11
  case t5h11 => (intro y hSu; (try dsimp only at hSu); go_simp; first | done | with_reducible rfl)
  (try simp only [Act.put, List.setIfInBounds_toArray, List.set_cons_zero, List.set_cons_succ])
  refine takeL (i := 12) (v := ?t5v12) (some 54) rfl rfl (by kernel_rfl) (by kernel_rfl) (by kernel_rfl) (by kernel_rfl) (by kernel_rfl) (fun _ _ _ h => h) (Or.inl ⟨by rfl, ?t5h12⟩) (by assumption) ?t5r12
  case t5h12 => (intro y hSu; (try dsimp only at hSu); go_simp; first | done | with_reducible rfl)
  (try simp only [Act.put, List.setIfInBounds_toArray, List.set_cons_zero, List.set_cons_succ])
  refine takeL (i := 13) (v := ?t5v13) (some 9) rfl rfl (by kernel_rfl) (by kernel_rfl) (by kernel_rfl) (by kernel_rfl) (by kernel_rfl) (fun _ _ _ h => h) (Or.inl ⟨by rfl, ?t5h13⟩) (by assumption) ?t5r13
  case t5h13 => (intro y hSu; (try dsimp only at hSu); go_simp; first | done | with_reducible rfl)
  (try simp only [Act.put, List.setIfInBounds_toArray, List.set_cons_zero, List.set_cons_succ])
  refine takeL (i := 14) (v := ?t5v14) (some 10) rfl rfl (by kernel_rfl) (by kernel_rfl) (by kernel_rfl) (by kernel_rfl) (by kernel_rfl) (fun _ _ _ h => h) (Or.inl ⟨by rfl, ?t5h14⟩) (by assumption) ?t5r14
  case t5h14 => (intro y hSu; (try dsimp only at hSu); go_simp; first | done | with_reducible rfl)
  (try simp only [Act.put, List.setIfInBounds_toArray, List.set_cons_zero, List.set_cons_succ])
  refine doneL (by kernel_rfl) ?_ _
  refine NoPanic.normal ?_
  clear hHeld C5
  have HB6 : Hid (Below wD.heap.size wD w6) := by
    obtain ⟨ys, -, -, q3, -, -⟩ := unhide H6
    exact (below_drewN (Below.refl wD.heap.size wD) 1).trans (q3.mono (below_drewN (Below.refl wD.heap.size wD) 1).size)
  have HT6 : Hid ((er ≠ 0 ∧ po = none) ∨ (er = 0 ∧ ∃ p ys ds fs, po = some ⟨p, 0, none⟩ ∧ TreeAt wD.heap.size w6 p s ys es ds fs ∧ ys.Perm ks ∧ ys.Pairwise (· ≤ ·))) := by
    obtain ⟨ys, q1, q2, q3, q4, q5⟩ := unhide H6
    rcases q5 with q | ⟨q, p, ds, fs, e, hT⟩
    · exact .inl q
    · exact .inr ⟨q, p, ys, ds, fs, e, hT, q1, q2⟩
  have HW6 : Hid (∀ W, Below w6.heap.size w6 W → NRow W (.slice (some ⟨gV, 0, none⟩) n1 d2) ks ∧ NRow W (.slice x1 n1 r1) ks ∧ ERow 0 W (.slice (some ⟨gE, 0, none⟩) n2 d4) es ∧ ERow 0 W (.slice x2 n2 r2) es ∧ W.cell? ⟨gV, n1, none⟩ = some (.int .i64 777) ∧ W.cell? ⟨gE, n2 * 4, none⟩ = some (.int .i64 778) ∧ OwF W gV m2 d2 gE m4 d4 W) := fun W hW => by
    obtain ⟨⟨f1, f2, f3, f4⟩, hm2, hm4, hn1, hn2, -, -⟩ := unhide HF
    have hD : Below wD.heap.size wD W := (unhide HB6).trans (hW.mono (unhide HB6).size)
    have g2 := brow_kept f2 (fun b e => hD.block b (f2.lt b e).2)
    have g3 := rrow_below f3 hD
    have q1 := brow_take g2 (m := n1) (by omega)
    have q2 := rrow_take kitE g3 (m := n2) (by omega)
    rw [List.take_left' hn1.symm] at q1
    rw [List.take_left' hn2.symm] at q2
    have hb := f1.trans (hD.mono f1.size)
    obtain ⟨e1, e2, -⟩ := unhide HE W (turned_of_below hb)
    have hx7 := brow_at g2 (j := n1) (e := 777) (by rw [List.getElem?_append_right (by omega), hn1, Nat.sub_self]; rfl)
    obtain ⟨hx8, -, -, -⟩ := erow_at g3 (i := n2) (x := (778, 0, 0, 0)) (by rw [List.getElem?_append_right (by omega), hn2, Nat.sub_self]; rfl)
    exact ⟨brow_at0 q1, e2, rrow_low q2 (Nat.zero_le _), e1, hx7, hx8, ⟨_, brow_at0 g2⟩, ⟨_, rrow_low g3 (Nat.zero_le _)⟩, Turned.refl _ _, fun z => f4 gV rfl (by rw [z]; rfl)⟩
  have HG : Hid (w2.heap.size ≤ gV ∧ gV < wD.heap.size ∧ w2.heap.size ≤ gE ∧ gE < wD.heap.size ∧ Below w2.heap.size w2 wD) := by
    obtain ⟨⟨f1, f2, f3, f4⟩, -⟩ := unhide HF
    exact ⟨(f2.lt gV rfl).1, (f2.lt gV rfl).2, (f3.lt gE rfl).1, (f3.lt gE rfl).2, f1⟩
  have HN : Hid (m2 = n1 + 1 ∧ m4 = n2 + 1 ∧ n1 = ks.length ∧ n2 = es.length ∧ n1 ≤ 1000 ∧ n2 ≤ 1000) := (unhide HF).2
  obtain ⟨w61, w62, w63, w64, w65, w66, -⟩ := unhide HW6 w6 (Below.refl _ _)
  have C6 := hide (sameInts9 w61 w62 (by have := unhide HN; omega))
  rw [decide_eq_true rfl] at C6
  have z7 : (n1 : Int) < (m2 : Int) := by have := unhide HN; omega
  have z8 : (n2 : Int) < (m4 : Int) := by have := unhide HN; omega
  clear H6 HF w61 w62 w63 w64
  go_wp2_with fail
  refine (unhide C6).mono ?_
  rintro e w7 ⟨rfl, q7, hw7⟩
  have hb7 : Below w6.heap.size w6 w7 := by rw [hw7]; exact below_drewN (Below.refl _ _) q7
  obtain ⟨-, -, w73, w74, w75, w76, -⟩ := unhide HW6 w7 hb7
  have C7 := hide (sameEdR w73 w74 (by have := unhide HN; omega))
  have HB7 := hide hb7
  clear C6 hw7 hb7 w73 w74 w65 w66
  go_wp2_with fail
  refine (unhide C7).mono ?_
  rintro e w8 ⟨rfl, q8, hw8⟩
  have hb8 : Below w6.heap.size w6 w8 := by rw [hw8]; exact (unhide HB7).trans ((below_drewN (Below.refl _ _) q8).mono (unhide HB7).size)
  obtain ⟨-, -, -, -, w85, w86, hO8⟩ := unhide HW6 w8 hb8
  have HB8 := hide hb8
  have HO8 := hide hO8
  clear C7 hw8 hb8 w75 w76 hO8 HB7 HW6
  go_wp2_with fail
  clear w85 w86 z7 z8 zV zE eV eE
  go_loopw [90] (fun s90 wr => ∃ (i : Nat), s90 = .int .i64 i ∧ Hid (i ≤ m2 ∧ OwF w8 gV m2 d2 gE m4 d4 wr)) (fun s90 _ => m2 - (intOf s90).toNat)
  case atStart => exact ⟨0, rfl, Nat.zero_le _, unhide HO8⟩
  case round =>
    clear HO8
    obtain ⟨i, rfl, HI⟩ := hrel
    obtain ⟨i1, i2⟩ := unhide HI
    by_cases hlt : i < m2
    · obtain ⟨⟨x, kx⟩, kf, hO⟩ := i2.atV hlt
      obtain ⟨j, hj⟩ : ∃ j, j = i + 1 := ⟨_, rfl⟩
      have zw : Hid (wrap64 ((i : Int) + 1) = (j : Int)) := by show wrap64 ((i : Int) + 1) = (j : Int); have := unhide HN; unfold wrap64; omega
      have HJ : Hid (j = i + 1 ∧ m2 - j < m2 - i ∧ j ≤ m2 ∧ OwF w8 gV m2 d2 gE m4 d4 (wr.setCell ⟨gV, i, none⟩ (.int .i64 (-1)))) := ⟨hj, by omega, by omega, hO⟩
      have z1 : (i : Int) < (m2 : Int) := by omega
      clear HI i1 i2 hlt hO hj
      go_wp2_with fail
      (try rw [unhide zw])
      exact ⟨⟨j, by first | rfl | (rw [(unhide HJ).1]; rfl), (unhide HJ).2.2.1, (unhide HJ).2.2.2⟩, by have := unhide HJ; simp [intOf]; omega⟩
    · have z1 : ¬ (i : Int) < (m2 : Int) := by omega
      have HO9 := hide i2
      clear HI i1 i2 hlt
      go_wp2_with fail
      clear z1
      go_loopw [99] (fun s99 wr => ∃ (i : Nat), s99 = .int .i64 i ∧ Hid (i ≤ m4 ∧ OwF w8 gV m2 d2 gE m4 d4 wr)) (fun s99 _ => m4 - (intOf s99).toNat)
      case atStart => exact ⟨0, rfl, Nat.zero_le _, unhide HO9⟩
      case round =>
        clear HO9
        obtain ⟨i, rfl, HI⟩ := hrel
        obtain ⟨i1, i2⟩ := unhide HI
        by_cases hlt : i < m4
        · obtain ⟨⟨x, k0, k1, k2, k3⟩, kf, hO⟩ := i2.atE hlt
          obtain ⟨j, hj⟩ : ∃ j, j = i + 1 := ⟨_, rfl⟩
          have zw : Hid (wrap64 ((i : Int) + 1) = (j : Int)) := by show wrap64 ((i : Int) + 1) = (j : Int); have := unhide HN; unfold wrap64; omega
          have HJ : Hid (j = i + 1 ∧ m4 - j < m4 - i ∧ j ≤ m4 ∧ OwF w8 gV m2 d2 gE m4 d4 (set4e wr gE i (.int .i64 (-1)) (.int .i64 0) (.int .i64 0) (.int .u32 0))) := ⟨hj, by omega, by omega, hO⟩
          have z1 : (i : Int) < (m4 : Int) := by omega
          clear HI i1 i2 hlt hO hj
          go_wp2_with fail
          (try rw [unhide zw])
          exact ⟨⟨j, by first | rfl | (rw [(unhide HJ).1]; rfl), (unhide HJ).2.2.1, (unhide HJ).2.2.2⟩, by have := unhide HJ; simp [intOf]; omega⟩
        · have z1 : ¬ (i : Int) < (m4 : Int) := by omega
          obtain ⟨w9, hw9⟩ : ∃ w9, w9 = wr := ⟨_, rfl⟩
          subst hw9
          have HW9 : Hid (∀ W, Below w9.heap.size w9 W → (ERow 0 W (.slice x2 n2 r2) es ∧ NRow W (.slice x1 n1 r1) ks ∧ Below w.heap.size w W)) := fun W hW => by
            obtain ⟨g1, g2, g3, g4, g5⟩ := unhide HG
            have hb8 : Below w2.heap.size w2 w8 := (g5.trans ((unhide HB6).mono g5.size)).trans ((unhide HB8).mono (g5.trans ((unhide HB6).mono g5.size)).size)
            refine unhide HE W (((turned_of_below hb8).trans (i2.tu.mono (fun k _ e => ?_))).trans (turned_of_below hW))
            rcases e with e | e <;> omega
          have HT9 : Hid ((er ≠ 0 ∧ po = none) ∨ (er = 0 ∧ ∃ p ys ds fs, po = some ⟨p, 0, none⟩ ∧ TreeAt wD.heap.size w9 p s ys es ds fs ∧ ys.Perm ks ∧ ys.Pairwise (· ≤ ·))) := by
            obtain ⟨g1, g2, g3, g4, g5⟩ := unhide HG
            rcases unhide HT6 with q | ⟨q, p, ys, ds, fs, e, hT, q1, q2⟩
            · exact .inl q
            · exact .inr ⟨q, p, ys, ds, fs, e, (hT.below (unhide HB8)).turned i2.tu (fun b e => by rcases e with e | e <;> omega), q1, q2⟩
          clear HI i1 i2 hlt HT6 HB6 HB8 HG HE
          rcases unhide HT9 with ⟨z0, rfl⟩ | ⟨rfl, p, ys, ds, fs, rfl, hT, q1, q2⟩
          · have z2 : (er != 0) = true := by simpa using z0
            have HF : Hid (Below w.heap.size w w9) := (unhide HW9 w9 (Below.refl _ _)).2.2
            clear HT9 HW9 HN HK z0
            go_wp2_with fail
            go_ret
            exact ⟨rfl, unhide HF⟩
          · have HT : Hid (TreeAt wD.heap.size w9 p s ys es ds fs ∧ ys.Perm ks ∧ ys.Pairwise (· ≤ ·)) := ⟨hT, q1, q2⟩
            clear HT9 hT q1 q2
            go_wp2_with fail
            clear z1
            go_loopw [121] (fun s121 wr => ∃ (i : Nat), s121 = .int .i64 i ∧ Hid (i ≤ n1 ∧ Below w9.heap.size w9 wr)) (fun s121 _ => n1 - (intOf s121).toNat)
            case atStart => exact ⟨0, rfl, Nat.zero_le _, Below.refl _ _⟩
            case round =>
              obtain ⟨i, rfl, HI⟩ := hrel
              obtain ⟨i1, i2⟩ := unhide HI
              obtain ⟨l1, l2, l3, l4, l5, l6⟩ := unhide HN
              by_cases hlt : i < n1
              · obtain ⟨v, hv⟩ : ∃ v, ks[i]? = some v := ⟨_, List.getElem?_eq_getElem (by omega)⟩
                have hrow := (unhide HW9 wr i2).2.1
                obtain ⟨gk, rfl⟩ := brow_some hrow (by omega)
                have kv := brow_at hrow hv
                have hT := (unhide HT).1.below i2
                have C1 := hide (pathT hT v)
                have C2 : Hid (∀ W, Below wr.heap.size wr W → Calls Try.prog 17 #[.pointer (some ⟨p, 0, none⟩)] W fun e w' => ∃ a n c, e = .returned (.slice a n c) ∧ Hid (RowAns W (nearV ds) (.slice a n c) w')) := fun W hW => reachedLT (hT.below hW)
                have C3 : Hid (∀ W, Below wr.heap.size wr W → Calls Try.prog 18 #[.pointer (some ⟨p, 0, none⟩)] W fun e w' => ∃ a n c, e = .returned (.slice a n c) ∧ Hid (DistsAns W ds (.slice a n c) w')) := fun W hW => distsT (hT.below hW)
                have HL : Hid ((nearV ds).length ≤ 1000 ∧ ds.length ≤ 1000) := by
                  have hd : ds.length ≤ 1000 := by rw [hT.dl]; exact hT.gk.len
                  refine ⟨?_, hd⟩
                  unfold nearV; rw [List.length_map]; have := List.length_filter_le (fun d : DiV => !d.2.1) ds; omega
                obtain ⟨j, hj⟩ : ∃ j, j = i + 1 := ⟨_, rfl⟩
                have zw : Hid (wrap64 ((i : Int) + 1) = (j : Int)) := by show wrap64 ((i : Int) + 1) = (j : Int); unfold wrap64; omega
                have HJ : Hid (j = i + 1 ∧ n1 - j < n1 - i ∧ j ≤ n1 ∧ Below w9.heap.size w9 wr) := ⟨hj, by omega, by omega, i2⟩
                have z1 : (i : Int) < (n1 : Int) := by omega
                generalize askC ys ds v = cc at *
                clear HI i1 i2 l1 l2 l3 l4 l5 l6 hlt hv hrow hT hj
                go_wp2_with fail
                refine (unhide C1).mono ?_
                rintro e w10 ⟨pa, pn, pc, rfl, H10⟩
                obtain ⟨L, HP10⟩ : ∃ L, Hid (BRow wr.heap.size w10 (.slice pa pn pc) L ∧ L.length ≤ 1001 ∧ Below wr.heap.size wr w10) := by
                  obtain ⟨b1, b2, b3⟩ := unhide H10
                  by_cases h0 : askC ys ds v = 0
                  · obtain ⟨l, -, e2, -, e4⟩ := b3 h0
                    exact ⟨l.reverse, e2, by rw [List.length_reverse]; exact e4, b1⟩
                  · have := b2 h0
                    rw [this]
                    exact ⟨[], ⟨rfl, .inl ⟨rfl, rfl⟩⟩, by simp, b1⟩
                have D2 := hide (unhide C2 w10 (unhide HP10).2.2)
                clear C1 C2 H10 kv z1
                go_wp2_with fail
                refine (unhide D2).mono ?_
                rintro e w11 ⟨ra, rn, rc, rfl, H11⟩
                have HB11 : Hid (Below wr.heap.size wr w11) := (unhide HP10).2.2.trans ((unhide H11).2.mono (unhide HP10).2.2.size)
                have D3 := hide (unhide C3 w11 (unhide HB11))
                clear D2 C3
                go_wp2_with fail
                refine (unhide D3).mono ?_
                rintro e w12 ⟨da, dn, dc, rfl, H12⟩
                have HP : Hid (∃ L R D, P3 wr (.slice pa pn pc) (.slice ra rn rc) (.slice da dn dc) L R D w12 ∧ L.length ≤ 1001 ∧ R.length ≤ 1001 ∧ D.length ≤ 1001) := by
                  obtain ⟨a1, a2, a3⟩ := unhide HP10
                  obtain ⟨r1, r2⟩ := unhide H11
                  obtain ⟨d1, d2⟩ := unhide H12
                  have hb := unhide HB11
                  have k1 := brow_kept a1 (fun b e => r2.block b (a1.lt b e).2)
                  have k2 := brow_kept k1 (fun b e => d2.block b (k1.lt b e).2)
                  refine ⟨L, nearV ds, ds, ⟨hb.trans (d2.mono hb.size), k2, brow_low (brow_kept r1 (fun b e => d2.block b (r1.lt b e).2)) a3.size, rrow_low d1 hb.size, fun b e e2 => ?_, fun b e e2 => ?_, fun b e e2 => ?_⟩, a2, by have := (unhide HL).1; omega, by have := (unhide HL).2; omega⟩
                  · have := (a1.lt b e).2; have := (r1.lt b e2).1; omega
                  · have := (k1.lt b e).2; have := (d1.lt b e2).1; omega
                  · have := (r1.lt b e).2; have := (d1.lt b e2).1; omega
                obtain ⟨w0, hw0⟩ : ∃ w0, w0 = wr := ⟨_, rfl⟩
                subst hw0
                have HLN : Hid (pn ≤ 1001 ∧ rn ≤ 1001 ∧ dn ≤ 1001) := by
                  obtain ⟨L, R, D, hP, a1, a2, a3⟩ := unhide HP
                  have e1 : pn = L.length := by obtain ⟨_, _, e, -⟩ := brow_shape hP.l; injection e
                  have e2 : rn = R.length := by obtain ⟨_, _, e, -⟩ := brow_shape hP.r; injection e
                  have e3 := rrow_len hP.d
                  exact ⟨by omega, by omega, by omega⟩
                clear D3 H11 H12 HP10 HB11 HL
                go_wp2_with fail
                go_loopw [137] (fun s137 wr => ∃ (k : Nat), s137 = .int .i64 k ∧ Hid (k ≤ pn ∧ ∃ L R D, P3 w0 (.slice pa pn pc) (.slice ra rn rc) (.slice da dn dc) L R D wr ∧ L.length ≤ 1001 ∧ R.length ≤ 1001 ∧ D.length ≤ 1001)) (fun s137 _ => pn - (intOf s137).toNat)
                case atStart => exact ⟨0, rfl, Nat.zero_le _, unhide HP⟩
                case round =>
                  clear HP
                  obtain ⟨k, rfl, HI⟩ := hrel
                  obtain ⟨k1, L, R, D, hP, a1, a2, a3⟩ := unhide HI
                  by_cases hlt : k < pn
                  · obtain ⟨gl, rfl⟩ := brow_some hP.l (by obtain ⟨_, _, e, -⟩ := brow_shape hP.l; injection e with _ e2 _; omega)
                    obtain ⟨⟨x, kx⟩, kf, hP2⟩ := hP.setL hlt (-2)
                    obtain ⟨k', hk'⟩ : ∃ k', k' = k + 1 := ⟨_, rfl⟩
                    have zk : Hid (wrap64 ((k : Int) + 1) = (k' : Int)) := by show wrap64 ((k : Int) + 1) = (k' : Int); have := unhide HLN; unfold wrap64; omega
                    have HK2 : Hid (k' = k + 1 ∧ pn - k' < pn - k ∧ k' ≤ pn ∧ ∃ L R D, P3 w0 (.slice (some ⟨gl, 0, none⟩) pn pc) (.slice ra rn rc) (.slice da dn dc) L R D (wr.setCell ⟨gl, k, none⟩ (.int .i64 (-2))) ∧ L.length ≤ 1001 ∧ R.length ≤ 1001 ∧ D.length ≤ 1001) := ⟨hk', by omega, by omega, _, R, D, hP2, by rw [List.length_set]; exact a1, a2, a3⟩
                    have z2 : (k : Int) < (pn : Int) := by omega
                    clear HI k1 hP a1 a2 a3 hlt hP2 hk'
                    go_wp2_with fail
                    (try rw [unhide zk])
                    exact ⟨⟨k', by first | rfl | (rw [(unhide HK2).1]; rfl), (unhide HK2).2.2.1, (unhide HK2).2.2.2⟩, by have := unhide HK2; simp [intOf]; omega⟩
                  · have z2 : ¬ (k : Int) < (pn : Int) := by omega
                    have HP : Hid (∃ L R D, P3 w0 (.slice pa pn pc) (.slice ra rn rc) (.slice da dn dc) L R D wr ∧ L.length ≤ 1001 ∧ R.length ≤ 1001 ∧ D.length ≤ 1001) := ⟨L, R, D, hP, a1, a2, a3⟩
                    clear HI k1 hP a1 a2 a3 hlt L R D
                    go_wp2_with fail
                    clear z2
                    go_loopw [146] (fun s146 wr => ∃ (k : Nat), s146 = .int .i64 k ∧ Hid (k ≤ rn ∧ ∃ L R D, P3 w0 (.slice pa pn pc) (.slice ra rn rc) (.slice da dn dc) L R D wr ∧ L.length ≤ 1001 ∧ R.length ≤ 1001 ∧ D.length ≤ 1001)) (fun s146 _ => rn - (intOf s146).toNat)
                    case atStart => exact ⟨0, rfl, Nat.zero_le _, unhide HP⟩
                    case round =>
                      clear HP
                      obtain ⟨k, rfl, HI⟩ := hrel
                      obtain ⟨k1, L, R, D, hP, a1, a2, a3⟩ := unhide HI
                      by_cases hlt : k < rn
                      · obtain ⟨gl, rfl⟩ := brow_some hP.r (by obtain ⟨_, _, e, -⟩ := brow_shape hP.r; injection e with _ e2 _; omega)
                        obtain ⟨⟨x, kx⟩, kf, hP2⟩ := hP.setR hlt (-3)
                        obtain ⟨k', hk'⟩ : ∃ k', k' = k + 1 := ⟨_, rfl⟩
                        have zk : Hid (wrap64 ((k : Int) + 1) = (k' : Int)) := by show wrap64 ((k : Int) + 1) = (k' : Int); have := unhide HLN; unfold wrap64; omega
                        have HK2 : Hid (k' = k + 1 ∧ rn - k' < rn - k ∧ k' ≤ rn ∧ ∃ L R D, P3 w0 (.slice pa pn pc) (.slice (some ⟨gl, 0, none⟩) rn rc) (.slice da dn dc) L R D (wr.setCell ⟨gl, k, none⟩ (.int .i64 (-3))) ∧ L.length ≤ 1001 ∧ R.length ≤ 1001 ∧ D.length ≤ 1001) := ⟨hk', by omega, by omega, L, _, D, hP2, a1, by rw [List.length_set]; exact a2, a3⟩
                        have z2 : (k : Int) < (rn : Int) := by omega
                        clear HI k1 hP a1 a2 a3 hlt hP2 hk'
                        go_wp2_with fail
                        (try rw [unhide zk])
                        exact ⟨⟨k', by first | rfl | (rw [(unhide HK2).1]; rfl), (unhide HK2).2.2.1, (unhide HK2).2.2.2⟩, by have := unhide HK2; simp [intOf]; omega⟩
                      · have z2 : ¬ (k : Int) < (rn : Int) := by omega
                        have HP : Hid (∃ L R D, P3 w0 (.slice pa pn pc) (.slice ra rn rc) (.slice da dn dc) L R D wr ∧ L.length ≤ 1001 ∧ R.length ≤ 1001 ∧ D.length ≤ 1001) := ⟨L, R, D, hP, a1, a2, a3⟩
                        clear HI k1 hP a1 a2 a3 hlt L R D
                        go_wp2_with fail
                        clear z2
                        go_loopw [155] (fun s155 wr => ∃ (k : Nat), s155 = .int .i64 k ∧ Hid (k ≤ dn ∧ ∃ L R D, P3 w0 (.slice pa pn pc) (.slice ra rn rc) (.slice da dn dc) L R D wr ∧ L.length ≤ 1001 ∧ R.length ≤ 1001 ∧ D.length ≤ 1001)) (fun s155 _ => dn - (intOf s155).toNat)
                        case atStart => exact ⟨0, rfl, Nat.zero_le _, unhide HP⟩
                        case round =>
                          clear HP
                          obtain ⟨k, rfl, HI⟩ := hrel
                          obtain ⟨k1, L, R, D, hP, a1, a2, a3⟩ := unhide HI
                          by_cases hlt : k < dn
                          · obtain ⟨gl, rfl⟩ := rrow_some hP.d (by have := rrow_len hP.d; omega)
                            obtain ⟨⟨x, x0, x1', x2', x3⟩, kf, hP2⟩ := hP.setD hlt
                            obtain ⟨k', hk'⟩ : ∃ k', k' = k + 1 := ⟨_, rfl⟩
                            have zk : Hid (wrap64 ((k : Int) + 1) = (k' : Int)) := by show wrap64 ((k : Int) + 1) = (k' : Int); have := unhide HLN; unfold wrap64; omega
                            have HK2 : Hid (k' = k + 1 ∧ dn - k' < dn - k ∧ k' ≤ dn ∧ ∃ L R D, P3 w0 (.slice pa pn pc) (.slice ra rn rc) (.slice (some ⟨gl, 0, none⟩) dn dc) L R D (set4e wr gl k (.int .i64 (-4)) (.bool false) (.int .u32 0) (.int .i64 0)) ∧ L.length ≤ 1001 ∧ R.length ≤ 1001 ∧ D.length ≤ 1001) := ⟨hk', by omega, by omega, L, R, _, hP2, a1, a2, by rw [List.length_set]; exact a3⟩
                            have z2 : (k : Int) < (dn : Int) := by omega
                            clear HI k1 hP a1 a2 a3 hlt hP2 hk'
                            go_wp2_with fail
                            (try rw [unhide zk])
                            exact ⟨⟨k', by first | rfl | (rw [(unhide HK2).1]; rfl), (unhide HK2).2.2.1, (unhide HK2).2.2.2⟩, by have := unhide HK2; simp [intOf]; omega⟩
                          · have z2 : ¬ (k : Int) < (dn : Int) := by omega
                            have HP : Hid (∃ L R D, P3 w0 (.slice pa pn pc) (.slice ra rn rc) (.slice da dn dc) L R D wr ∧ L.length ≤ 1001 ∧ R.length ≤ 1001 ∧ D.length ≤ 1001) := ⟨L, R, D, hP, a1, a2, a3⟩
                            clear HI k1 hP a1 a2 a3 hlt L R D
                            go_wp2_with fail
                            clear z2
                            go_loopw [22, 15, 17, 18] (fun s22 s15 s17 s18 wr => ∃ (k : Nat) (la : Option Addr) (ln lc : Nat) (qa : Option Addr) (qn qc : Nat) (ea : Option Addr) (en ec : Nat), s22 = .int .i64 k ∧ s15 = .slice la ln lc ∧ s17 = .slice qa qn qc ∧ s18 = .slice ea en ec ∧ Hid (k ≤ 20 ∧ ∃ L R D, P3 w0 (.slice la ln lc) (.slice qa qn qc) (.slice ea en ec) L R D wr ∧ L.length ≤ 1001 + k ∧ R.length ≤ 1001 + k ∧ D.length ≤ 1001 + k ∧ (0 < k → ∃ L0 R0 D0, L = L0 ++ [5] ∧ R = R0 ++ [6] ∧ D = D0 ++ [(7, false, 0, 0)]))) (fun s22 _ _ _ _ => 20 - (intOf s22).toNat)
                            case atStart =>
                              obtain ⟨L, R, D, hP, a1, a2, a3⟩ := unhide HP
                              exact ⟨0, pa, pn, pc, ra, rn, rc, da, dn, dc, rfl, rfl, rfl, rfl, Nat.zero_le _, L, R, D, hP, a1, a2, a3, fun h => absurd h (Nat.lt_irrefl _)⟩
                            case round =>
                              clear HP
                              obtain ⟨k, la, ln, lc, qa, qn, qc, ea, en, ec, rfl, rfl, rfl, rfl, HI⟩ := hrel
                              obtain ⟨k1, L, R, D, hP, a1, a2, a3, a4⟩ := unhide HI
                              by_cases hlt : k < 20
                              · obtain ⟨u1, m1', e1, wA', u2, m2', e2, wB', u3, m3', e3, wC', rA, rB, rC, hP2⟩ := hP.push (by omega) (by omega) (by omega)
                                have HR1 := hide rA
                                have HR2 := hide rB
                                have HR3 := hide rC
                                obtain ⟨k', hk'⟩ : ∃ k', k' = k + 1 := ⟨_, rfl⟩
                                have zk : Hid (wrap64 ((k : Int) + 1) = (k' : Int)) := by show wrap64 ((k : Int) + 1) = (k' : Int); unfold wrap64; omega
                                have HK2 : Hid (k' = k + 1 ∧ 20 - k' < 20 - k ∧ k' ≤ 20 ∧ ∃ L R D, P3 w0 (.slice u1 m1' e1) (.slice u2 m2' e2) (.slice u3 m3' e3) L R D wC' ∧ L.length ≤ 1001 + k' ∧ R.length ≤ 1001 + k' ∧ D.length ≤ 1001 + k' ∧ (0 < k' → ∃ L0 R0 D0, L = L0 ++ [5] ∧ R = R0 ++ [6] ∧ D = D0 ++ [(7, false, 0, 0)])) := ⟨hk', by omega, by omega, _, _, _, hP2, by simp; omega, by simp; omega, by simp; omega, fun _ => ⟨L, R, D, rfl, rfl, rfl⟩⟩
                                have z2 : (k : Int) < 20 := by omega
                                clear HI k1 hP a1 a2 a3 a4 hlt hP2 hk' rA rB rC
                                go_wp2_with (at_builtin; first | (have h := HR1; clear HR1; refine Lib.wpList_append_run _ rfl _ _ 22 22 rfl _ _ rfl rfl _ _ (unhide h _) ?_; clear h) | (have h := HR2; clear HR2; refine Lib.wpList_append_run _ rfl _ _ 22 22 rfl _ _ rfl rfl _ _ (unhide h _) ?_; clear h) | (have h := HR3; clear HR3; refine Lib.wpList_append_run _ rfl _ _ 45 45 rfl _ _ rfl rfl _ _ (unhide h _) ?_; clear h))
                                (try rw [unhide zk])
                                exact ⟨⟨k', u1, m1', e1, u2, m2', e2, u3, m3', e3, by first | rfl | (rw [(unhide HK2).1]; rfl), rfl, rfl, rfl, (unhide HK2).2.2.1, (unhide HK2).2.2.2⟩, by have := unhide HK2; simp [intOf]; omega⟩
                              · have z2 : ¬ (k : Int) < 20 := by omega
                                obtain ⟨L0, R0, D0, e1, e2, e3⟩ := a4 (by omega)
                                have hl1 : ln = L.length := by obtain ⟨_, _, e, -⟩ := brow_shape hP.l; injection e
                                have hl2 : qn = R.length := by obtain ⟨_, _, e, -⟩ := brow_shape hP.r; injection e
                                have hl3 := rrow_len hP.d
                                have p1 : 0 < ln := by rw [hl1, e1]; simp
                                have p2 : 0 < qn := by rw [hl2, e2]; simp
                                have p3 : 0 < en := by rw [hl3, e3]; simp
                                obtain ⟨g1, rfl⟩ := brow_some hP.l (by omega)
                                obtain ⟨g2, rfl⟩ := brow_some hP.r (by omega)
                                obtain ⟨g3, rfl⟩ := rrow_some hP.d (by omega)
                                obtain ⟨t1, ht1⟩ : ∃ t1, t1 = ln - 1 := ⟨_, rfl⟩
                                obtain ⟨t2, ht2⟩ : ∃ t2, t2 = qn - 1 := ⟨_, rfl⟩
                                obtain ⟨t3, ht3⟩ : ∃ t3, t3 = en - 1 := ⟨_, rfl⟩
                                have k5 := brow_at hP.l (snoc_last e1 (n := t1) (by omega))
                                have k6 := brow_at hP.r (snoc_last e2 (n := t2) (by omega))
                                obtain ⟨k7, -, -, -⟩ := drow_at hP.d (snoc_last e3 (n := t3) (by omega))
                                have z3 : (t1 : Int) < (ln : Int) := by omega
                                have z4 : (t2 : Int) < (qn : Int) := by omega
                                have z5 : (t3 : Int) < (en : Int) := by omega
                                have z6 : wrap64 ((ln : Int) - 1) = (t1 : Int) := by unfold wrap64; omega
                                have z7 : wrap64 ((qn : Int) - 1) = (t2 : Int) := by clear z6; unfold wrap64; omega
                                have z8 : wrap64 ((en : Int) - 1) = (t3 : Int) := by clear z6 z7; unfold wrap64; omega
                                have HF : Hid (Below w9.heap.size w9 wr) := (unhide HJ).2.2.2.trans (hP.bl.mono (unhide HJ).2.2.2.size)
                                (try dsimp only at k7)
                                clear HI k1 hP a1 a2 a3 a4 hlt e1 e2 e3 hl1 hl2 hl3 p1 p2 p3 ht1 ht2 ht3 L R D L0 R0 D0
                                go_wp2_with fail
                                (try rw [unhide zw])
                                exact ⟨⟨j, by first | rfl | (rw [(unhide HJ).1]; rfl), (unhide HJ).2.2.1, unhide HF⟩, by have := unhide HJ; simp [intOf]; omega⟩
              · have z1 : ¬ (i : Int) < (n1 : Int) := by omega
                obtain ⟨e1, e2, e3⟩ := unhide HW9 wr i2
                have C5 := hide (graphR e2 e1 (unhide HK).1 (unhide HK).2.1 (unhide HK).2.2)
                have HF : Hid (Below w.heap.size w wr ∧ TreeAt wD.heap.size wr p s ys es ds fs) := ⟨e3, (unhide HT).1.below i2⟩
                clear HI i1 i2 l1 l2 l3 l4 l5 l6 hlt e1 e2 e3
                go_wp2_with fail
                refine (unhide C5).mono ?_
                intro e w10 H5
                obtain ⟨a, n, c, ea, en, ec, V, rfl, g1, g2, g3, g4, g5⟩ := unhide H5
                have hV : V = ys := srt_eq (g1.trans (unhide HT).2.1.symm) g2 (unhide HT).2.2
                subst hV
                have C6 := hide (rightR (rd := 0) (wr0 := 0) ((unhide HF).2.below g5) g3 g4 (unhide HK).2.1)
                have HF5 : Hid (Below w.heap.size w w10) := (unhide HF).1.trans (g5.mono (unhide HF).1.size)
                clear C5 H5 g1 g2 g3 g4 g5 HT HF HK HW9 HN
                go_wp2_with fail
                refine (unhide C6).mono ?_
                rintro e w11 ⟨rfl, hb6⟩
                have HF6 : Hid (Below w.heap.size w w11) := (unhide HF5).trans ((unhide hb6).mono (unhide HF5).size)
                clear C6 hb6 HF5
                go_wp2_with fail
                go_ret
                exact ⟨rfl, unhide HF6⟩
end Go.Proofs.Ytijgeoegeeejcaa
