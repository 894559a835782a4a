/- SccOwn walked. -/
import Derived.Test.YtdpdghhieokcfaaOwnG9
namespace Go.Proofs.Ytdpdghhieokcfaa
open Go.RowKit Go.Maps T9
set_option maxHeartbeats 16000000 in
set_option maxRecDepth 100000 in
theorem ownS [Inhabited EntI] {w : World} {a0 a1 : Option Addr} {len0 cap0 len1 cap1 : Nat} {z : Nat → Int} {o : Nat → Int × Int} (h0 : IsIntsC w a0 len0 cap0 z) (h1 : IsArcsC w a1 len1 cap1 o) (hb0 : len0 < 1000000000000000000) (hb1 : len1 < 1000000000000000000) :
    Calls Try.prog 7 #[.slice a0 len0 cap0, .slice a1 len1 cap1] w fun e w' => e = .returned (.bool true) ∧ Below w.heap.size w w' := by
  have CA := hide (awakeS w)
  have HI := hide (And.intro h0 (And.intro h1 (And.intro hb0 hb1)))
  clear h0 h1 hb0 hb1
  go_enter Try.func7, Try.ntmps7
  go_wp2_with fail
  refine (unhide CA).mono ?_
  rintro e w1 ⟨rfl, hB1⟩
  clear CA
  have CC : Hid (Calls Try.prog 9 #[.slice a0 len0 cap0, .slice a1 len1 cap1] w1 fun e w' => Hid (∃ v1 v2, e = .returned (.tuple #[v1, v2]) ∧ CutAns w1 ((List.range (min len0 60)).map z) ((List.range (min len1 240)).map o) v1 v2 w')) := by
    obtain ⟨h0, h1, hb0, hb1⟩ := unhide HI
    exact cutS ⟨isInts_below h0.1 (unhide hB1), h0.2⟩ (isArcs_below h1 (unhide hB1)) hb0 hb1
  go_wp2_with fail
  refine (unhide CC).mono ?_
  intro r w2 hh
  obtain ⟨v1, v2, rfl, hCut⟩ := unhide hh
  clear CC hh HI
  obtain ⟨ks, hks, hkl⟩ : ∃ ks, ks = (List.range (min len0 60)).map z ∧ ks.length ≤ 60 := ⟨_, rfl, by simp; omega⟩
  obtain ⟨l, hl, hll⟩ : ∃ l, l = (List.range (min len1 240)).map o ∧ l.length ≤ 240 := ⟨_, rfl, by simp; omega⟩
  rw [← hks, ← hl] at hCut
  have hRG : RG w1 ks l v1 v2 w2 := hCut
  obtain ⟨x1, c1, e1, -⟩ := brow_shape hRG.2.1
  obtain ⟨x2, c2, e2, -⟩ := abrow_shape hRG.2.2.1
  obtain ⟨n1, hn1⟩ : ∃ n1, n1 = ks.length := ⟨_, rfl⟩
  obtain ⟨n2, hn2⟩ : ∃ n2, n2 = l.length := ⟨_, rfl⟩
  rw [← hn1] at e1
  rw [← hn2] at e2
  subst e1 e2
  obtain ⟨a1, m1, d1, wb, gv, dv, wd, a3, m3, d3, wf, ga, da, wh, q1, q2, q3, q4, y1, y2, hF⟩ := full_mem hRG (by omega) (by omega)
  rw [← hn1] at q2 y1 hF
  rw [← hn2] at q4 y2 hF
  obtain ⟨p1, hp1⟩ : ∃ p1, p1 = n1 + 1 := ⟨_, rfl⟩
  obtain ⟨p2, hp2⟩ : ∃ p2, p2 = n2 + 1 := ⟨_, rfl⟩
  rw [← hp1] at q2 y1 hF
  rw [← hp2] at q4 y2 hF
  have HR1 := hide q1
  have HR2 := hide q2
  have HR3 := hide q3
  have HR4 := hide q4
  have HF := hide hF
  have HN := hide (And.intro hn1 (And.intro hn2 (And.intro hkl hll)))
  have HP : Hid (p1 = n1 + 1 ∧ p2 = n2 + 1 ∧ p1 ≤ dv ∧ p2 ≤ da) := ⟨hp1, hp2, y1, y2⟩
  have HBW : Hid (Below w.heap.size w w1) := unhide hB1
  clear hRG hCut hks hl hkl hll hn1 hn2 hB1 q1 q2 q3 q4 hF hp1 hp2 y1 y2
  go_upto_region 5 with (at_builtin; first | (have h := HR1; clear HR1; refine Lib.wpList_append_run _ rfl _ _ 22 22 rfl _ _ rfl rfl _ _ (unhide h _) ?_) | (have h := HR2; clear HR2; refine Lib.wpList_append_run _ rfl _ _ 22 22 rfl _ _ rfl rfl _ _ (unhide h _) ?_) | (have h := HR3; clear HR3; refine Lib.wpList_append_run _ rfl _ _ 23 23 rfl _ _ rfl rfl _ _ (unhide h _) ?_) | (have h := HR4; clear HR4; refine Lib.wpList_append_run _ rfl _ _ 23 23 rfl _ _ rfl rfl _ _ (unhide h _) ?_))
  have z1 : (n1 : Int) ≤ (dv : Int) := by have := unhide HP; omega
  have z2 : (n2 : Int) ≤ (da : Int) := by have := unhide HP; omega
  have z3 : ¬ dv = 0 := by have := unhide HP; omega
  have z4 : ¬ da = 0 := by have := unhide HP; omega
  have CO1 := hide (ofU (unhide HF) (unhide HN).1 (unhide HN).2.1 (by have := unhide HN; omega) (by have := unhide HN; omega))
  refine wp_region_noPanic ?_
  refine regionL [] (fun y => True) (by kernel_rfl) trivial (fun hHeld => ?_)
  refine takeL (i := 0) (v := ?t2v0) (some 41) rfl rfl (by kernel_rfl) (by kernel_rfl) (by kernel_rfl) (by kernel_rfl) (by kernel_rfl) (fun _ _ _ h => h) (Or.inl ⟨by rfl, ?t2h0⟩) (by assumption) ?t2r0
  case t2h0 => (intro y hSu; (try dsimp only at hSu); go_simp; first | done | with_reducible rfl)
  (try simp only [Act.put, List.setIfInBounds_toArray, List.set_cons_zero, List.set_cons_succ])
  refine takeL (i := 1) (v := ?t2v1) (some 42) rfl rfl (by kernel_rfl) (by kernel_rfl) (by kernel_rfl) (by kernel_rfl) (by kernel_rfl) (fun _ _ _ h => h) (Or.inl ⟨by rfl, ?t2h1⟩) (by assumption) ?t2r1
  case t2h1 => (intro y hSu; (try dsimp only at hSu); go_simp; first | done | with_reducible rfl)
  (try simp only [Act.put, List.setIfInBounds_toArray, List.set_cons_zero, List.set_cons_succ])
  refine takeL (i := 2) (v := ?t2v2) (some 43) rfl rfl (by kernel_rfl) (by kernel_rfl) (by kernel_rfl) (by kernel_rfl) (by kernel_rfl) (fun _ _ _ h => h) (Or.inl ⟨by rfl, ?t2h2⟩) (by assumption) ?t2r2
  case t2h2 => (intro y hSu; (try dsimp only at hSu); go_simp; first | done | with_reducible rfl)
  (try simp only [Act.put, List.setIfInBounds_toArray, List.set_cons_zero, List.set_cons_succ])
  refine takeL (i := 3) (v := ?t2v3) (some 44) rfl rfl (by kernel_rfl) (by kernel_rfl) (by kernel_rfl) (by kernel_rfl) (by kernel_rfl) (fun _ _ _ h => h) (Or.inl ⟨by rfl, ?t2h3⟩) (by assumption) ?t2r3
  case t2h3 => (intro y hSu; (try dsimp only at hSu); go_simp; first | done | with_reducible rfl)
  (try simp only [Act.put, List.setIfInBounds_toArray, List.set_cons_zero, List.set_cons_succ])
  refine takeL (i := 4) (v := ?t2v4) (some 45) rfl rfl (by kernel_rfl) (by kernel_rfl) (by kernel_rfl) (by kernel_rfl) (by kernel_rfl) (fun _ _ _ h => h) (Or.inl ⟨by rfl, ?t2h4⟩) (by assumption) ?t2r4
  case t2h4 => (intro y hSu; (try dsimp only at hSu); go_simp; first | done | with_reducible rfl)
  (try simp only [Act.put, List.setIfInBounds_toArray, List.set_cons_zero, List.set_cons_succ])
  refine takeL (i := 5) (v := ?t2v5) (some 46) rfl rfl (by kernel_rfl) (by kernel_rfl) (by kernel_rfl) (by kernel_rfl) (by kernel_rfl) (fun _ _ _ h => h) (Or.inl ⟨by rfl, ?t2h5⟩) (by assumption) ?t2r5
  case t2h5 => (intro y hSu; (try dsimp only at hSu); go_simp; first | done | with_reducible rfl)
  (try simp only [Act.put, List.setIfInBounds_toArray, List.set_cons_zero, List.set_cons_succ])
  refine takeL (i := 6) (v := ?t2v6) (some 47) rfl rfl (by kernel_rfl) (by kernel_rfl) (by kernel_rfl) (by kernel_rfl) (by kernel_rfl) (fun _ _ _ h => h) (Or.inl ⟨by rfl, ?t2h6⟩) (by assumption) ?t2r6
  case t2h6 => (intro y hSu; (try dsimp only at hSu); go_simp; first | done | with_reducible rfl)
  (try simp only [Act.put, List.setIfInBounds_toArray, List.set_cons_zero, List.set_cons_succ])
  refine takeL (i := 7) (v := ?t2v7) (some 48) rfl rfl (by kernel_rfl) (by kernel_rfl) (by kernel_rfl) (by kernel_rfl) (by kernel_rfl) (fun _ _ _ h => h) (Or.inl ⟨by rfl, ?t2h7⟩) (by assumption) ?t2r7
  case t2h7 => (intro y hSu; (try dsimp only at hSu); go_simp; first | done | with_reducible rfl)
  (try simp only [Act.put, List.setIfInBounds_toArray, List.set_cons_zero, List.set_cons_succ])
  refine readyL (i := 8) (by kernel_rfl) rfl (fun K hK => ?_)
  go_simp
  refine (unhide CO1 _ (by exact ⟨rfl, rfl, rfl, Nat.le_refl _, fun _ _ => rfl⟩)).mono ?_
  intro r w3 hh
  obtain ⟨va, ca, A, rfl, hA, lA, b3⟩ := unhide hh
  clear CO1 hh
  (try dsimp only)
  refine hK.out _ _ (fun _ => trivial) ?_
  clear hK K
  (try simp only [Act.put, List.setIfInBounds_toArray, List.set_cons_zero, List.set_cons_succ])
  have hH4 := trivial
  refine takeL (i := 9) (v := ?t5v9) (some 40) rfl rfl (by kernel_rfl) (by kernel_rfl) (by kernel_rfl) (by kernel_rfl) (by kernel_rfl) (fun _ _ _ h => h) (Or.inl ⟨by rfl, ?t5h9⟩) (by assumption) ?t5r9
  case t5h9 => (intro y hSu; (try dsimp only at hSu); go_simp; first | done | with_reducible rfl)
  (try simp only [Act.put, List.setIfInBounds_toArray, List.set_cons_zero, List.set_cons_succ])
  refine takeL (i := 10) (v := ?t5v10) (some 50) rfl rfl (by kernel_rfl) (by kernel_rfl) (by kernel_rfl) (by kernel_rfl) (by kernel_rfl) (fun _ _ _ h => h) (Or.inl ⟨by rfl, ?t5h10⟩) (by assumption) ?t5r10
  case t5h10 => (intro y hSu; (try dsimp only at hSu); go_simp; first | done | with_reducible rfl)
  (try simp only [Act.put, List.setIfInBounds_toArray, List.set_cons_zero, List.set_cons_succ])
  refine takeL (i := 11) (v := ?t5v11) (some 51) rfl rfl (by kernel_rfl) (by kernel_rfl) (by kernel_rfl) (by kernel_rfl) (by kernel_rfl) (fun _ _ _ h => h) (Or.inl ⟨by rfl, ?t5h11⟩) (by assumption) ?t5r11
  case t5h11 => (intro y hSu; (try dsimp only at hSu); go_simp; first | done | with_reducible rfl)
  (try simp only [Act.put, List.setIfInBounds_toArray, List.set_cons_zero, List.set_cons_succ])
  refine readyL (i := 12) (by kernel_rfl) rfl (fun K hK => ?_)
  go_simp
  refine hK.out _ _ (fun _ => trivial) ?_
  clear hK K
  (try simp only [Act.put, List.setIfInBounds_toArray, List.set_cons_zero, List.set_cons_succ])
  have hH7 := trivial
  refine readyL (i := 13) (by kernel_rfl) rfl (fun K hK => ?_)
  go_simp
  refine hK.out _ _ (fun _ => trivial) ?_
  clear hK K
  (try simp only [Act.put, List.setIfInBounds_toArray, List.set_cons_zero, List.set_cons_succ])
  have hH9 := trivial
  refine doneL (by kernel_rfl) ?_ _
  refine NoPanic.normal ?_
  clear h hHeld
  have HF3 := hide ((unhide HF).below b3)
  have HA : Hid (OfA ks l ca A ∧ LLs wh va A w3 ∧ wh.heap.size ≤ w3.heap.size ∧ Below w.heap.size w w3) := ⟨hA, lA, b3.size, (unhide HBW).trans ((unhide HF3).1.mono (unhide HBW).size)⟩
  obtain ⟨al, ac, nl, ae, hnl⟩ : ∃ al ac nl, va = .slice al nl ac ∧ nl = A.length := by
    obtain ⟨L, lvs, hL⟩ := lA
    obtain ⟨x, c, e, -⟩ := hL.shape
    exact ⟨x, c, _, e, rfl⟩
  subst ae
  have HNL := hide hnl
  have HWH : Hid (w.heap.size ≤ wh.heap.size) := Nat.le_trans (unhide HBW).size (unhide HF).1.size
  have CO2 := hide (orderU (unhide HF3) (unhide HN).1 (unhide HN).2.1 (by have := unhide HN; omega) (by have := unhide HN; omega))
  clear hA lA b3 HF hnl HBW
  go_upto_region 6 with fail
  refine wp_region_noPanic ?_
  refine regionL [] (fun y => True) (by kernel_rfl) trivial (fun hHeld => ?_)
  refine takeL (i := 0) (v := ?t12v0) (some 53) rfl rfl (by kernel_rfl) (by kernel_rfl) (by kernel_rfl) (by kernel_rfl) (by kernel_rfl) (fun _ _ _ h => h) (Or.inl ⟨by rfl, ?t12h0⟩) (by assumption) ?t12r0
  case t12h0 => (intro y hSu; (try dsimp only at hSu); go_simp; first | done | with_reducible rfl)
  (try simp only [Act.put, List.setIfInBounds_toArray, List.set_cons_zero, List.set_cons_succ])
  refine takeL (i := 1) (v := ?t12v1) (some 54) rfl rfl (by kernel_rfl) (by kernel_rfl) (by kernel_rfl) (by kernel_rfl) (by kernel_rfl) (fun _ _ _ h => h) (Or.inl ⟨by rfl, ?t12h1⟩) (by assumption) ?t12r1
  case t12h1 => (intro y hSu; (try dsimp only at hSu); go_simp; first | done | with_reducible rfl)
  (try simp only [Act.put, List.setIfInBounds_toArray, List.set_cons_zero, List.set_cons_succ])
  refine takeL (i := 2) (v := ?t12v2) (some 55) rfl rfl (by kernel_rfl) (by kernel_rfl) (by kernel_rfl) (by kernel_rfl) (by kernel_rfl) (fun _ _ _ h => h) (Or.inl ⟨by rfl, ?t12h2⟩) (by assumption) ?t12r2
  case t12h2 => (intro y hSu; (try dsimp only at hSu); go_simp; first | done | with_reducible rfl)
  (try simp only [Act.put, List.setIfInBounds_toArray, List.set_cons_zero, List.set_cons_succ])
  refine takeL (i := 3) (v := ?t12v3) (some 56) rfl rfl (by kernel_rfl) (by kernel_rfl) (by kernel_rfl) (by kernel_rfl) (by kernel_rfl) (fun _ _ _ h => h) (Or.inl ⟨by rfl, ?t12h3⟩) (by assumption) ?t12r3
  case t12h3 => (intro y hSu; (try dsimp only at hSu); go_simp; first | done | with_reducible rfl)
  (try simp only [Act.put, List.setIfInBounds_toArray, List.set_cons_zero, List.set_cons_succ])
  refine takeL (i := 4) (v := ?t12v4) (some 57) rfl rfl (by kernel_rfl) (by kernel_rfl) (by kernel_rfl) (by kernel_rfl) (by kernel_rfl) (fun _ _ _ h => h) (Or.inl ⟨by rfl, ?t12h4⟩) (by assumption) ?t12r4
  case t12h4 => (intro y hSu; (try dsimp only at hSu); go_simp; first | done | with_reducible rfl)
  (try simp only [Act.put, List.setIfInBounds_toArray, List.set_cons_zero, List.set_cons_succ])
  refine takeL (i := 5) (v := ?t12v5) (some 58) rfl rfl (by kernel_rfl) (by kernel_rfl) (by kernel_rfl) (by kernel_rfl) (by kernel_rfl) (fun _ _ _ h => h) (Or.inl ⟨by rfl, ?t12h5⟩) (by assumption) ?t12r5
  case t12h5 => (intro y hSu; (try dsimp only at hSu); go_simp; first | done | with_reducible rfl)
  (try simp only [Act.put, List.setIfInBounds_toArray, List.set_cons_zero, List.set_cons_succ])
  refine takeL (i := 6) (v := ?t12v6) (some 59) rfl rfl (by kernel_rfl) (by kernel_rfl) (by kernel_rfl) (by kernel_rfl) (by kernel_rfl) (fun _ _ _ h => h) (Or.inl ⟨by rfl, ?t12h6⟩) (by assumption) ?t12r6
  case t12h6 => (intro y hSu; (try dsimp only at hSu); go_simp; first | done | with_reducible rfl)
  (try simp only [Act.put, List.setIfInBounds_toArray, List.set_cons_zero, List.set_cons_succ])
  refine takeL (i := 7) (v := ?t12v7) (some 60) rfl rfl (by kernel_rfl) (by kernel_rfl) (by kernel_rfl) (by kernel_rfl) (by kernel_rfl) (fun _ _ _ h => h) (Or.inl ⟨by rfl, ?t12h7⟩) (by assumption) ?t12r7
  case t12h7 => (intro y hSu; (try dsimp only at hSu); go_simp; first | done | with_reducible rfl)
  (try simp only [Act.put, List.setIfInBounds_toArray, List.set_cons_zero, List.set_cons_succ])
  refine readyL (i := 8) (by kernel_rfl) rfl (fun K hK => ?_)
  go_simp
  refine (unhide CO2 _ (by exact ⟨rfl, rfl, rfl, Nat.le_refl _, fun _ _ => rfl⟩)).mono ?_
  intro r w4 hh
  obtain ⟨vx, cx, X, rfl, hX, lX, b4⟩ := unhide hh
  clear CO2 hh
  (try dsimp only)
  refine hK.out _ _ (fun _ => trivial) ?_
  clear hK K
  (try simp only [Act.put, List.setIfInBounds_toArray, List.set_cons_zero, List.set_cons_succ])
  have hH14 := trivial
  refine takeL (i := 9) (v := ?t15v9) (some 52) rfl rfl (by kernel_rfl) (by kernel_rfl) (by kernel_rfl) (by kernel_rfl) (by kernel_rfl) (fun _ _ _ h => h) (Or.inl ⟨by rfl, ?t15h9⟩) (by assumption) ?t15r9
  case t15h9 => (intro y hSu; (try dsimp only at hSu); go_simp; first | done | with_reducible rfl)
  (try simp only [Act.put, List.setIfInBounds_toArray, List.set_cons_zero, List.set_cons_succ])
  refine takeL (i := 10) (v := ?t15v10) (some 62) rfl rfl (by kernel_rfl) (by kernel_rfl) (by kernel_rfl) (by kernel_rfl) (by kernel_rfl) (fun _ _ _ h => h) (Or.inl ⟨by rfl, ?t15h10⟩) (by assumption) ?t15r10
  case t15h10 => (intro y hSu; (try dsimp only at hSu); go_simp; first | done | with_reducible rfl)
  (try simp only [Act.put, List.setIfInBounds_toArray, List.set_cons_zero, List.set_cons_succ])
  refine takeL (i := 11) (v := ?t15v11) (some 63) rfl rfl (by kernel_rfl) (by kernel_rfl) (by kernel_rfl) (by kernel_rfl) (by kernel_rfl) (fun _ _ _ h => h) (Or.inl ⟨by rfl, ?t15h11⟩) (by assumption) ?t15r11
  case t15h11 => (intro y hSu; (try dsimp only at hSu); go_simp; first | done | with_reducible rfl)
  (try simp only [Act.put, List.setIfInBounds_toArray, List.set_cons_zero, List.set_cons_succ])
  refine readyL (i := 12) (by kernel_rfl) rfl (fun K hK => ?_)
  go_simp
  refine hK.out _ _ (fun _ => trivial) ?_
  clear hK K
  (try simp only [Act.put, List.setIfInBounds_toArray, List.set_cons_zero, List.set_cons_succ])
  have hH17 := trivial
  refine readyL (i := 13) (by kernel_rfl) rfl (fun K hK => ?_)
  go_simp
  refine hK.out _ _ (fun _ => trivial) ?_
  clear hK K
  (try simp only [Act.put, List.setIfInBounds_toArray, List.set_cons_zero, List.set_cons_succ])
  have hH19 := trivial
  refine doneL (by kernel_rfl) ?_ _
  refine NoPanic.normal ?_
  clear hHeld
  obtain ⟨xl, xc, xe, -⟩ := brow_shape lX
  obtain ⟨nx, hnx⟩ : ∃ nx, nx = X.length := ⟨_, rfl⟩
  rw [← hnx] at xe
  subst xe
  have HF4 := hide ((unhide HF3).below b4)
  have ecx := of_or (unhide HA).1 hX
  subst ecx
  have HX : Hid (OrA ks l ca X ∧ nx = X.length ∧ BRow w3.heap.size w4 (.slice xl nx xc) X ∧ Below w3.heap.size w3 w4) := ⟨hX, hnx, lX, b4⟩
  have CO3 := hide (acU (unhide HF4) (unhide HN).1 (unhide HN).2.1 (by have := unhide HN; omega) (by have := unhide HN; omega))
  clear hX lX b4 HF3 hnx
  go_upto_region 7 with fail
  refine wp_region_noPanic ?_
  refine regionL [] (fun y => True) (by kernel_rfl) trivial (fun hHeld => ?_)
  refine takeL (i := 0) (v := ?t22v0) (some 64) rfl rfl (by kernel_rfl) (by kernel_rfl) (by kernel_rfl) (by kernel_rfl) (by kernel_rfl) (fun _ _ _ h => h) (Or.inl ⟨by rfl, ?t22h0⟩) (by assumption) ?t22r0
  case t22h0 => (intro y hSu; (try dsimp only at hSu); go_simp; first | done | with_reducible rfl)
  (try simp only [Act.put, List.setIfInBounds_toArray, List.set_cons_zero, List.set_cons_succ])
  refine takeL (i := 1) (v := ?t22v1) (some 65) rfl rfl (by kernel_rfl) (by kernel_rfl) (by kernel_rfl) (by kernel_rfl) (by kernel_rfl) (fun _ _ _ h => h) (Or.inl ⟨by rfl, ?t22h1⟩) (by assumption) ?t22r1
  case t22h1 => (intro y hSu; (try dsimp only at hSu); go_simp; first | done | with_reducible rfl)
  (try simp only [Act.put, List.setIfInBounds_toArray, List.set_cons_zero, List.set_cons_succ])
  refine takeL (i := 2) (v := ?t22v2) (some 66) rfl rfl (by kernel_rfl) (by kernel_rfl) (by kernel_rfl) (by kernel_rfl) (by kernel_rfl) (fun _ _ _ h => h) (Or.inl ⟨by rfl, ?t22h2⟩) (by assumption) ?t22r2
  case t22h2 => (intro y hSu; (try dsimp only at hSu); go_simp; first | done | with_reducible rfl)
  (try simp only [Act.put, List.setIfInBounds_toArray, List.set_cons_zero, List.set_cons_succ])
  refine takeL (i := 3) (v := ?t22v3) (some 67) rfl rfl (by kernel_rfl) (by kernel_rfl) (by kernel_rfl) (by kernel_rfl) (by kernel_rfl) (fun _ _ _ h => h) (Or.inl ⟨by rfl, ?t22h3⟩) (by assumption) ?t22r3
  case t22h3 => (intro y hSu; (try dsimp only at hSu); go_simp; first | done | with_reducible rfl)
  (try simp only [Act.put, List.setIfInBounds_toArray, List.set_cons_zero, List.set_cons_succ])
  refine takeL (i := 4) (v := ?t22v4) (some 68) rfl rfl (by kernel_rfl) (by kernel_rfl) (by kernel_rfl) (by kernel_rfl) (by kernel_rfl) (fun _ _ _ h => h) (Or.inl ⟨by rfl, ?t22h4⟩) (by assumption) ?t22r4
  case t22h4 => (intro y hSu; (try dsimp only at hSu); go_simp; first | done | with_reducible rfl)
  (try simp only [Act.put, List.setIfInBounds_toArray, List.set_cons_zero, List.set_cons_succ])
  refine takeL (i := 5) (v := ?t22v5) (some 69) rfl rfl (by kernel_rfl) (by kernel_rfl) (by kernel_rfl) (by kernel_rfl) (by kernel_rfl) (fun _ _ _ h => h) (Or.inl ⟨by rfl, ?t22h5⟩) (by assumption) ?t22r5
  case t22h5 => (intro y hSu; (try dsimp only at hSu); go_simp; first | done | with_reducible rfl)
  (try simp only [Act.put, List.setIfInBounds_toArray, List.set_cons_zero, List.set_cons_succ])
  refine takeL (i := 6) (v := ?t22v6) (some 70) rfl rfl (by kernel_rfl) (by kernel_rfl) (by kernel_rfl) (by kernel_rfl) (by kernel_rfl) (fun _ _ _ h => h) (Or.inl ⟨by rfl, ?t22h6⟩) (by assumption) ?t22r6
  case t22h6 => (intro y hSu; (try dsimp only at hSu); go_simp; first | done | with_reducible rfl)
  (try simp only [Act.put, List.setIfInBounds_toArray, List.set_cons_zero, List.set_cons_succ])
  refine takeL (i := 7) (v := ?t22v7) (some 71) rfl rfl (by kernel_rfl) (by kernel_rfl) (by kernel_rfl) (by kernel_rfl) (by kernel_rfl) (fun _ _ _ h => h) (Or.inl ⟨by rfl, ?t22h7⟩) (by assumption) ?t22r7
  case t22h7 => (intro y hSu; (try dsimp only at hSu); go_simp; first | done | with_reducible rfl)
  (try simp only [Act.put, List.setIfInBounds_toArray, List.set_cons_zero, List.set_cons_succ])
  refine readyL (i := 8) (by kernel_rfl) rfl (fun K hK => ?_)
  go_simp
  refine (unhide CO3 _ (by exact ⟨rfl, rfl, rfl, Nat.le_refl _, fun _ _ => rfl⟩)).mono ?_
  intro r w5 hh
  obtain ⟨yb, yc, rfl, b5⟩ := unhide hh
  clear CO3 hh
  (try dsimp only)
  refine hK.out _ _ (fun _ => trivial) ?_
  clear hK K
  (try simp only [Act.put, List.setIfInBounds_toArray, List.set_cons_zero, List.set_cons_succ])
  have hH24 := trivial
  refine doneL (by kernel_rfl) ?_ _
  refine NoPanic.normal ?_
  clear hHeld
  have HF5 := hide ((unhide HF4).below b5)
  have HB5 := hide b5
  clear b5 HF4
  have hC := (unhide HF5).cells (unhide HN).1 (unhide HN).2.1
  obtain ⟨k1, k2, k3⟩ := hC
  have CS := hide (sameInts9 ((unhide HF5).rows (unhide HN).1 (unhide HN).2.1).1 (brow_at0 (unhide HF5).2.1) (by have := unhide HN; omega))
  rw [decide_eq_true rfl] at CS
  have hq : ∀ W : World, (Op.equalIn 10000 47 (.agg #[.int .i64 7, .int .i64 8]) (.agg #[.int .i64 7, .int .i64 8])).run Try.prog W = .ok true W := fun W => eqAR (7, 8) (7, 8) W
  have z5 : (n1 : Int) < (p1 : Int) := by have := unhide HP; omega
  have z6 : (n2 : Int) < (p2 : Int) := by have := unhide HP; omega
  go_wp2_with fail
  refine (unhide CS).mono ?_
  rintro e w6 ⟨rfl, qs, hw6⟩
  clear CS
  have k1 : w6.cell? ⟨gv, n1, none⟩ = some (.int .i64 777) := by rw [hw6]; exact k1
  have k2 : w6.cell? ⟨ga, n2 * 2, none⟩ = some (.int .i64 7) := by rw [hw6]; exact k2
  have k3 : w6.cell? ⟨ga, n2 * 2 + 1, none⟩ = some (.int .i64 8) := by rw [hw6]; exact k3
  have HB6 : Hid (Below w4.heap.size w4 w6 ∧ FG w1 ks l (.slice x1 n1 c1) (.slice x2 n2 c2) (.slice (some ⟨gv, 0, none⟩) p1 dv) (.slice (some ⟨ga, 0, none⟩) p2 da) w6) := by
    rw [hw6]
    have hb : Below w5.heap.size w5 (w5.drewN qs) := ⟨rfl, rfl, rfl, Nat.le_refl _, fun _ _ => rfl⟩
    exact ⟨(unhide HB5).trans (hb.mono (unhide HB5).size), (unhide HF5).below hb⟩
  clear hw6 HF5 HB5
  go_upto_region 11 with fail
  clear k1 k2 k3 hq z1 z2 z3 z4 z5 z6
  go_loopw [99, 11] (fun s99 s11 wr => ∃ i q : Nat, s99 = .int .i64 (i : Nat) ∧ wr = w6.drewN q ∧ i ≤ n2) (fun s99 _ _ => n2 - (intOf s99).toNat)
  case atStart => exact ⟨0, 0, rfl, rfl, Nat.zero_le _⟩
  case round =>
    obtain ⟨i, q, rfl, hwr, hi⟩ := hrel
    have HWR := hide hwr
    by_cases hlt : i < n2
    · obtain ⟨⟨u, x⟩, hux⟩ : ∃ a, l[i]? = some a := ⟨_, List.getElem?_eq_getElem (by have := unhide HN; omega)⟩
      have hF := (unhide HB6).2
      obtain ⟨k1, k2⟩ := hF.arcs hux
      obtain ⟨g2, hg2⟩ : ∃ g2, x2 = some ⟨g2, 0, none⟩ := abrow_some hF.2.2.1 (by have := unhide HN; omega)
      subst hg2
      obtain ⟨k3, k4⟩ := arow_at (arow_zero hF.2.2.1) hux
      have k1 : wr.cell? ⟨ga, i * 2, none⟩ = some (.int .i64 u) := by rw [hwr]; exact k1
      have k2 : wr.cell? ⟨ga, i * 2 + 1, none⟩ = some (.int .i64 x) := by rw [hwr]; exact k2
      have k3 : wr.cell? ⟨g2, i * 2, none⟩ = some (.int .i64 u) := by rw [hwr]; exact k3
      have k4 : wr.cell? ⟨g2, i * 2 + 1, none⟩ = some (.int .i64 x) := by rw [hwr]; exact k4
      have hq : ∀ W : World, (Op.equalIn 10000 47 (.agg #[.int .i64 u, .int .i64 x]) (.agg #[.int .i64 u, .int .i64 x])).run Try.prog W = .ok true W := fun W => by have := eqAR (u, x) (u, x) W; rwa [decide_eq_true rfl] at this
      have z1 : (i : Int) < (n2 : Int) := by omega
      have z2 : (i : Int) < (p2 : Int) := by have := unhide HP; omega
      obtain ⟨i1, hi1⟩ : ∃ i1, i1 = i + 1 := ⟨_, rfl⟩
      have zw : Hid (wrap64 ((i : Int) + 1) = (i1 : Int)) := by have := unhide HN; show wrap64 ((i : Int) + 1) = (i1 : Int); unfold wrap64; omega
      have HJ : Hid (i1 ≤ n2 ∧ n2 - i1 < n2 - i) := ⟨by omega, by omega⟩
      clear hux hF hi hlt hwr hi1
      go_wp2_with fail
      go_quiet (fail)
      go_wp2_with fail
      (try rw [unhide zw])
      exact ⟨⟨i1, _, rfl, by rw [unhide HWR]; exact World.drewN_drewN _ _ _, (unhide HJ).1⟩, by have := (unhide HJ).2; simp [intOf]; omega⟩
    · have z1 : ¬ (i : Int) < (n2 : Int) := by omega
      have HB7 : Hid (Below w4.heap.size w4 wr ∧ Below w.heap.size w wr) := by
        rw [hwr]
        have hb : Below w6.heap.size w6 (w6.drewN q) := ⟨rfl, rfl, rfl, Nat.le_refl _, fun _ _ => rfl⟩
        have h1 := (unhide HB6).1.trans (hb.mono (unhide HB6).1.size)
        have h2 := (unhide HA).2.2.2
        have h3 := (unhide HX).2.2.2
        exact ⟨h1, (h2.trans (h3.mono h2.size)).trans (h1.mono (Nat.le_trans h2.size h3.size))⟩
      clear hwr HWR HB6 hi hlt
      by_cases hz : ca = 0
      · subst hz
        clear HNL HP
        go_upto_region 16 with fail
        iterate 14 go_step
        refine ownTail _ _ _ _ _ _ _ _ _ _ _ _ _ _ _ _ _ _ _ _ _ _ _ _ _ _ _ _ _ _ _ _ _ _ _ _ _ _ _ _ _ _ _ _ _ _ _ _ _ _ _ _ _ _ _ _ _ _ _ _ _ _ _ _ _ _ _ _ _ _ _ _ _ _ _ _ _ _ _ _ _ _ _ _ _ _ _ _ _ _ _ _ _ _ _ _ _ _ _ _ _ _ _ _ _ _ _ _ _ _ _ _ _ _ _ _ _ _ _ _ _ _ _ _ _ _ _ _ _ _ _ _ _ _ _ _ _ _ _ _ _ _ _ _ _ _ _ _ _ _ _ _ _ _ _ _ _ _ _ _ _ _ _ _ _ _ _ _ _ _ _ _ _ _ _ _ _ _ _ _ _ _ _ _ _ _ _ _ _ _ _ _ _ _ _ _ _ _ _ _ _ _ _ _ _ _ _ _ _ _ _ _ _ _ _ _ _ _ _ _ _ _ _ _ _ _ _ _ HA HX HB7 HN HWH ?_
        rintro y12 y13 y14 y15 y16 y17 y18 y19 y20 y122 y123 y124 y125 y126 y127 y128 y129 y130 y131 y132 y133 y134 y135 y136 y137 y138 y139 y140 y141 y142 y143 y144 y145 y146 y147 y148 y149 y150 y151 y152 y153 y154 y155 y156 y157 y158 y159 y160 y161 y162 y163 y164 y165 y166 y167 y168 y169 y170 y171 y172 y173 y174 y175 y176 y177 y178 y179 y180 y181 y182 y183 y184 y185 y186 y187 y188 y189 y190 y191 y192 y193 y194 y195 y196 y197 y198 y199 y200 y201 y202 y203 y204 y205 y206 y207 y208 y209 y210 y211 y212 y213 y214 y215 y216 y217 y218 y219 y220 y221 y222 y223 y224 y225 y226 y227 y228 wz hbz
        have HEND := hide hbz
        clear hbz
        go_ret
        exact ⟨rfl, unhide HEND⟩
      · have hz2 : (ca == 0) = false := by simpa using hz
        have hz3 : (ca != 0) = true := by simpa using hz
        obtain ⟨e1, e2⟩ : nl = 0 ∧ nx = 0 := by
          have h1 := (unhide HA).1
          have h2 := (unhide HX).1
          have h3 := unhide HNL
          have h4 := (unhide HX).2.1
          constructor
          · rcases h1 with ⟨-, -, rfl⟩ | ⟨-, -, -, rfl⟩ | ⟨-, -, q, -⟩
            · exact h3
            · exact h3
            · exact absurd q hz
          · rcases h2 with ⟨-, -, rfl⟩ | ⟨-, -, -, rfl⟩ | ⟨-, -, q, -⟩
            · exact h4
            · exact h4
            · exact absurd q hz
        subst e1 e2
        clear hz
        go_wp2_with fail
        go_ret
        exact ⟨rfl, (unhide HB7).2⟩
end Go.Proofs.Ytdpdghhieokcfaa
