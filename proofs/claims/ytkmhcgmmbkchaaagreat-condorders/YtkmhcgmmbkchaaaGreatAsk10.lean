/- asks, walked. -/
import Derived.Test.YtkmhcgmmbkchaaaGreatAskM10
import Derived.Test.YtkmhcgmmbkchaaaGreatR107
namespace Go.Proofs.YtkmhcgmmbkchaaaGreat
open Go.RowKit Go.Maps T9
set_option maxHeartbeats 4000000 in
set_option maxRecDepth 100000 in
theorem asksS {L : Nat → Nat} {w : World} {c p m ma ml me : Nat} {lk : Int} {V : List Int} {es : List EdV} {N : Nat} {h : Nat → Nat} {vv ev cv0 : Value} {rd wr_0 u v : Int} (hK : KSt L w c p m ma ml me lk V es N) (hG : GOk V es N) (hN : N ≤ 1000) (H : Heads (nextOf V (arcsE es)) V.length h) (hc : LLr w cv0 (compsV V h V.length)) (hou : okN u) (hov : okN v) :
    Calls Tryz.prog 29 #[.pointer (some ⟨c, 0, none⟩), .agg #[vv, ev, .int .i64 rd, .int .i64 wr_0], cv0, .int .i64 u, .int .i64 v] w fun e w' => e = .returned (.bool true) ∧ Hid (Below w.heap.size w w') := by
  have hb := below_new w (oG vv ev rd wr_0)
  obtain ⟨S, h1, h2⟩ := hK
  have K := h1.below hb
  have LC := llr_below hc hb
  have hcl : (compsV V h V.length).length ≤ 1000 := by
    have h2 := outR_len V h V.length V.length
    rw [outR_all] at h2
    have := hG.lenV; omega
  have hcs : ∀ l ∈ compsV V h V.length, l.length ≤ 1000 := fun l hl => by
    obtain ⟨i, hi⟩ := List.getElem?_of_mem hl
    obtain ⟨m', hm, e⟩ := comp_at9.1 hi
    rw [e]
    have := partTo_le h V.length m'
    have := hG.lenV
    simp only [cv, List.length_map]; omega
  have CH := hide (kHeadS K.box K.at_ hou)
  have CU := hide (compS (x := u) LC (by omega) (fun l hl => by have := hcs l hl; omega))
  have CV := hide (compS (x := v) LC (by omega) (fun l hl => by have := hcs l hl; omega))
  have CS := hide (kSameS K.box K.at_ hou hov)
  have HB := hide hb
  obtain ⟨cx, cc, hcv, hcells⟩ := LC
  obtain ⟨ck, hck⟩ : ∃ ck, ck = (compsV V h V.length).length := ⟨_, rfl⟩
  rw [← hck] at hcv
  by_cases hu : u ∈ V
  · obtain ⟨i, cs, hi⟩ := ask_in hG H hu
    rw [hi.comp] at CU
    obtain ⟨j, hj⟩ : ∃ j, j = compAt (compsV V h V.length) v := ⟨_, rfl⟩
    rw [← hj] at CV
    have hij : (i : Int) = j ↔ SP S u v := by
      rw [hj, ask_same hG H hi, h2 u v]
      exact ⟨fun q => ⟨hu, q⟩, fun q => q.2⟩
    obtain ⟨x, hx, hux, -⟩ := h2.self.2 hu
    have hxc := ask_members h2 hi K.at_.fam hx hux
    have ht := K.tot_
    have CM : Hid (∀ q, Calls Tryz.prog 11 #[.pointer (some ⟨c, 0, none⟩), .int .i64 u] ((w.alloc (oG vv ev rd wr_0)).drewN q) fun e w' => ∃ a n c, e = .returned (.slice a n c) ∧ Hid (NRow w' (.slice a n c) cs ∧ Below (w.alloc (oG vv ev rd wr_0)).heap.size (w.alloc (oG vv ev rd wr_0)) w')) := fun q => by
      have Kq := K.below (below_drewN (Below.refl _ (w.alloc (oG vv ev rd wr_0))) q)
      refine (kMembersF (Q := fun v' w' => BRow ((w.alloc (oG vv ev rd wr_0)).drewN q).heap.size w' v' x.ks ∧ Below ((w.alloc (oG vv ev rd wr_0)).drewN q).heap.size ((w.alloc (oG vv ev rd wr_0)).drewN q) w') Kq.box ((membersN u _ Kq.at_ hx hux (by omega)).mono fun e w' hh => hh)).mono ?_
      rintro e w' ⟨v', rfl, hq⟩
      obtain ⟨q1, q2⟩ := unhide hq
      rw [hxc] at q1
      obtain ⟨a, c', rfl, -⟩ := brow_shape q1
      exact ⟨a, _, c', rfl, brow_at0 q1, (below_drewN (Below.refl _ _) q).trans q2⟩
    obtain ⟨gI, yv, e1, e2, e3⟩ := hcells i cs hi.at_
    have HHD : Hid (∀ k, SP S u k → (∀ y, SP S u y → k ≤ y) → ∃ l, cs = k :: l) := fun k h3 h4 => ask_head h2 hu hi h3 h4
    have hlt : i < ck := by rw [hck]; exact (List.getElem?_eq_some_iff.1 hi.at_).1
    have zi : (i : Int) < (ck : Int) := by omega
    have z0 : (0 : Int) ≤ (i : Int) := by omega
    have HL : Hid (cs.length ≤ 1000) := hcs cs (List.mem_of_getElem? hi.at_)
    have HS : Hid (SP S u u) := h2.self.2 hu
    have HIJ := hide hij
    subst e1
    subst hcv
    clear hb h1 h2 K hcl hcs hc hG hN H hou hov hu hi hj hij hx hux hxc ht hck hcells hlt
    have HE3 := hide e3
    clear e3
    go_enter Tryz.func29, Tryz.ntmps29
    go_upto_region 1 with fail
    change Code.wp _ _ _ _ (w.alloc (oG vv ev rd wr_0))
    generalize w.alloc (oG vv ev rd wr_0) = wz at *
    go_wp2_with fail
    refine (unhide CH).mono ?_
    rintro e w1 ⟨k, t, rfl, hq0⟩
    obtain ⟨hq, hw'⟩ := unhide hq0
    clear hq0
    rw [hw']
    clear hw' w1
    rcases hq with ⟨-, -, q⟩ | ⟨rfl, q1, q2⟩
    · exact absurd (unhide HS) q
    obtain ⟨l, hl⟩ := unhide HHD k q1 q2
    subst hl
    clear CH HHD q1 q2 HS
    obtain ⟨gJ, yc, hyv⟩ : ∃ gJ yc, yv = .slice (some ⟨gJ, 0, none⟩) (k :: l).length yc := by
      rcases nrow_shape (unhide HE3) with ⟨-, q⟩ | ⟨g, c', q⟩
      · cases q
      · exact ⟨g, c', q⟩
    subst hyv
    have e4 := brow_at (unhide HE3) (j := 0) (e := k) rfl
    have z5 : (0 : Int) < ((k :: l).length : Int) := by simp only [List.length_cons]; omega
    have z6 : 0 < (k :: l).length := by simp only [List.length_cons]; omega
    have CI : Hid (∀ W a n c', NRow W (.slice a n c') (k :: l) → NRow W (.slice (some ⟨gJ, 0, none⟩) (k :: l).length yc) (k :: l) → Calls Tryz.prog 17 #[.slice a n c', .slice (some ⟨gJ, 0, none⟩) (k :: l).length yc] W fun e w' => e = .returned (.bool true) ∧ Hid (∃ q, w' = W.drewN q)) := fun W a n c' n1 n2 => (sameInts9 n1 n2 (by have := unhide HL; omega)).mono fun e w' hh => ⟨by rw [hh.1, decide_eq_true rfl], hh.2⟩
    have HZ : Hid (∀ W, Below wz.heap.size wz W → NRow W (.slice (some ⟨gJ, 0, none⟩) (k :: l).length yc) (k :: l) ∧ W.cell? ⟨gI, i, none⟩ = some (.slice (some ⟨gJ, 0, none⟩) (k :: l).length yc) ∧ W.cell? ⟨gJ, 0, none⟩ = some (.int .i64 k)) := fun W hW => by
      have n2 := nrow_below (unhide HE3) hW
      have hgl : gI < wz.heap.size := by
        have q := e2
        unfold World.cell? at q
        rcases Nat.lt_or_ge gI wz.heap.size with z | z
        · exact z
        · rw [Array.getElem?_eq_none z] at q; cases q
      exact ⟨n2, (hW.cell (p := ⟨gI, i, none⟩) hgl).trans e2, brow_at n2 (j := 0) (e := k) rfl⟩
    clear HE3 HL
    generalize (k :: l).length = nn at *
    go_wp2_with fail
    refine (unhide CU).mono ?_
    rintro e w' ⟨rfl, rfl⟩
    clear CU
    go_wp2_with fail
    refine (unhide CV).mono ?_
    rintro e w' ⟨rfl, rfl⟩
    clear CV
    go_wp2_with fail
    refine (unhide CS).mono ?_
    rintro e w' ⟨t, rfl, HQ⟩
    obtain ⟨hq, rfl⟩ := unhide HQ
    clear CS HQ
    cases t with
    | true =>
      obtain rfl := (unhide HIJ).2 (hq.1 rfl)
      clear HIJ hq
      go_upto_region 7 with fail
      refine wp_region_noPanic ?_
      refine regionL [] (fun y => y.cell? ⟨gI, i, none⟩ = some (.slice (some ⟨gJ, 0, none⟩) nn yc) ∧ y.cell? ⟨gJ, 0, none⟩ = some (.int .i64 k)) (by kernel_rfl) ⟨e2, e4⟩ (fun hHeld => ?_)
      refine takeL (i := 0) (v := ?t2v0) (some 56) rfl rfl (by kernel_rfl) (by kernel_rfl) (by kernel_rfl) (by kernel_rfl) (by kernel_rfl) (fun _ _ _ h => h) (Or.inl ⟨by rfl, ?t2h0⟩) (by assumption) ?t2r0
      case t2h0 => (intro y hSu; (try dsimp only at hSu); go_simp; first | done | with_reducible rfl)
      (try simp only [Act.put, List.setIfInBounds_toArray, List.set_cons_zero, List.set_cons_succ])
      refine takeL (i := 1) (v := ?t2v1) (some 57) rfl rfl (by kernel_rfl) (by kernel_rfl) (by kernel_rfl) (by kernel_rfl) (by kernel_rfl) (fun _ _ _ h => h) (Or.inl ⟨by rfl, ?t2h1⟩) (by assumption) ?t2r1
      case t2h1 => (intro y hSu; (try dsimp only at hSu); go_simp; first | done | with_reducible rfl)
      (try simp only [Act.put, List.setIfInBounds_toArray, List.set_cons_zero, List.set_cons_succ])
      refine takeL (i := 2) (v := ?t2v2) (some 58) rfl rfl (by kernel_rfl) (by kernel_rfl) (by kernel_rfl) (by kernel_rfl) (by kernel_rfl) (fun _ _ _ h => h) (Or.inl ⟨by rfl, ?t2h2⟩) (by assumption) ?t2r2
      case t2h2 => (intro y hSu; (try dsimp only at hSu); go_simp; first | done | with_reducible rfl)
      (try simp only [Act.put, List.setIfInBounds_toArray, List.set_cons_zero, List.set_cons_succ])
      refine takeL (i := 3) (v := ?t2v3) (some 59) rfl rfl (by kernel_rfl) (by kernel_rfl) (by kernel_rfl) (by kernel_rfl) (by kernel_rfl) (fun _ _ _ h => h) (Or.inl ⟨by rfl, ?t2h3⟩) (by assumption) ?t2r3
      case t2h3 => (intro y hSu; (try dsimp only at hSu); go_simp; first | done | with_reducible rfl)
      (try simp only [Act.put, List.setIfInBounds_toArray, List.set_cons_zero, List.set_cons_succ])
      refine takeL (i := 4) (v := ?t2v4) (some 60) rfl rfl (by kernel_rfl) (by kernel_rfl) (by kernel_rfl) (by kernel_rfl) (by kernel_rfl) (fun _ _ _ h => h) (Or.inl ⟨by rfl, ?t2h4⟩) (by assumption) ?t2r4
      case t2h4 => (intro y hSu; (try dsimp only at hSu); go_simp; first | done | with_reducible rfl)
      (try simp only [Act.put, List.setIfInBounds_toArray, List.set_cons_zero, List.set_cons_succ])
      refine takeL (i := 5) (v := ?t2v5) (some 61) rfl rfl (by kernel_rfl) (by kernel_rfl) (by kernel_rfl) (by kernel_rfl) (by kernel_rfl) (fun _ _ _ h => h) (Or.inl ⟨by rfl, ?t2h5⟩) (by assumption) ?t2r5
      case t2h5 => (intro y hSu; (try dsimp only at hSu); go_simp; first | done | with_reducible rfl)
      (try simp only [Act.put, List.setIfInBounds_toArray, List.set_cons_zero, List.set_cons_succ])
      refine takeL (i := 6) (v := ?t2v6) (some 62) rfl rfl (by kernel_rfl) (by kernel_rfl) (by kernel_rfl) (by kernel_rfl) (by kernel_rfl) (fun _ _ _ h => h) (Or.inl ⟨by rfl, ?t2h6⟩) (by assumption) ?t2r6
      case t2h6 => (intro y hSu; (try dsimp only at hSu); go_simp; first | done | with_reducible rfl)
      (try simp only [Act.put, List.setIfInBounds_toArray, List.set_cons_zero, List.set_cons_succ])
      refine takeL (i := 7) (v := ?t2v7) (some 63) rfl rfl (by kernel_rfl) (by kernel_rfl) (by kernel_rfl) (by kernel_rfl) (by kernel_rfl) (fun _ _ _ h => h) (Or.inl ⟨by rfl, ?t2h7⟩) (by assumption) ?t2r7
      case t2h7 => (intro y hSu; (try dsimp only at hSu); go_simp; first | done | with_reducible rfl)
      (try simp only [Act.put, List.setIfInBounds_toArray, List.set_cons_zero, List.set_cons_succ])
      refine takeL (i := 8) (v := ?t2v8) (some 64) rfl rfl (by kernel_rfl) (by kernel_rfl) (by kernel_rfl) (by kernel_rfl) (by kernel_rfl) (fun _ _ _ h => h) (Or.inl ⟨by rfl, ?t2h8⟩) (by assumption) ?t2r8
      case t2h8 => (intro y hSu; (try dsimp only at hSu); go_simp; first | done | with_reducible rfl)
      (try simp only [Act.put, List.setIfInBounds_toArray, List.set_cons_zero, List.set_cons_succ])
      refine takeL (i := 9) (v := ?t2v9) (some 65) rfl rfl (by kernel_rfl) (by kernel_rfl) (by kernel_rfl) (by kernel_rfl) (by kernel_rfl) (fun _ _ _ h => h) (Or.inl ⟨by rfl, ?t2h9⟩) (by assumption) ?t2r9
      case t2h9 => (intro y hSu; (try dsimp only at hSu); go_simp; first | done | with_reducible rfl)
      (try simp only [Act.put, List.setIfInBounds_toArray, List.set_cons_zero, List.set_cons_succ])
      refine takeL (i := 10) (v := ?t2v10) (some 66) rfl rfl (by kernel_rfl) (by kernel_rfl) (by kernel_rfl) (by kernel_rfl) (by kernel_rfl) (fun _ _ _ h => h) (Or.inl ⟨by rfl, ?t2h10⟩) (by assumption) ?t2r10
      case t2h10 => (intro y hSu; (try dsimp only at hSu); go_simp; first | done | with_reducible rfl)
      (try simp only [Act.put, List.setIfInBounds_toArray, List.set_cons_zero, List.set_cons_succ])
      refine takeL (i := 12) (v := ?t2v12) (some 68) rfl rfl (by kernel_rfl) (by kernel_rfl) (by kernel_rfl) (by kernel_rfl) (by kernel_rfl) (fun _ _ _ h => h) (Or.inl ⟨by rfl, ?t2h12⟩) (by assumption) ?t2r12
      case t2h12 => (intro y hSu; (try dsimp only at hSu); go_simp; first | done | with_reducible rfl)
      (try simp only [Act.put, List.setIfInBounds_toArray, List.set_cons_zero, List.set_cons_succ])
      refine takeL (i := 13) (v := ?t2v13) (some 69) rfl rfl (by kernel_rfl) (by kernel_rfl) (by kernel_rfl) (by kernel_rfl) (by kernel_rfl) (fun _ _ _ h => h) (Or.inl ⟨by rfl, ?t2h13⟩) (by assumption) ?t2r13
      case t2h13 => (intro y hSu; (try dsimp only at hSu); go_simp; first | done | with_reducible rfl)
      (try simp only [Act.put, List.setIfInBounds_toArray, List.set_cons_zero, List.set_cons_succ])
      refine takeL (i := 14) (v := ?t2v14) (some 70) rfl rfl (by kernel_rfl) (by kernel_rfl) (by kernel_rfl) (by kernel_rfl) (by kernel_rfl) (fun _ _ _ h => h) (Or.inl ⟨by rfl, ?t2h14⟩) (by assumption) ?t2r14
      case t2h14 => (intro y hSu; (try dsimp only at hSu); go_simp; first | done | with_reducible rfl)
      (try simp only [Act.put, List.setIfInBounds_toArray, List.set_cons_zero, List.set_cons_succ])
      refine takeL (i := 15) (v := ?t2v15) (some 71) rfl rfl (by kernel_rfl) (by kernel_rfl) (by kernel_rfl) (by kernel_rfl) (by kernel_rfl) (fun _ _ _ h => h) (Or.inl ⟨by rfl, ?t2h15⟩) (by assumption) ?t2r15
      case t2h15 => (intro y hSu; (try dsimp only at hSu); go_simp; first | done | with_reducible rfl)
      (try simp only [Act.put, List.setIfInBounds_toArray, List.set_cons_zero, List.set_cons_succ])
      refine readyL (i := 11) (by kernel_rfl) rfl (fun K hK => ?_)
      go_simp
      refine (unhide CM 1).mono ?_
      rintro e w4 ⟨a4, n4, c4, rfl, HQ⟩
      obtain ⟨m1, m2⟩ := unhide HQ
      have HB4 := hide m2
      have HE := hide (unhide HZ w4 m2).2
      have CJ := hide (unhide CI w4 a4 n4 c4 m1 (unhide HZ w4 m2).1)
      clear CM m1 m2 HQ
      (try dsimp only)
      refine hK.out _ _ (fun _ => (unhide HE)) ?_
      clear hK K
      (try simp only [Act.put, List.setIfInBounds_toArray, List.set_cons_zero, List.set_cons_succ])
      have hH4 := (unhide HE)
      refine readyL (i := 16) (by kernel_rfl) rfl (fun K hK => ?_)
      go_simp
      refine (unhide CJ).mono ?_
      rintro e w5 ⟨rfl, HQ⟩
      obtain ⟨q, hw5⟩ := unhide HQ
      subst hw5
      clear CJ HQ
      (try dsimp only)
      refine hK.out _ _ (fun _ => (unhide HE)) ?_
      clear hK K
      (try simp only [Act.put, List.setIfInBounds_toArray, List.set_cons_zero, List.set_cons_succ])
      have hH6 := (unhide HE)
      refine takeL (i := 17) (v := ?t7v17) (some 73) rfl rfl (by kernel_rfl) (by kernel_rfl) (by kernel_rfl) (by kernel_rfl) (by kernel_rfl) (fun _ _ _ h => h) (Or.inl ⟨by rfl, ?t7h17⟩) (by assumption) ?t7r17
      case t7h17 => (intro y hSu; (try dsimp only at hSu); go_simp; first | done | with_reducible rfl)
      (try simp only [Act.put, List.setIfInBounds_toArray, List.set_cons_zero, List.set_cons_succ])
      refine takeL (i := 18) (v := ?t7v18) (some 10) rfl rfl (by kernel_rfl) (by kernel_rfl) (by kernel_rfl) (by kernel_rfl) (by kernel_rfl) (fun _ _ _ h => h) (Or.inl ⟨by rfl, ?t7h18⟩) (by assumption) ?t7r18
      case t7h18 => (intro y hSu; (try dsimp only at hSu); go_simp; first | done | with_reducible rfl)
      (try simp only [Act.put, List.setIfInBounds_toArray, List.set_cons_zero, List.set_cons_succ])
      refine doneL (by kernel_rfl) ?_ _
      refine NoPanic.normal ?_
      have HR : Hid (Below w.heap.size w (w4.drewN q)) := below_drewN ((unhide HB).trans ((unhide HB4).mono (unhide HB).size)) q
      clear HE HB HB4 HZ CI
      go_wp2_with fail
      go_ret
      exact ⟨rfl, unhide HR⟩
    | false =>
      have zj : ((i : Int) == j) = false := by
        have : ¬ (i : Int) = j := fun e => by have := hq.2 ((unhide HIJ).1 e); cases this
        simpa using this
      clear HIJ hq
      go_upto_region 7 with fail
      refine wp_region_noPanic ?_
      refine regionL [] (fun y => y.cell? ⟨gI, i, none⟩ = some (.slice (some ⟨gJ, 0, none⟩) nn yc) ∧ y.cell? ⟨gJ, 0, none⟩ = some (.int .i64 k)) (by kernel_rfl) ⟨e2, e4⟩ (fun hHeld => ?_)
      refine takeL (i := 0) (v := ?t10v0) (some 56) rfl rfl (by kernel_rfl) (by kernel_rfl) (by kernel_rfl) (by kernel_rfl) (by kernel_rfl) (fun _ _ _ h => h) (Or.inl ⟨by rfl, ?t10h0⟩) (by assumption) ?t10r0
      case t10h0 => (intro y hSu; (try dsimp only at hSu); go_simp; first | done | with_reducible rfl)
      (try simp only [Act.put, List.setIfInBounds_toArray, List.set_cons_zero, List.set_cons_succ])
      refine takeL (i := 1) (v := ?t10v1) (some 57) rfl rfl (by kernel_rfl) (by kernel_rfl) (by kernel_rfl) (by kernel_rfl) (by kernel_rfl) (fun _ _ _ h => h) (Or.inl ⟨by rfl, ?t10h1⟩) (by assumption) ?t10r1
      case t10h1 => (intro y hSu; (try dsimp only at hSu); go_simp; first | done | with_reducible rfl)
      (try simp only [Act.put, List.setIfInBounds_toArray, List.set_cons_zero, List.set_cons_succ])
      refine takeL (i := 2) (v := ?t10v2) (some 58) rfl rfl (by kernel_rfl) (by kernel_rfl) (by kernel_rfl) (by kernel_rfl) (by kernel_rfl) (fun _ _ _ h => h) (Or.inl ⟨by rfl, ?t10h2⟩) (by assumption) ?t10r2
      case t10h2 => (intro y hSu; (try dsimp only at hSu); go_simp; first | done | with_reducible rfl)
      (try simp only [Act.put, List.setIfInBounds_toArray, List.set_cons_zero, List.set_cons_succ])
      refine takeL (i := 3) (v := ?t10v3) (some 59) rfl rfl (by kernel_rfl) (by kernel_rfl) (by kernel_rfl) (by kernel_rfl) (by kernel_rfl) (fun _ _ _ h => h) (Or.inl ⟨by rfl, ?t10h3⟩) (by assumption) ?t10r3
      case t10h3 => (intro y hSu; (try dsimp only at hSu); go_simp; first | done | with_reducible rfl)
      (try simp only [Act.put, List.setIfInBounds_toArray, List.set_cons_zero, List.set_cons_succ])
      refine takeL (i := 4) (v := ?t10v4) (some 60) rfl rfl (by kernel_rfl) (by kernel_rfl) (by kernel_rfl) (by kernel_rfl) (by kernel_rfl) (fun _ _ _ h => h) (Or.inl ⟨by rfl, ?t10h4⟩) (by assumption) ?t10r4
      case t10h4 => (intro y hSu; (try dsimp only at hSu); go_simp; first | done | with_reducible rfl)
      (try simp only [Act.put, List.setIfInBounds_toArray, List.set_cons_zero, List.set_cons_succ])
      refine takeL (i := 5) (v := ?t10v5) (some 61) rfl rfl (by kernel_rfl) (by kernel_rfl) (by kernel_rfl) (by kernel_rfl) (by kernel_rfl) (fun _ _ _ h => h) (Or.inl ⟨by rfl, ?t10h5⟩) (by assumption) ?t10r5
      case t10h5 => (intro y hSu; (try dsimp only at hSu); go_simp; first | done | with_reducible rfl)
      (try simp only [Act.put, List.setIfInBounds_toArray, List.set_cons_zero, List.set_cons_succ])
      refine takeL (i := 6) (v := ?t10v6) (some 62) rfl rfl (by kernel_rfl) (by kernel_rfl) (by kernel_rfl) (by kernel_rfl) (by kernel_rfl) (fun _ _ _ h => h) (Or.inl ⟨by rfl, ?t10h6⟩) (by assumption) ?t10r6
      case t10h6 => (intro y hSu; (try dsimp only at hSu); go_simp; first | done | with_reducible rfl)
      (try simp only [Act.put, List.setIfInBounds_toArray, List.set_cons_zero, List.set_cons_succ])
      refine takeL (i := 7) (v := ?t10v7) (some 63) rfl rfl (by kernel_rfl) (by kernel_rfl) (by kernel_rfl) (by kernel_rfl) (by kernel_rfl) (fun _ _ _ h => h) (Or.inl ⟨by rfl, ?t10h7⟩) (by assumption) ?t10r7
      case t10h7 => (intro y hSu; (try dsimp only at hSu); go_simp; first | done | with_reducible rfl)
      (try simp only [Act.put, List.setIfInBounds_toArray, List.set_cons_zero, List.set_cons_succ])
      refine takeL (i := 8) (v := ?t10v8) (some 64) rfl rfl (by kernel_rfl) (by kernel_rfl) (by kernel_rfl) (by kernel_rfl) (by kernel_rfl) (fun _ _ _ h => h) (Or.inl ⟨by rfl, ?t10h8⟩) (by assumption) ?t10r8
      case t10h8 => (intro y hSu; (try dsimp only at hSu); go_simp; first | done | with_reducible rfl)
      (try simp only [Act.put, List.setIfInBounds_toArray, List.set_cons_zero, List.set_cons_succ])
      refine takeL (i := 9) (v := ?t10v9) (some 65) rfl rfl (by kernel_rfl) (by kernel_rfl) (by kernel_rfl) (by kernel_rfl) (by kernel_rfl) (fun _ _ _ h => h) (Or.inl ⟨by rfl, ?t10h9⟩) (by assumption) ?t10r9
      case t10h9 => (intro y hSu; (try dsimp only at hSu); go_simp; first | done | with_reducible rfl)
      (try simp only [Act.put, List.setIfInBounds_toArray, List.set_cons_zero, List.set_cons_succ])
      refine takeL (i := 10) (v := ?t10v10) (some 66) rfl rfl (by kernel_rfl) (by kernel_rfl) (by kernel_rfl) (by kernel_rfl) (by kernel_rfl) (fun _ _ _ h => h) (Or.inl ⟨by rfl, ?t10h10⟩) (by assumption) ?t10r10
      case t10h10 => (intro y hSu; (try dsimp only at hSu); go_simp; first | done | with_reducible rfl)
      (try simp only [Act.put, List.setIfInBounds_toArray, List.set_cons_zero, List.set_cons_succ])
      refine takeL (i := 12) (v := ?t10v12) (some 68) rfl rfl (by kernel_rfl) (by kernel_rfl) (by kernel_rfl) (by kernel_rfl) (by kernel_rfl) (fun _ _ _ h => h) (Or.inl ⟨by rfl, ?t10h12⟩) (by assumption) ?t10r12
      case t10h12 => (intro y hSu; (try dsimp only at hSu); go_simp; first | done | with_reducible rfl)
      (try simp only [Act.put, List.setIfInBounds_toArray, List.set_cons_zero, List.set_cons_succ])
      refine takeL (i := 13) (v := ?t10v13) (some 69) rfl rfl (by kernel_rfl) (by kernel_rfl) (by kernel_rfl) (by kernel_rfl) (by kernel_rfl) (fun _ _ _ h => h) (Or.inl ⟨by rfl, ?t10h13⟩) (by assumption) ?t10r13
      case t10h13 => (intro y hSu; (try dsimp only at hSu); go_simp; first | done | with_reducible rfl)
      (try simp only [Act.put, List.setIfInBounds_toArray, List.set_cons_zero, List.set_cons_succ])
      refine takeL (i := 14) (v := ?t10v14) (some 70) rfl rfl (by kernel_rfl) (by kernel_rfl) (by kernel_rfl) (by kernel_rfl) (by kernel_rfl) (fun _ _ _ h => h) (Or.inl ⟨by rfl, ?t10h14⟩) (by assumption) ?t10r14
      case t10h14 => (intro y hSu; (try dsimp only at hSu); go_simp; first | done | with_reducible rfl)
      (try simp only [Act.put, List.setIfInBounds_toArray, List.set_cons_zero, List.set_cons_succ])
      refine takeL (i := 15) (v := ?t10v15) (some 71) rfl rfl (by kernel_rfl) (by kernel_rfl) (by kernel_rfl) (by kernel_rfl) (by kernel_rfl) (fun _ _ _ h => h) (Or.inl ⟨by rfl, ?t10h15⟩) (by assumption) ?t10r15
      case t10h15 => (intro y hSu; (try dsimp only at hSu); go_simp; first | done | with_reducible rfl)
      (try simp only [Act.put, List.setIfInBounds_toArray, List.set_cons_zero, List.set_cons_succ])
      refine readyL (i := 11) (by kernel_rfl) rfl (fun K hK => ?_)
      go_simp
      refine (unhide CM 1).mono ?_
      rintro e w4 ⟨a4, n4, c4, rfl, HQ⟩
      obtain ⟨m1, m2⟩ := unhide HQ
      have HB4 := hide m2
      have HE := hide (unhide HZ w4 m2).2
      have CJ := hide (unhide CI w4 a4 n4 c4 m1 (unhide HZ w4 m2).1)
      clear CM m1 m2 HQ
      (try dsimp only)
      refine hK.out _ _ (fun _ => (unhide HE)) ?_
      clear hK K
      (try simp only [Act.put, List.setIfInBounds_toArray, List.set_cons_zero, List.set_cons_succ])
      have hH12 := (unhide HE)
      refine readyL (i := 16) (by kernel_rfl) rfl (fun K hK => ?_)
      go_simp
      refine (unhide CJ).mono ?_
      rintro e w5 ⟨rfl, HQ⟩
      obtain ⟨q, hw5⟩ := unhide HQ
      subst hw5
      clear CJ HQ
      (try dsimp only)
      refine hK.out _ _ (fun _ => (unhide HE)) ?_
      clear hK K
      (try simp only [Act.put, List.setIfInBounds_toArray, List.set_cons_zero, List.set_cons_succ])
      have hH14 := (unhide HE)
      refine takeL (i := 17) (v := ?t15v17) (some 73) rfl rfl (by kernel_rfl) (by kernel_rfl) (by kernel_rfl) (by kernel_rfl) (by kernel_rfl) (fun _ _ _ h => h) (Or.inl ⟨by rfl, ?t15h17⟩) (by assumption) ?t15r17
      case t15h17 => (intro y hSu; (try dsimp only at hSu); go_simp; first | done | with_reducible rfl)
      (try simp only [Act.put, List.setIfInBounds_toArray, List.set_cons_zero, List.set_cons_succ])
      refine takeL (i := 18) (v := ?t15v18) (some 10) rfl rfl (by kernel_rfl) (by kernel_rfl) (by kernel_rfl) (by kernel_rfl) (by kernel_rfl) (fun _ _ _ h => h) (Or.inl ⟨by rfl, ?t15h18⟩) (by assumption) ?t15r18
      case t15h18 => (intro y hSu; (try dsimp only at hSu); go_simp; first | done | with_reducible rfl)
      (try simp only [Act.put, List.setIfInBounds_toArray, List.set_cons_zero, List.set_cons_succ])
      refine doneL (by kernel_rfl) ?_ _
      refine NoPanic.normal ?_
      have HR : Hid (Below w.heap.size w (w4.drewN q)) := below_drewN ((unhide HB).trans ((unhide HB4).mono (unhide HB).size)) q
      clear HE HB HB4 HZ CI
      go_wp2_with fail
      go_ret
      exact ⟨rfl, unhide HR⟩
  · have eu : compAt (compsV V h V.length) u = -1 := ask_out hu
    rw [eu] at CU
    have hnS : ∀ y, ¬ SP S u y := fun y q => hu ((h2 u y).1 q).1
    have CM := hide (kMembersF (Q := fun v' w' => v' = .slice none 0 0 ∧ w' = w.alloc (oG vv ev rd wr_0)) K.box ((membersNoN u _ K.at_ hou (h2.notin hu)).mono fun e w' hh => ⟨_, hh.1, rfl, hh.2⟩))
    have z1 : ¬ (0 : Int) ≤ -1 := by omega
    have HNS := hide hnS
    generalize compAt (compsV V h V.length) v = j at *
    subst hcv
    clear hb h1 h2 K hcl hcs hc hG hN H hou hov hu eu hnS hck hcells
    go_enter Tryz.func29, Tryz.ntmps29
    go_upto_region 1 with fail
    change Code.wp _ _ _ _ (w.alloc (oG vv ev rd wr_0))
    generalize w.alloc (oG vv ev rd wr_0) = wz at *
    go_wp2_with fail
    refine (unhide CH).mono ?_
    rintro e w' ⟨k, t, rfl, HQ⟩
    obtain ⟨hq, rfl⟩ := unhide HQ
    clear HQ
    rcases hq with ⟨rfl, rfl, -⟩ | ⟨-, q1, -⟩
    · clear CH
      go_wp2_with fail
      refine (unhide CU).mono ?_
      rintro e w' ⟨rfl, rfl⟩
      clear CU
      go_wp2_with fail
      refine (unhide CV).mono ?_
      rintro e w' ⟨rfl, rfl⟩
      clear CV
      go_wp2_with fail
      refine (unhide CS).mono ?_
      rintro e w' ⟨t, rfl, HQ⟩
      obtain ⟨hq, rfl⟩ := unhide HQ
      obtain rfl : t = false := by
        cases t with
        | false => rfl
        | true => exact absurd (hq.1 rfl) (unhide HNS v)
      clear CS hq HNS HQ
      go_wp2_with fail
      refine (unhide CM).mono ?_
      rintro e w' ⟨v', rfl, HQ⟩
      obtain ⟨rfl, rfl⟩ := unhide HQ
      clear CM HQ
      go_wp2_with fail
      go_ret
      exact ⟨rfl, unhide HB⟩
    · exact absurd q1 (unhide HNS k)
end Go.Proofs.YtkmhcgmmbkchaaaGreat
