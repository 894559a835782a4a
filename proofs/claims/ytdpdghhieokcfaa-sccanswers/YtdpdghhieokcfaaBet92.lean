/- between walked. -/
import Derived.Test.YtdpdghhieokcfaaBet9
namespace Go.Proofs.Ytdpdghhieokcfaa
open Go.RowKit Go.Maps T9
set_option maxHeartbeats 8000000 in
set_option maxRecDepth 100000 in
theorem betweenS {w : World} {nv hv : Value} {n : Nat} {nx : Nat → List Nat} {h : Nat → Nat} (hN : NxAt w nv n nx) (hr : NRow w hv (rowI n (fun p => ((h p : Nat) : Int)))) (hle : ∀ p, h p ≤ p) (hnx : ∀ p, p < n → ∀ q ∈ nx p, q < n) (hn : n ≤ 100000) (hl : ∀ p, p < n → (nx p).length ≤ 1000000) (har : (arcsOf h nx n).length ≤ 1000000) :
    Calls Try.prog 33 #[nv, hv] w fun e w' => Hid (∃ ov wv, e = .returned (.tuple #[ov, wv]) ∧ BetAns w n (arcsOf h nx n) ov wv w') := by
  obtain ⟨gn, cn, rfl, -⟩ := id hN
  obtain ⟨hx, hc, rfl, -⟩ := brow_shape hr
  rw [rowI_len] at hr ⊢
  have hmk1 := @mkII n (by omega)
  have hmk2 := @mkI n (by omega)
  have HLM : Hid (∀ (W : World) B L, B ≤ W.heap.size → LLat B (lab L W.heap.size 10) 10 (W.alloc (.cells (madeCells #[.slice none 0 0] n) 22)) (.slice (some ⟨W.heap.size, 0, none⟩) n n) (List.replicate n (.slice none 0 0)) (List.replicate n [])) := fun W B L hB => ll_made (by omega) W hB
  have HBM : Hid (∀ W : World, BRow W.heap.size (W.alloc (.cells (madeCells #[.int .i64 0] n) 3)) (.slice (some ⟨W.heap.size, 0, none⟩) n n) (List.replicate n 0)) := brow_made n (by omega)
  have HC := hide (And.intro hN (And.intro hr (And.intro hle (And.intro hnx (And.intro hn (And.intro hl har))))))
  clear hN hr hle hnx hn hl har
  go_enter Try.func33, Try.ntmps33
  go_upto_region 1 with fail
  refine wp_region_noPanic ?_
  refine regionL [] (fun y => True) (by kernel_rfl) trivial (fun hHeld => ?_)
  refine takeL (i := 0) (v := ?t2v0) (some 12) rfl rfl (by kernel_rfl) (by kernel_rfl) (by kernel_rfl) (by kernel_rfl) (by kernel_rfl) (fun _ _ _ h => h) (Or.inl ⟨by rfl, ?t2h0⟩) (by assumption) ?t2r0
  case t2h0 => (intro y hSu; (try dsimp only at hSu); go_simp; first | done | with_reducible rfl)
  (try simp only [Act.put, List.setIfInBounds_toArray, List.set_cons_zero, List.set_cons_succ])
  refine takeL (i := 1) (v := ?t2v1) (some 13) rfl rfl (by kernel_rfl) (by kernel_rfl) (by kernel_rfl) (by kernel_rfl) (by kernel_rfl) (fun _ _ _ h => h) (Or.inl ⟨by rfl, ?t2h1⟩) (by assumption) ?t2r1
  case t2h1 => (intro y hSu; (try dsimp only at hSu); go_simp; first | done | with_reducible rfl)
  (try simp only [Act.put, List.setIfInBounds_toArray, List.set_cons_zero, List.set_cons_succ])
  refine takeL (i := 3) (v := ?t2v3) (some 15) rfl rfl (by kernel_rfl) (by kernel_rfl) (by kernel_rfl) (by kernel_rfl) (by kernel_rfl) (fun _ _ _ h => h) (Or.inl ⟨by rfl, ?t2h3⟩) (by assumption) ?t2r3
  case t2h3 => (intro y hSu; (try dsimp only at hSu); go_simp; first | done | with_reducible rfl)
  (try simp only [Act.put, List.setIfInBounds_toArray, List.set_cons_zero, List.set_cons_succ])
  refine takeL (i := 4) (v := ?t2v4) (some 16) rfl rfl (by kernel_rfl) (by kernel_rfl) (by kernel_rfl) (by kernel_rfl) (by kernel_rfl) (fun _ _ _ h => h) (Or.inl ⟨by rfl, ?t2h4⟩) (by assumption) ?t2r4
  case t2h4 => (intro y hSu; (try dsimp only at hSu); go_simp; first | done | with_reducible rfl)
  (try simp only [Act.put, List.setIfInBounds_toArray, List.set_cons_zero, List.set_cons_succ])
  refine anyInvAt (fun a0 => Inv3 a0 w n) 1 3 _ _ _ ?start ?h0 ?h1
  case start => exact ⟨false, false, false, undef, undef, .slice none 0 0, rfl, rfl, rfl, (fun e => by cases e), fun _ => 0, (Below.refl _ _).drew, (fun e => by cases e), (fun e => by cases e)⟩
  case h1 =>
    rintro k l a W ⟨b2, b5, b6, x14, x17, x4, rfl, rfl, hc, h6, L, hB, p2, p5⟩
    generalize hr : Region.ready _ _ _ = rs
    have hrs : rs = ready3 b2 b5 b6 := by rw [← hr]; revert h6; cases b2 <;> cases b5 <;> cases b6 <;> intro h6 <;> first | (exact absurd (h6 rfl).1 (by decide)) | kernel_rfl
    subst hrs
    refine ⟨ready3_ne, fun i hi => ?_⟩
    have hi2 := ready3_mem hc (fun e => (h6 e).1) hi
    clear hr hi
    rcases hi2 with ⟨rfl, rfl, rfl⟩ | ⟨rfl, rfl⟩ | ⟨rfl, rfl, rfl⟩
    · refine ⟨_, rfl, fun K hK => ?_⟩
      go_simp
      have hb2 := below_new W (.cells (madeCells #[.slice none 0 0] n) 22)
      refine hK.out _ _ trivial ⟨true, b5, false, .slice (some ⟨W.heap.size, 0, none⟩) n n, x17, x4, rfl, rfl, by simp at hc ⊢; omega, (fun e => by cases e), lab L W.heap.size 10, hB.alloc hB.size _, fun _ => ⟨W.heap.size, rfl, unhide HLM W _ L hB.size⟩, fun e => ?_⟩
      obtain ⟨gv, e1, e2, e3⟩ := p5 e
      exact ⟨gv, e1, brow_kept e2 (fun g eg => hb2.block g (e2.lt g eg).2), (if_pos (e2.lt gv (by rw [e1]; rfl)).2).trans e3⟩
    · refine ⟨_, rfl, fun K hK => ?_⟩
      go_simp
      have hb2 := below_new W (.cells (madeCells #[.int .i64 0] n) 3)
      refine hK.out _ _ trivial ⟨b2, true, b6, x14, .slice (some ⟨W.heap.size, 0, none⟩) n n, x4, rfl, rfl, by simp at hc ⊢; omega, h6, lab L W.heap.size 2, hB.alloc hB.size _, fun e => ?_, fun _ => ⟨W.heap.size, rfl, brow_low (unhide HBM W) hB.size, if_neg (Nat.lt_irrefl _)⟩⟩
      obtain ⟨go, e1, e2⟩ := p2 e
      exact ⟨go, e1, (e2.named 2).below hb2⟩
    · refine ⟨_, rfl, fun K hK => ?_⟩
      go_simp
      exact hK.out _ _ trivial ⟨true, b5, true, x14, x17, x14, rfl, rfl, by simp at hc ⊢; omega, (fun _ => ⟨rfl, rfl⟩), L, hB, p2, p5⟩
  case h0 =>
    rintro l a W ⟨b2, b5, b6, x14, x17, x4, rfl, rfl, hcc, h6, hP⟩
    obtain ⟨rfl, rfl, rfl⟩ := cnt3_zero hcc
    obtain ⟨-, rfl⟩ := h6 rfl
    obtain ⟨go, gv, rfl, rfl⟩ : ∃ go gv, x4 = .slice (some ⟨go, 0, none⟩) n n ∧ x17 = .slice (some ⟨gv, 0, none⟩) n n := by
      obtain ⟨L, -, h2, h5⟩ := hP
      obtain ⟨go, e, -⟩ := h2 rfl
      obtain ⟨gv, e', -⟩ := h5 rfl
      exact ⟨go, gv, e, e'⟩
    have HS : Hid (∃ L ovs, BM w n (.slice (some ⟨gv, 0, none⟩) n n) (arcsOf h nx 0) L (.slice (some ⟨go, 0, none⟩) n n) ovs W) := bm_start hP
    clear hP hcc hmk1 hmk2 HLM HBM h6
    (try simp only [Act.put, List.setIfInBounds_toArray, List.set_cons_zero, List.set_cons_succ])
    refine readyL (i := 7) (by kernel_rfl) rfl (fun K hK => ?_)
    go_simp
    refine hK.out _ _ (fun _ => trivial) ?_
    clear hK K
    (try simp only [List.setIfInBounds_toArray, List.set_cons_zero, List.set_cons_succ])
    have hH4 := trivial
    refine doneL (by kernel_rfl) ?_ _
    refine NoPanic.normal ?_
    go_upto_region 3 with fail
    go_loopw [20, 9] (fun s20 s9 wr => ∃ k : Nat, s20 = .int .i64 (k : Nat) ∧ k ≤ n ∧ Hid (∃ L ovs, BM w n (.slice (some ⟨gv, 0, none⟩) n n) (arcsOf h nx k) L (.slice (some ⟨go, 0, none⟩) n n) ovs wr)) (fun s20 _ _ => n - (intOf s20).toNat)
    case atStart => exact ⟨0, rfl, Nat.zero_le _, HS⟩
    case round =>
      obtain ⟨k, rfl, hkn, hB⟩ := hrel
      by_cases hlt : k < n
      · obtain ⟨hN, hr, hle, hnx, hn, hl, har⟩ := unhide HC
        obtain ⟨L0, ov0, hB0⟩ := unhide hB
        obtain ⟨_, _, e1, hg, -, hrow⟩ := id hN
        injection e1 with e1 e2 e3
        injection e1 with e1
        injection e1 with e1
        subst e1
        obtain ⟨v0, hv0, hrow⟩ := hrow k hlt
        obtain ⟨x, c, rfl, -⟩ := brow_shape hrow
        rw [pl_len] at hv0
        have y1 : wr.cell? ⟨gn, k, none⟩ = some (.slice x (nx k).length c) := (hB0.below.cell (p := ⟨gn, k, none⟩) hg).trans hv0
        have HROW := hide hrow
        obtain ⟨gh, hgh⟩ := brow_some hr (by rw [rowI_len]; omega)
        subst hgh
        have z0 : (k : Int) < (n : Int) := by omega
        have HJ : Hid (k + 1 ≤ n ∧ n - (k + 1) < n - k ∧ k < n) := ⟨by omega, by omega, hlt⟩
        obtain ⟨k1, hk1⟩ : ∃ k1, k1 = k + 1 := ⟨_, rfl⟩
        have zw : Hid (wrap64 ((k : Int) + 1) = (k1 : Int)) := by show wrap64 ((k : Int) + 1) = (k1 : Int); unfold wrap64; omega
        have HK1 := hide hk1
        obtain ⟨m, hm⟩ : ∃ m, m = (nx k).length := ⟨_, rfl⟩
        rw [← hm] at y1
        have HM := hide hm
        have HI : Hid (∃ L ovs, BM w n (.slice (some ⟨gv, 0, none⟩) n n) (arPre h nx k 0) L (.slice (some ⟨go, 0, none⟩) n n) ovs wr) := by
          show ∃ L ovs, BM w n (.slice (some ⟨gv, 0, none⟩) n n) (arPre h nx k 0) L (.slice (some ⟨go, 0, none⟩) n n) ovs wr
          rw [arPre_zero]; exact unhide hB
        clear hN hr hle hnx hn hl har hB hB0 e2 e3 hlt hkn hk1 hm HS hg hv0 hrow
        go_upto_region 6 with fail
        go_loopw [27, 9] (fun s27 s9 wr => ∃ i : Nat, s27 = .int .i64 (i : Nat) ∧ i ≤ m ∧ Hid (∃ L ovs, BM w n (.slice (some ⟨gv, 0, none⟩) n n) (arPre h nx k i) L (.slice (some ⟨go, 0, none⟩) n n) ovs wr)) (fun s27 _ _ => m - (intOf s27).toNat)
        case atStart => exact ⟨0, rfl, Nat.zero_le _, HI⟩
        case round =>
          obtain ⟨i, rfl, him, hB⟩ := hrel
          by_cases hlt : i < m
          · obtain ⟨hN, hr, hle, hnx, hn, hl, har⟩ := unhide HC
            obtain ⟨L0, ov0, hB0⟩ := unhide hB
            have hkn := (unhide HJ).2.2
            obtain ⟨q, hq⟩ : ∃ q, (nx k)[i]? = some q := ⟨_, List.getElem?_eq_getElem (by have := unhide HM; omega)⟩
            have hqn := hnx k hkn q (List.mem_of_getElem? hq)
            obtain ⟨g, hgx⟩ := brow_some (unhide HROW) (by rw [pl_len]; have := unhide HM; omega)
            subst hgx
            have y2 := brow_at (nrow_below (unhide HROW) hB0.below) (pl_at hq)
            have hr2 := nrow_below hr hB0.below
            have d1 := brow_at hr2 (rowI_at (fun p => ((h p : Nat) : Int)) hkn)
            have d2 := brow_at hr2 (rowI_at (fun p => ((h p : Nat) : Int)) hqn)
            have hhk : h k < n := by have := hle k; omega
            have hhq : h q < n := by have := hle q; omega
            have hbd : (arPre h nx k i).length ≤ 1000000 := by
              have h1 := arPre_le (h := h) (nx := nx) (p := k) (i := i)
              have h2 := arcsOf_mono (h := h) (nx := nx) (p := k + 1) (n := n) (by omega)
              omega
            have z1 : (i : Int) < (m : Int) := by omega
            have z2 : (q : Int) < (n : Int) := by omega
            have z3 : ((h k : Nat) : Int) < (n : Int) := by omega
            have z4 : ((h q : Nat) : Int) < (n : Int) := by omega
            obtain ⟨i1, hi1⟩ : ∃ i1, i1 = i + 1 := ⟨_, rfl⟩
            have zwi : Hid (wrap64 ((i : Int) + 1) = (i1 : Int)) := by have := hl k hkn; have := unhide HM; show wrap64 ((i : Int) + 1) = (i1 : Int); unfold wrap64; omega
            have HI1 : Hid (i1 ≤ m ∧ m - i1 < m - i) := ⟨by omega, by omega⟩
            by_cases hne : h k = h q
            · have hz : (((h k : Nat) : Int) == ((h q : Nat) : Int)) = true := by simp [hne]
              have HB2 : Hid (∀ Q, ∃ L ovs, BM w n (.slice (some ⟨gv, 0, none⟩) n n) (arPre h nx k i1) L (.slice (some ⟨go, 0, none⟩) n n) ovs (wr.drewN Q)) := fun Q => by
                rw [hi1, arPre_out hq hne]
                exact ⟨_, _, hB0.drew Q⟩
              generalize h k = hk at *
              generalize h q = hq' at *
              clear hN hr hle hnx hn hl har hB hB0 hlt him hkn hq hqn hr2 hhk hhq hbd hi1 HI hne
              go_wp2_with fail
              go_quiet (fail)
              go_wp2_with fail
              rw [unhide zwi]
              exact ⟨⟨i1, rfl, (unhide HI1).1, unhide HB2 _⟩, by have := (unhide HI1).2; simp [intOf]; omega⟩
            · have hz : (((h k : Nat) : Int) == ((h q : Nat) : Int)) = false := by simp; omega
              have HAR : Hid (∀ W, BM w n (.slice (some ⟨gv, 0, none⟩) n n) (arPre h nx k i) L0 (.slice (some ⟨go, 0, none⟩) n n) ov0 W → _) := fun W hW => hW.arc (u := h k) (v := h q) hhk hhq hbd
              have HPR : Hid (arPre h nx k i ++ [(h k, h q)] = arPre h nx k i1) := by show _ = _; rw [hi1, arPre_in hq hne]
              have HB0 := hide hB0
              have zc : ((wtOf (arPre h nx k i) (h q) : Nat) : Int) ≤ 1000000 := by have := wtOf_le (arPre h nx k i) (h q); omega
              have HZC := hide zc
              clear hN hr hle hnx hn hl har hB hB0 hlt him hkn hq hqn hr2 hhk hhq hbd hi1 HI hne zc
              go_wp2_with fail
              go_quiet (fail)
              have hB1 := (unhide HB0).drew nq
              clear HB0 d1 d2 y2
              generalize wr.drewN nq = w2 at *
              obtain ⟨a, an, ac, a', an', ac', w3, k1, r3, k3, f3, ⟨k4, f4⟩, hG⟩ := unhide HAR w2 hB1
              rw [unhide HPR] at hG
              have HG := hide hG
              have HR3 := hide r3
              obtain ⟨t0, ht0⟩ : ∃ t0, t0 = wtOf (arPre h nx k i) (h q) := ⟨_, rfl⟩
              rw [← ht0] at k4 HG HZC
              obtain ⟨t1, ht1⟩ : ∃ t1, t1 = t0 + 1 := ⟨_, rfl⟩
              rw [← ht1] at HG
              have zt : IntKind.i64.wrap ((t0 : Int) + 1) = (t1 : Int) := by rw [IntKind.wrap_i64]; have := unhide HZC; omega
              generalize h k = hk at *
              generalize h q = hq' at *
              clear hB1 hG r3 ht0 ht1 HAR HPR
              go_upto_region 11 with (at_builtin; refine Lib.wpList_append_run _ rfl _ _ 22 22 rfl _ _ rfl rfl _ _ (unhide HR3 _) ?_)
              clear k1 HR3 k3 f3 hz
              generalize w3.setCell ⟨go, hk, none⟩ (.slice a' an' ac') = w4 at *
              go_wp2_with fail
              rw [unhide zwi]
              exact ⟨⟨i1, rfl, (unhide HI1).1, unhide HG⟩, by have := (unhide HI1).2; simp [intOf]; omega⟩
          · have z1 : ¬ (i : Int) < (m : Int) := by omega
            have HB2 : Hid (∃ L ovs, BM w n (.slice (some ⟨gv, 0, none⟩) n n) (arcsOf h nx k1) L (.slice (some ⟨go, 0, none⟩) n n) ovs wr) := by
              have h2 := unhide hB
              rw [show i = (nx k).length by have := unhide HM; omega, arPre_all, ← unhide HK1] at h2
              exact h2
            clear hB hlt him HI
            go_wp2_with fail
            rw [unhide zw]
            exact ⟨⟨k1, rfl, by rw [unhide HK1]; exact (unhide HJ).1, HB2⟩, by have := (unhide HJ).2.1; have := unhide HK1; simp [intOf]; omega⟩
      · have z0 : ¬ (k : Int) < (n : Int) := by omega
        obtain rfl : k = n := by omega
        have HG : Hid (BetAns w k (arcsOf h nx k) (.slice (some ⟨go, 0, none⟩) k k) (.slice (some ⟨gv, 0, none⟩) k k) wr) := by
          obtain ⟨L, ovs, h2⟩ := unhide hB
          exact ⟨go, gv, L, ovs, rfl, rfl, h2⟩
        clear hB hlt hkn HS
        go_wp2_with fail
        go_ret2
        exact ⟨_, _, rfl, unhide HG⟩
end Go.Proofs.Ytdpdghhieokcfaa
