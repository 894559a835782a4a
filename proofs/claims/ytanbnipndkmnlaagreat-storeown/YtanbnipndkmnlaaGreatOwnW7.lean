/- StoreOwn, walked. -/
import Derived.Test.YtanbnipndkmnlaaGreatOwn72
import Derived.Test.YtanbnipndkmnlaaGreatAgain7
namespace Go.Proofs.YtanbnipndkmnlaaGreat
open Go.RowKit Go.Maps

set_option maxHeartbeats 16000000 in
set_option maxRecDepth 100000 in
theorem own_any [Inhabited EntI] (a : Option Addr) (len cap : Nat) (o : Nat → OpV) (pk : Int) (w : World) (h : IsOps w a len o) :
    Calls Tryz.prog 7 #[.slice a len cap, .int .i64 pk] w fun e w' => e = .returned (.bool true) ∧ Below w.heap.size w w' := by
  have CB := hide (builtS a len cap o w h)
  have CW : Hid (∀ W, Calls Tryz.prog 9 #[] W fun e w' => e = .returned (.bool true) ∧ Below W.heap.size W w') := fun W => awakeS W
  clear h
  go_enter Tryz.func7, Tryz.ntmps7
  go_wp2_with fail
  refine (unhide CB).mono ?_
  rintro e w1 hh
  obtain ⟨s, a1, m1, q1, a2, m2, q2, rd, wr0, rfl, n, X, g, vs, es, hn, hG, hs, hL, hB, hrd, hwr⟩ := unhide hh
  have hb2 := below_new w1 (oG (.slice a1 m1 q1) (.slice a2 m2 q2) rd wr0)
  have HVM : Hid (m1 = vs.length) := by
    obtain ⟨x, y, e, -⟩ := brow_shape hG.vrow
    injection e
  have HLB : Hid (X.L w1.heap.size = none) := hG.st.mem.new (Nat.le_refl _)
  have HGB : Hid (Game n X g (.slice a1 m1 q1) (.slice a2 m2 q2) vs es (w1.alloc (oG (.slice a1 m1 q1) (.slice a2 m2 q2) rd wr0)) ∧ (w1.alloc (oG (.slice a1 m1 q1) (.slice a2 m2 q2) rd wr0)).heap[w1.heap.size]? = some (oG (.slice a1 m1 q1) (.slice a2 m2 q2) rd wr0) ∧ Below w.heap.size w (w1.alloc (oG (.slice a1 m1 q1) (.slice a2 m2 q2) rd wr0))) := ⟨hG.below hb2, heap_alloc_new _ _, hB.trans (hb2.mono hB.size)⟩
  have HN : Hid (n + 1 ≤ 1000 ∧ X.s = s ∧ g.rd = rd ∧ g.wr = wr0 ∧ ∀ b, X.L b ≠ none → w.heap.size ≤ b) := ⟨by omega, hs, hrd, hwr, hL⟩
  clear hh hG hs hL hB hrd hwr CB hn hb2
  go_upto_region 2 with fail
  change Code.wp _ _ _ _ (w1.alloc (oG (.slice a1 m1 q1) (.slice a2 m2 q2) rd wr0))
  generalize w1.alloc (oG (.slice a1 m1 q1) (.slice a2 m2 q2) rd wr0) = w2 at *
  generalize w1.heap.size = b1 at *
  go_wp2_with fail
  refine (unhide CW _).mono ?_
  rintro e w3 ⟨rfl, hb3⟩
  have HG3 : Hid (Game n X g (.slice a1 m1 q1) (.slice a2 m2 q2) vs es w3 ∧ w3.heap[b1]? = some (oG (.slice a1 m1 q1) (.slice a2 m2 q2) rd wr0) ∧ Below w.heap.size w w3) := by
    obtain ⟨h1, h2, h3⟩ := unhide HGB
    exact ⟨h1.below hb3, (hb3.block _ (Array.getElem?_eq_some_iff.1 h2).1).trans h2, h3.trans (hb3.mono h3.size)⟩
  obtain ⟨c0, -, -, -, -⟩ := cellsG (unhide HG3).2.1
  clear CW hb3 HGB
  by_cases hv0 : m1 = 0
  · have hz : ¬ (0 : Int) < (m1 : Int) := by omega
    have HOK : Hid (okN 0) := okN_of (by omega) (by omega)
    clear hv0
    go_upto_region 7 with fail
    clear c0 hz
    have CA := hide (oVerts (unhide HG3).1)
    rw [(unhide HN).2.1] at CA
    go_wp2_with fail
    refine (unhide CA).mono ?_
    rintro e w4 ⟨a0', n0, c0', rfl, h4⟩
    obtain ⟨k0, e0, l0, r0, b0⟩ := unhide h4
    have H4 := hide (And.intro e0 (And.intro l0 (And.intro r0 b0)))
    have CA2 := hide (oEdges ((unhide HG3).1.below b0))
    rw [(unhide HN).2.1] at CA2
    clear CA h4 e0 l0 r0 b0
    go_wp2_with fail
    refine (unhide CA2).mono ?_
    rintro e w5 ⟨a1', n1, c1', rfl, h5⟩
    obtain ⟨k1, e1, l1, r1, b1'⟩ := unhide h5
    have H5 := hide (And.intro e1 (And.intro l1 (And.intro r1 b1')))
    have CA3 := hide (oOut (((unhide HG3).1.below (unhide H4).2.2.2).below b1') 0 (unhide HOK))
    rw [(unhide HN).2.1] at CA3
    clear CA2 h5 e1 l1 r1 b1'
    go_wp2_with fail
    refine (unhide CA3).mono ?_
    rintro e w6 ⟨a2', n2, c2', rfl, h6⟩
    obtain ⟨k2, e2, l2, r2, b2'⟩ := unhide h6
    have H6 := hide (And.intro e2 (And.intro l2 (And.intro r2 b2')))
    have CA4 := hide (oIn ((((unhide HG3).1.below (unhide H4).2.2.2).below (unhide H5).2.2.2).below b2') 0 (unhide HOK))
    rw [(unhide HN).2.1] at CA4
    clear CA3 h6 e2 l2 r2 b2'
    go_wp2_with fail
    refine (unhide CA4).mono ?_
    rintro e w7 ⟨a3', n3, c3', rfl, h7⟩
    obtain ⟨k3, e3, l3, r3, b3'⟩ := unhide h7
    obtain ⟨lab0, hz0⟩ := lz_start (L := fun j => .slice (pick4 a0' a1' a2' a3' j) (pick4 n0 n1 n2 n3 j) (pick4 c0' c1' c2' c3' j)) (K := pick4 k0 k1 k2 k3) (unhide H4).2.2.1 (unhide H4).2.2.2 (unhide H5).2.2.1 (unhide H5).2.2.2 (unhide H6).2.2.1 (unhide H6).2.2.2 r3 b3'
    have HLN : Hid (∀ j, j < 4 → (pick4 k0 k1 k2 k3 j).length = pick4 n0 n1 n2 n3 j ∧ pick4 n0 n1 n2 n3 j ≤ 1024) := fun j hj => by
      obtain rfl | rfl | rfl | rfl : j = 0 ∨ j = 1 ∨ j = 2 ∨ j = 3 := by omega
      · exact ⟨(unhide H4).1.symm, (unhide H4).2.1⟩
      · exact ⟨(unhide H5).1.symm, (unhide H5).2.1⟩
      · exact ⟨(unhide H6).1.symm, (unhide H6).2.1⟩
      · exact ⟨e3.symm, l3⟩
    have HZ0 := hide hz0
    clear CA4 h7 e3 l3 r3 b3' H4 H5 H6 hz0
    go_upto_region 8 with fail
    change Code.wp _ _ _ _ (w7.alloc (.cells #[.slice a0' n0 c0', .slice a1' n1 c1', .slice a2' n2 c2', .slice a3' n3 c3'] 24))
    have HZ1 : Hid (Lz w3.heap.size w3 w7.heap.size (fun j => .slice (pick4 a0' a1' a2' a3' j) (pick4 n0 n1 n2 n3 j) (pick4 c0' c1' c2' c3' j)) (fun j => .slice (pick4 a0' a1' a2' a3' j) (pick4 n0 n1 n2 n3 j) (pick4 c0' c1' c2' c3' j)) (pick4 k0 k1 k2 k3) (.slice none 0 0) [] lab0 (w7.alloc (.cells #[.slice a0' n0 c0', .slice a1' n1 c1', .slice a2' n2 c2', .slice a3' n3 c3'] 24))) := unhide HZ0
    clear HZ0
    generalize w7.alloc (.cells #[.slice a0' n0 c0', .slice a1' n1 c1', .slice a2' n2 c2', .slice a3' n3 c3'] 24) = w8 at *
    generalize w7.heap.size = bl at *
    generalize pick4 a0' a1' a2' a3' = A at *
    generalize pick4 n0 n1 n2 n3 = N at *
    generalize pick4 c0' c1' c2' c3' = C at *
    generalize pick4 k0 k1 k2 k3 = K0 at *
    go_wp2_with fail
    go_loopw [65] (fun si wr => ∃ i : Nat, si = .int .i64 i ∧ i ≤ 4 ∧ Hid (∃ K lab, Lz w3.heap.size w3 bl (fun j => .slice (A j) (N j) (C j)) (fun j => .slice (A j) (N j) (C j)) K (.slice none 0 0) [] lab wr ∧ (∀ j, j < 4 → (K j).length = N j) ∧ ∀ j, j < i → K j = List.replicate (N j) (-1 - (j : Int)))) (fun si _ => 4 - (intOf si).toNat)
    case atStart => exact ⟨0, rfl, by omega, K0, lab0, unhide HZ1, fun j hj => (unhide HLN j hj).1, fun j hj => absurd hj (Nat.not_lt_zero _)⟩
    case round =>
      obtain ⟨i, rfl, hi, hSt⟩ := hrel
      clear HZ1
      by_cases hlt : i < 4
      · have hz4 : (i : Int) < 4 := by omega
        have hcl : wr.cell? ⟨bl, i, none⟩ = some (.slice (A i) (N i) (C i)) := by obtain ⟨K, lab, h1, -⟩ := unhide hSt; exact h1.cell hlt
        have HNI : Hid (N i ≤ 1024) := (unhide HLN i hlt).2
        obtain ⟨ni, hni⟩ : ∃ ni, ni = N i := ⟨_, rfl⟩
        obtain ⟨ci, hci⟩ : ∃ ci, ci = C i := ⟨_, rfl⟩
        obtain ⟨ai, hai⟩ : ∃ ai, ai = A i := ⟨_, rfl⟩
        have HEI : Hid (ni = N i ∧ ci = C i ∧ ai = A i ∧ i < 4) := ⟨hni, hci, hai, hlt⟩
        rw [← hni, ← hci, ← hai] at hcl
        rw [← hni] at HNI
        clear hni hci hai hlt
        have HWI : Hid (wrap64 ((i : Int) + 1) = ((i + 1 : Nat) : Int)) := by show wrap64 _ = _; have := (unhide HEI).2.2.2; unfold wrap64; omega
        have hwn : IntKind.i64.wrap (-1 - (i : Int)) = -1 - (i : Int) := by rw [IntKind.wrap_i64]; have := (unhide HEI).2.2.2; omega
        have HS1 : Hid (∃ K lab, Lz w3.heap.size w3 bl (fun j => .slice (A j) (N j) (C j)) (fun j => .slice (A j) (N j) (C j)) K (.slice none 0 0) [] lab wr ∧ (∀ j, j < 4 → (K j).length = N j) ∧ (∀ j, j < i → K j = List.replicate (N j) (-1 - (j : Int))) ∧ ∀ k, k < 0 → (K i)[k]? = some (-1 - (i : Int))) := by
          obtain ⟨K, lab, h1, h2, h3⟩ := unhide hSt
          exact ⟨K, lab, h1, h2, h3, fun k hk => absurd hk (Nat.not_lt_zero _)⟩
        clear hSt
        go_wp2_with fail
        clear hcl
        go_loopw [73] (fun sk wr => ∃ k : Nat, sk = .int .i64 k ∧ k ≤ ni ∧ Hid (∃ K lab, Lz w3.heap.size w3 bl (fun j => .slice (A j) (N j) (C j)) (fun j => .slice (A j) (N j) (C j)) K (.slice none 0 0) [] lab wr ∧ (∀ j, j < 4 → (K j).length = N j) ∧ (∀ j, j < i → K j = List.replicate (N j) (-1 - (j : Int))) ∧ ∀ k', k' < k → (K i)[k']? = some (-1 - (i : Int)))) (fun sk _ => ni - (intOf sk).toNat)
        case atStart => exact ⟨0, rfl, Nat.zero_le _, HS1⟩
        case round =>
          obtain ⟨k, rfl, hk, hS⟩ := hrel
          clear HS1
          by_cases hkl : k < ni
          · have hzk : (k : Int) < (ni : Int) := by omega
            obtain ⟨K, lab, h1, h2, h3, h4⟩ := unhide hS
            obtain ⟨en, ec, ea, ei⟩ := unhide HEI
            have hkK : k < (K i).length := by rw [h2 i ei]; omega
            obtain ⟨oldx, hox⟩ : ∃ x, (K i)[k]? = some x := ⟨_, List.getElem?_eq_getElem hkK⟩
            obtain ⟨gg, cc, hR, hcell⟩ := h1.at_ ei hox
            have hR' : ai = some ⟨gg, 0, none⟩ := by rw [ea]; injection hR
            obtain ⟨hfr, hW⟩ := h1.write (k := k) (-1 - (i : Int)) ei hR hkK
            have hcl : wr.cell? ⟨bl, i, none⟩ = some (.slice (some ⟨gg, 0, none⟩) ni ci) := by rw [h1.cell ei, en, ec, ← hR', ea]
            have HNX : Hid (∃ K lab, Lz w3.heap.size w3 bl (fun j => .slice (A j) (N j) (C j)) (fun j => .slice (A j) (N j) (C j)) K (.slice none 0 0) [] lab (wr.setCell ⟨gg, k, none⟩ (.int .i64 (-1 - (i : Int)))) ∧ (∀ j, j < 4 → (K j).length = N j) ∧ (∀ j, j < i → K j = List.replicate (N j) (-1 - (j : Int))) ∧ ∀ k', k' < k + 1 → (K i)[k']? = some (-1 - (i : Int))) := by
              refine ⟨_, lab, hW, fun j hj => ?_, fun j hj => ?_, fun k' hk' => ?_⟩
              · by_cases e : j = i
                · subst e; rw [upd_self, List.length_set]; exact h2 j hj
                · rw [upd_ne _ _ e]; exact h2 j hj
              · rw [upd_ne _ _ (by omega)]; exact h3 j hj
              · rw [upd_self]
                by_cases e : k = k'
                · subst e; rw [List.getElem?_set_self hkK]
                · rw [List.getElem?_set_ne e]; exact h4 k' (by omega)
            have HWK : Hid (wrap64 ((k : Int) + 1) = ((k + 1 : Nat) : Int)) := by show wrap64 _ = _; have := unhide HNI; unfold wrap64; omega
            clear hS h1 h2 h3 h4 hR hR' hW en ec ea ei hkK hox
            go_wp2_with fail
            (try rw [unhide HWK])
            exact ⟨⟨k + 1, rfl, by omega, HNX⟩, by simp [intOf]; omega⟩
          · have hzk : ¬ (k : Int) < (ni : Int) := by omega
            have HNX : Hid (∃ K lab, Lz w3.heap.size w3 bl (fun j => .slice (A j) (N j) (C j)) (fun j => .slice (A j) (N j) (C j)) K (.slice none 0 0) [] lab wr ∧ (∀ j, j < 4 → (K j).length = N j) ∧ ∀ j, j < i + 1 → K j = List.replicate (N j) (-1 - (j : Int))) := by
              obtain ⟨K, lab, h1, h2, h3, h4⟩ := unhide hS
              obtain ⟨en, ec, ea, ei⟩ := unhide HEI
              refine ⟨K, lab, h1, h2, fun j hj => ?_⟩
              by_cases e : j = i
              · subst e
                refine List.ext_getElem? (fun k' => ?_)
                by_cases hk' : k' < k
                · rw [h4 k' hk', List.getElem?_replicate, if_pos (by omega)]
                · rw [List.getElem?_eq_none (by rw [h2 j ei]; omega), List.getElem?_eq_none (by rw [List.length_replicate]; omega)]
              · exact h3 j (by omega)
            clear hS
            go_wp2_with fail
            (try rw [unhide HWI])
            exact ⟨⟨i + 1, rfl, by have := (unhide HEI).2.2.2; omega, HNX⟩, by have := (unhide HEI).2.2.2; simp [intOf]; omega⟩
      · have hz4 : ¬ (i : Int) < 4 := by omega
        have HB1 : Hid (∃ R K gs lab, Lz w3.heap.size w3 bl (fun j => .slice (A j) (N j) (C j)) R K (.slice none 0 0) gs lab wr ∧ gs.length = 0 ∧ (∀ j, j < 0 → gs[j]? = some (R j) ∧ K j = List.replicate (N j) (-1 - (j : Int)) ++ List.replicate 20 (100 + (j : Int))) ∧ ∀ j, 0 ≤ j → j < 4 → R j = .slice (A j) (N j) (C j) ∧ K j = List.replicate (N j) (-1 - (j : Int))) := by
          obtain ⟨K, lab, h1, h2, h3⟩ := unhide hSt
          exact ⟨_, K, [], lab, h1, rfl, fun j hj => absurd hj (Nat.not_lt_zero _), fun j _ hj => ⟨rfl, h3 j (by omega)⟩⟩
        clear hSt hlt
        go_wp2_with fail
        go_loopw [12, 88] (fun sg si wr => ∃ (i : Nat) (ga : Option Addr) (gn gc : Nat), si = .int .i64 i ∧ sg = .slice ga gn gc ∧ i ≤ 4 ∧ Hid (∃ R K gs lab, Lz w3.heap.size w3 bl (fun j => .slice (A j) (N j) (C j)) R K (.slice ga gn gc) gs lab wr ∧ gs.length = i ∧ (∀ j, j < i → gs[j]? = some (R j) ∧ K j = List.replicate (N j) (-1 - (j : Int)) ++ List.replicate 20 (100 + (j : Int))) ∧ ∀ j, i ≤ j → j < 4 → R j = .slice (A j) (N j) (C j) ∧ K j = List.replicate (N j) (-1 - (j : Int)))) (fun _ si _ => 4 - (intOf si).toNat)
        case atStart => exact ⟨0, none, 0, 0, rfl, rfl, by omega, HB1⟩
        case round =>
          obtain ⟨i, ga, gn, gc, rfl, rfl, hi, hSt⟩ := hrel
          clear HB1
          by_cases hlt : i < 4
          · have hz5 : (i : Int) < 4 := by omega
            have hcl : wr.cell? ⟨bl, i, none⟩ = some (.slice (A i) (N i) (C i)) := by obtain ⟨R, K, gs, lab, h1, -⟩ := unhide hSt; exact h1.cell hlt
            have HNI : Hid (N i ≤ 1024 ∧ i < 4) := ⟨(unhide HLN i hlt).2, hlt⟩
            have HWI : Hid (wrap64 ((i : Int) + 1) = ((i + 1 : Nat) : Int)) := by show wrap64 _ = _; unfold wrap64; omega
            have hw100 : IntKind.i64.wrap (100 + (i : Int)) = 100 + (i : Int) := by rw [IntKind.wrap_i64]; omega
            have HS1 : Hid (∃ R K gs lab, Lz w3.heap.size w3 bl (fun j => .slice (A j) (N j) (C j)) R K (.slice ga gn gc) gs lab wr ∧ gs.length = i ∧ R i = .slice (A i) (N i) (C i) ∧ K i = List.replicate (N i) (-1 - (i : Int)) ++ List.replicate 0 (100 + (i : Int)) ∧ (∀ j, j < i → gs[j]? = some (R j) ∧ K j = List.replicate (N j) (-1 - (j : Int)) ++ List.replicate 20 (100 + (j : Int))) ∧ ∀ j, i < j → j < 4 → R j = .slice (A j) (N j) (C j) ∧ K j = List.replicate (N j) (-1 - (j : Int))) := by
              obtain ⟨R, K, gs, lab, h1, h2, h3, h4⟩ := unhide hSt
              exact ⟨R, K, gs, lab, h1, h2, (h4 i (Nat.le_refl _) hlt).1, by rw [(h4 i (Nat.le_refl _) hlt).2]; simp, h3, fun j hj hj' => h4 j (by omega) hj'⟩
            clear hSt hlt
            generalize A i = Ai at *
            generalize C i = Ci at *
            obtain ⟨Ni, hNi⟩ : ∃ Ni, Ni = N i := ⟨_, rfl⟩
            rw [← hNi] at hcl
            have HNe := hide hNi
            clear hNi
            go_wp2_with fail
            clear hcl
            go_loopw [14, 15] (fun sl sk wr => ∃ (k : Nat) (ra : Option Addr) (rn rc : Nat), sk = .int .i64 k ∧ sl = .slice ra rn rc ∧ k ≤ 20 ∧ Hid (∃ R K gs lab, Lz w3.heap.size w3 bl (fun j => .slice (A j) (N j) (C j)) R K (.slice ga gn gc) gs lab wr ∧ gs.length = i ∧ R i = .slice ra rn rc ∧ K i = List.replicate (N i) (-1 - (i : Int)) ++ List.replicate k (100 + (i : Int)) ∧ (∀ j, j < i → gs[j]? = some (R j) ∧ K j = List.replicate (N j) (-1 - (j : Int)) ++ List.replicate 20 (100 + (j : Int))) ∧ ∀ j, i < j → j < 4 → R j = .slice (A j) (N j) (C j) ∧ K j = List.replicate (N j) (-1 - (j : Int)))) (fun _ sk _ => 20 - (intOf sk).toNat)
            case atStart => exact ⟨0, _, _, _, rfl, rfl, by omega, by have := unhide HS1; rw [← unhide HNe] at this ⊢; exact this⟩
            case round =>
              obtain ⟨k, ra, rn, rc, rfl, rfl, hk, hS⟩ := hrel
              clear HS1
              by_cases hkl : k < 20
              · have hzk : (k : Int) < 20 := by omega
                obtain ⟨R, K, gs, lab, h1, h2, h3, h4, h5, h6⟩ := unhide hS
                obtain ⟨a', n', c', w', lab', hr, hL'⟩ := h1.app (100 + (i : Int)) (unhide HNI).2 (by rw [h4, List.length_append, List.length_replicate, List.length_replicate]; have := (unhide HNI).1; omega)
                rw [h3] at hr
                have HR := hide hr
                have HNX : Hid (∃ R K gs lab, Lz w3.heap.size w3 bl (fun j => .slice (A j) (N j) (C j)) R K (.slice ga gn gc) gs lab w' ∧ gs.length = i ∧ R i = .slice a' n' c' ∧ K i = List.replicate (N i) (-1 - (i : Int)) ++ List.replicate (k + 1) (100 + (i : Int)) ∧ (∀ j, j < i → gs[j]? = some (R j) ∧ K j = List.replicate (N j) (-1 - (j : Int)) ++ List.replicate 20 (100 + (j : Int))) ∧ ∀ j, i < j → j < 4 → R j = .slice (A j) (N j) (C j) ∧ K j = List.replicate (N j) (-1 - (j : Int))) := by
                  refine ⟨_, _, gs, lab', hL', h2, upd_self _ _ _, ?_, fun j hj => ?_, fun j hj hj' => ?_⟩
                  · rw [upd_self, h4, List.append_assoc, ← List.replicate_succ']
                  · rw [upd_ne _ _ (by omega), upd_ne _ _ (by omega)]; exact h5 j hj
                  · rw [upd_ne _ _ (by omega), upd_ne _ _ (by omega)]; exact h6 j hj hj'
                have HWK : Hid (wrap64 ((k : Int) + 1) = ((k + 1 : Nat) : Int)) := by show wrap64 _ = _; unfold wrap64; omega
                clear hS h1 h2 h3 h4 h5 h6 hr hL'
                go_wp2_with (at_builtin; refine Lib.wpList_append_run _ rfl _ _ 24 24 rfl _ _ rfl rfl _ _ (unhide HR _) ?_)
                (try rw [unhide HWK])
                exact ⟨⟨k + 1, a', n', c', rfl, rfl, by omega, HNX⟩, by simp [intOf]; omega⟩
              · have hzk : ¬ (k : Int) < 20 := by omega
                obtain ⟨R, K, gs, lab, h1, h2, h3, h4, h5, h6⟩ := unhide hS
                obtain ⟨a', n', c', w', lab', hr, hL'⟩ := h1.push ra rn rc (by have := (unhide HNI).2; omega)
                have HR := hide hr
                have HNX : Hid (∃ R K gs lab, Lz w3.heap.size w3 bl (fun j => .slice (A j) (N j) (C j)) R K (.slice a' n' c') gs lab w' ∧ gs.length = i + 1 ∧ (∀ j, j < i + 1 → gs[j]? = some (R j) ∧ K j = List.replicate (N j) (-1 - (j : Int)) ++ List.replicate 20 (100 + (j : Int))) ∧ ∀ j, i + 1 ≤ j → j < 4 → R j = .slice (A j) (N j) (C j) ∧ K j = List.replicate (N j) (-1 - (j : Int))) := by
                  refine ⟨R, K, _, lab', hL', by simp [h2], fun j hj => ?_, fun j hj hj' => h6 j (by omega) hj'⟩
                  by_cases e : j = i
                  · subst e
                    obtain rfl : k = 20 := by omega
                    exact ⟨by rw [← h2, List.getElem?_concat_length, h2, h3], h4⟩
                  · rw [List.getElem?_append_left (by omega)]
                    exact h5 j (by omega)
                clear hS h1 h2 h3 h4 h5 h6 hr hL'
                go_wp2_with (at_builtin; refine Lib.wpList_append_run _ rfl _ _ 55 55 rfl _ _ rfl rfl _ _ (unhide HR _) ?_)
                (try rw [unhide HWI])
                exact ⟨⟨i + 1, a', n', c', rfl, rfl, by have := (unhide HNI).2; omega, HNX⟩, by have := (unhide HNI).2; simp [intOf]; omega⟩
          · have hz5 : ¬ (i : Int) < 4 := by omega
            obtain ⟨R, K, gs, lab, h1, h2, h3, -⟩ := unhide hSt
            obtain rfl : i = 4 := by omega
            obtain ⟨gb, gcc, hg1, -⟩ := h1.gat (h3 0 (by omega)).1
            injection hg1 with hg2 hg3 hg4
            rw [h2] at hg3
            subst hg2 hg3
            have HF : Hid (∀ j, j < 4 → gs[j]? = some (R j) ∧ K j = List.replicate (N j) (-1 - (j : Int)) ++ List.replicate 20 (100 + (j : Int))) := h3
            have HZ1 := hide h1
            clear hSt hlt h1 h2 h3 hz5 hi hg4
            go_wp2_with fail
            go_loopw [111] (fun si wr => ∃ i : Nat, si = .int .i64 i ∧ i ≤ 4 ∧ Hid (Lz w3.heap.size w3 bl (fun j => .slice (A j) (N j) (C j)) R K (.slice (some ⟨gb, 0, none⟩) 4 gc) gs lab wr)) (fun si _ => 4 - (intOf si).toNat)
            case atStart => exact ⟨0, rfl, by omega, HZ1⟩
            case round =>
              obtain ⟨i, rfl, hi, hS⟩ := hrel
              clear HZ1
              by_cases hlt : i < 4
              · have hz6 : (i : Int) < 4 := by omega
                have hKl : (K i).length = N i + 20 := by rw [(unhide HF i hlt).2]; simp
                obtain ⟨x0, hx0⟩ : ∃ x, (K i)[0]? = some x := ⟨_, List.getElem?_eq_getElem (by omega)⟩
                obtain ⟨ri, rc, hRi, -⟩ := (unhide hS).at_ hlt hx0
                obtain ⟨mi, hmi⟩ : ∃ mi, mi = N i + 20 := ⟨_, rfl⟩
                rw [hKl, ← hmi] at hRi
                have HCE : Hid (∀ W, Lz w3.heap.size w3 bl (fun j => .slice (A j) (N j) (C j)) R K (.slice (some ⟨gb, 0, none⟩) 4 gc) gs lab W → W.cell? ⟨bl, i, none⟩ = some (.slice (A i) (N i) (C i)) ∧ W.cell? ⟨gb, i, none⟩ = some (.slice (some ⟨ri, 0, none⟩) mi rc) ∧ ∀ k, k < mi → W.cell? ⟨ri, k, none⟩ = some (.int .i64 (if k < N i then -1 - (i : Int) else 100 + (i : Int)))) := fun W hW => by
                  refine ⟨hW.cell hlt, ?_, fun k hk => ?_⟩
                  · obtain ⟨g', c', e, hc⟩ := hW.gat (unhide HF i hlt).1
                    injection e with e1; injection e1 with e1; injection e1 with e1
                    subst e1
                    rw [← hRi]; exact hc
                  · have hkx : (K i)[k]? = some (if k < N i then -1 - (i : Int) else 100 + (i : Int)) := by
                      rw [(unhide HF i hlt).2]
                      by_cases hkn : k < N i
                      · rw [List.getElem?_append_left (by simpa using hkn), List.getElem?_replicate, if_pos hkn, if_pos hkn]
                      · rw [List.getElem?_append_right (by simpa using hkn), List.getElem?_replicate, if_pos (by rw [List.length_replicate]; omega), if_neg hkn]
                    obtain ⟨g', c', e, hc⟩ := hW.at_ hlt hkx
                    rw [hRi] at e
                    injection e with e1; injection e1 with e1; injection e1 with e1
                    subst e1
                    exact hc
                have HNI : Hid (mi = N i + 20 ∧ N i ≤ 1024 ∧ i < 4) := ⟨hmi, (unhide HLN i hlt).2, hlt⟩
                have HWI : Hid (wrap64 ((i : Int) + 1) = ((i + 1 : Nat) : Int)) := by show wrap64 _ = _; unfold wrap64; omega
                have hw100 : IntKind.i64.wrap (100 + (i : Int)) = 100 + (i : Int) := by rw [IntKind.wrap_i64]; omega
                have hwn : IntKind.i64.wrap (-1 - (i : Int)) = -1 - (i : Int) := by rw [IntKind.wrap_i64]; omega
                have hgc := (unhide HCE wr (unhide hS)).2.1
                generalize N i = Ni at *
                generalize A i = Ai at *
                generalize C i = Ci at *
                clear hKl hx0 hRi hmi hlt
                have HS1 := hS
                clear hS
                go_wp2_with fail
                clear hgc
                go_loopw [119] (fun sk wr => ∃ k : Nat, sk = .int .i64 k ∧ k ≤ mi ∧ Hid (Lz w3.heap.size w3 bl (fun j => .slice (A j) (N j) (C j)) R K (.slice (some ⟨gb, 0, none⟩) 4 gc) gs lab wr)) (fun sk _ => mi - (intOf sk).toNat)
                case atStart => exact ⟨0, rfl, Nat.zero_le _, HS1⟩
                case round =>
                  obtain ⟨k, rfl, hk, hS⟩ := hrel
                  clear HS1
                  by_cases hkl : k < mi
                  · have hzk : (k : Int) < (mi : Int) := by omega
                    obtain ⟨hcl, hgc, hck0⟩ := unhide HCE wr (unhide hS)
                    have hck := hck0 k hkl
                    have HWK : Hid (wrap64 ((k : Int) + 1) = ((k + 1 : Nat) : Int)) := by show wrap64 _ = _; have := unhide HNI; unfold wrap64; omega
                    clear hck0
                    by_cases hkn : k < Ni
                    · rw [if_pos hkn] at hck
                      have hz1 : (k : Int) < (Ni : Int) := by omega
                      have hz2 : ¬ (Ni : Int) ≤ (k : Int) := by omega
                      clear hkn
                      go_wp2_with fail
                      (try rw [unhide HWK])
                      exact ⟨⟨k + 1, rfl, by omega, hS⟩, by simp [intOf]; omega⟩
                    · rw [if_neg hkn] at hck
                      have hz1 : ¬ (k : Int) < (Ni : Int) := by omega
                      have hz2 : (Ni : Int) ≤ (k : Int) := by omega
                      clear hkn
                      go_wp2_with fail
                      (try rw [unhide HWK])
                      exact ⟨⟨k + 1, rfl, by omega, hS⟩, by simp [intOf]; omega⟩
                  · have hzk : ¬ (k : Int) < (mi : Int) := by omega
                    go_wp2_with fail
                    (try rw [unhide HWI])
                    exact ⟨⟨i + 1, rfl, by have := (unhide HNI).2.2; omega, hS⟩, by have := (unhide HNI).2.2; simp [intOf]; omega⟩
              · have hz6 : ¬ (i : Int) < 4 := by omega
                have HG4 : Hid (Game n X g (.slice a1 m1 q1) (.slice a2 m2 q2) vs es wr ∧ wr.heap[b1]? = some (oG (.slice a1 m1 q1) (.slice a2 m2 q2) rd wr0) ∧ Below w.heap.size w wr) := by
                  obtain ⟨g1, g2, g3⟩ := unhide HG3
                  have hb := (unhide hS).out
                  exact ⟨g1.below hb, (hb.block _ (Array.getElem?_eq_some_iff.1 g2).1).trans g2, g3.trans (hb.mono g3.size)⟩
                have CT := hide (tellsS (unhide HG4).1)
                rw [(unhide HN).2.1, (unhide HN).2.2.1, (unhide HN).2.2.2.1] at CT
                obtain ⟨c0, c1, c2, c3, -⟩ := cellsG (unhide HG4).2.1
                clear HG3 HF hS
                go_wp2_with fail
                refine (unhide CT).mono ?_
                rintro e w9 ⟨rfl, h9⟩
                have HG5 : Hid (Game n X g (.slice a1 m1 q1) (.slice a2 m2 q2) vs es w9 ∧ w9.heap[b1]? = some (oG (.slice a1 m1 q1) (.slice a2 m2 q2) rd wr0) ∧ Below w.heap.size w w9) := by
                  obtain ⟨g1, g2, g3⟩ := unhide HG4
                  have hb := unhide h9
                  exact ⟨g1.below hb, (hb.block _ (Array.getElem?_eq_some_iff.1 g2).1).trans g2, g3.trans (hb.mono g3.size)⟩
                obtain ⟨cd, m, hm, CD⟩ := ownDrop (unhide HG5).1 (unhide HN).1 (unhide HN).2.2.2.2 (unhide HG5).2.2 0 (unhide HOK)
                rw [(unhide HN).2.1, (unhide HN).2.2.1, (unhide HN).2.2.2.1] at CD
                have HM : Hid (m ≤ 1024) := hm
                have HCD := hide CD
                clear CT HG4 c0 c1 c2 c3 h9 hm CD
                go_wp2_with fail
                refine (unhide HCD).mono ?_
                rintro e w10 ⟨da, dk, rfl, h10⟩
                have hb1 : w10.heap[b1]? = some (oG (.slice a1 m1 q1) (.slice a2 m2 q2) rd wr0) := ((unhide h10).1 b1 (Array.getElem?_eq_some_iff.1 (unhide HG5).2.1).1 (unhide HLB)).trans (unhide HG5).2.1
                obtain ⟨c0, c1, c2, c3, -⟩ := cellsG hb1
                have CR := hide (unhide h10).2
                clear HCD h10 hb1 HG5
                go_wp2_with fail
                refine (unhide CR).mono ?_
                rintro e w11 ⟨x1, x2, x3, y1, y2, y3, la, lk, rd', wr', rfl, h11⟩
                have HO : Hid (OE w s (.slice x1 x2 x3) (.slice y1 y2 y3) rd' wr' da m w11.heap.size (w11.alloc (oG (.slice x1 x2 x3) (.slice y1 y2 y3) rd' wr')) ∧ (w11.alloc (oG (.slice x1 x2 x3) (.slice y1 y2 y3) rd' wr')).heap[w11.heap.size]? = some (oG (.slice x1 x2 x3) (.slice y1 y2 y3) rd' wr')) := ⟨(unhide h11).below (below_new w11 _), heap_alloc_new _ _⟩
                clear CR h11 c0 c1 c2 c3
                go_upto_region 42 with fail
                change Code.wp _ _ _ _ (w11.alloc (oG (.slice x1 x2 x3) (.slice y1 y2 y3) rd' wr'))
                generalize w11.alloc (oG (.slice x1 x2 x3) (.slice y1 y2 y3) rd' wr') = w12 at *
                generalize w11.heap.size = bx at *
                go_wp2_with fail
                go_loopw [183] (fun si wr => ∃ i : Nat, si = .int .i64 i ∧ i ≤ m ∧ Hid (OE w s (.slice x1 x2 x3) (.slice y1 y2 y3) rd' wr' da m bx wr ∧ wr.heap[bx]? = some (oG (.slice x1 x2 x3) (.slice y1 y2 y3) rd' wr'))) (fun si _ => m - (intOf si).toNat)
                case atStart => exact ⟨0, rfl, Nat.zero_le _, HO⟩
                case round =>
                  obtain ⟨i, rfl, hi, hS⟩ := hrel
                  clear HO
                  by_cases hlt : i < m
                  · have hzi : (i : Int) < (m : Int) := by omega
                    obtain ⟨p, u, hda, hcu, hfr, hO, hbx⟩ := (unhide hS).1.write hlt 77
                    have HNX : Hid (OE w s (.slice x1 x2 x3) (.slice y1 y2 y3) rd' wr' da m bx (wr.setCell ⟨p, i * 4 + 3, none⟩ (.int .u32 77)) ∧ (wr.setCell ⟨p, i * 4 + 3, none⟩ (.int .u32 77)).heap[bx]? = some (oG (.slice x1 x2 x3) (.slice y1 y2 y3) rd' wr')) := ⟨hO, hbx.trans (unhide hS).2⟩
                    have HWI : Hid (wrap64 ((i : Int) + 1) = ((i + 1 : Nat) : Int)) := by show wrap64 _ = _; have := unhide HM; unfold wrap64; omega
                    clear hO hbx hS
                    subst hda
                    go_wp2_with fail
                    (try rw [unhide HWI])
                    exact ⟨⟨i + 1, rfl, by omega, HNX⟩, by simp [intOf]; omega⟩
                  · have hzi : ¬ (i : Int) < (m : Int) := by omega
                    obtain ⟨c0, c1, c2, c3, -⟩ := cellsG (unhide hS).2
                    have CT := hide (unhide hS).1.tells
                    clear hS
                    go_wp2_with fail
                    refine (unhide CT).mono ?_
                    rintro e w13 ⟨rfl, hb13⟩
                    have HB := hide hb13
                    clear CT c0 c1 c2 c3 hb13
                    go_wp2_with fail
                    go_ret
                    exact ⟨rfl, unhide HB⟩
  · have hz : (0 : Int) < (m1 : Int) := by omega
    have hz1 : ¬ (m1 : Int) = 0 := by omega
    obtain ⟨l, hlz, hl⟩ := pick_of pk m1 (by omega) (by rw [unhide HVM]; exact (unhide HG3).1.vlen)
    have hu : IntKind.u64.wrap (m1 : Int) = (m1 : Int) := by
      have := (unhide HG3).1.vlen
      rw [← unhide HVM] at this
      unfold IntKind.wrap; simp [IntKind.signed, IntKind.bits]; omega
    have hlz2 : IntKind.i64.wrap ((IntKind.u64.wrap pk).tmod (m1 : Int)) = (l : Int) := by
      have hx := hlz
      generalize (IntKind.u64.wrap pk).tmod (m1 : Int) = z at hx ⊢
      rw [IntKind.wrap_i64]
      unfold wrap64 at hx
      omega
    have hlt : (l : Int) < (m1 : Int) := by omega
    obtain ⟨v, hv⟩ : ∃ v, vs[l]? = some v := ⟨_, List.getElem?_eq_getElem (by have := unhide HVM; omega)⟩
    have HOK : Hid (okN v) := by
      have h1 := (unhide HG3).1
      have := h1.st.mem.keys v (h1.sh.some_ ((h1.rel.V v).2 (List.mem_of_getElem? hv)))
      exact okN_of this.1 this.2
    have hr0 := (unhide HG3).1.vrow
    obtain ⟨gv, rfl⟩ := brow_some hr0 (by have := unhide HVM; omega)
    have hcv : w3.cell? ⟨gv, l, none⟩ = some (.int .i64 v) := brow_at hr0 hv
    clear hr0 hv hl
    go_upto_region 6 with fail
    refine wp_region_noPanic ?_
    refine regionL [] (fun y => y.cell? ⟨b1, 0, none⟩ = some (.slice (some ⟨gv, 0, none⟩) m1 q1) ∧ y.cell? ⟨gv, l, none⟩ = some (.int .i64 v)) (by kernel_rfl) ⟨c0, hcv⟩ (fun hHeld => ?_)
    refine takeL (i := 0) (v := ?t2v0) (some 40) rfl rfl (by kernel_rfl) (by kernel_rfl) (by kernel_rfl) (by kernel_rfl) (by kernel_rfl) (fun _ _ _ h => h) (Or.inl ⟨by rfl, ?t2h0⟩) (by assumption) ?t2r0
    case t2h0 => (intro y hSu; (try dsimp only at hSu); go_simp; first | done | with_reducible rfl)
    (try simp only [Act.put, List.setIfInBounds_toArray, List.set_cons_zero, List.set_cons_succ])
    refine takeL (i := 1) (v := ?t2v1) (some 41) rfl rfl (by kernel_rfl) (by kernel_rfl) (by kernel_rfl) (by kernel_rfl) (by kernel_rfl) (fun _ _ _ h => h) (Or.inl ⟨by rfl, ?t2h1⟩) (by assumption) ?t2r1
    case t2h1 => (intro y hSu; (try dsimp only at hSu); go_simp; first | done | with_reducible rfl)
    (try simp only [Act.put, List.setIfInBounds_toArray, List.set_cons_zero, List.set_cons_succ])
    refine takeL (i := 2) (v := ?t2v2) (some 42) rfl rfl (by kernel_rfl) (by kernel_rfl) (by kernel_rfl) (by kernel_rfl) (by kernel_rfl) (fun _ _ _ h => h) (Or.inl ⟨by rfl, ?t2h2⟩) (by assumption) ?t2r2
    case t2h2 => (intro y hSu; (try dsimp only at hSu); go_simp; first | done | with_reducible rfl)
    (try simp only [Act.put, List.setIfInBounds_toArray, List.set_cons_zero, List.set_cons_succ])
    refine takeL (i := 3) (v := ?t2v3) (some 43) rfl rfl (by kernel_rfl) (by kernel_rfl) (by kernel_rfl) (by kernel_rfl) (by kernel_rfl) (fun _ _ _ h => h) (Or.inl ⟨by rfl, ?t2h3⟩) (by assumption) ?t2r3
    case t2h3 => (intro y hSu; (try dsimp only at hSu); go_simp; first | done | with_reducible rfl)
    (try simp only [Act.put, List.setIfInBounds_toArray, List.set_cons_zero, List.set_cons_succ])
    refine takeL (i := 4) (v := ?t2v4) (some 44) rfl rfl (by kernel_rfl) (by kernel_rfl) (by kernel_rfl) (by kernel_rfl) (by kernel_rfl) (fun _ _ _ h => h) (Or.inl ⟨by rfl, ?t2h4⟩) (by assumption) ?t2r4
    case t2h4 => (intro y hSu; (try dsimp only at hSu); go_simp; first | done | with_reducible rfl)
    (try simp only [Act.put, List.setIfInBounds_toArray, List.set_cons_zero, List.set_cons_succ])
    refine takeL (i := 5) (v := ?t2v5) (some 45) rfl rfl (by kernel_rfl) (by kernel_rfl) (by kernel_rfl) (by kernel_rfl) (by kernel_rfl) (fun _ _ _ h => h) (Or.inl ⟨by rfl, ?t2h5⟩) (by assumption) ?t2r5
    case t2h5 => (intro y hSu; (try dsimp only at hSu); go_simp; first | done | with_reducible rfl)
    (try simp only [Act.put, List.setIfInBounds_toArray, List.set_cons_zero, List.set_cons_succ])
    refine takeL (i := 6) (v := ?t2v6) (some 46) rfl rfl (by kernel_rfl) (by kernel_rfl) (by kernel_rfl) (by kernel_rfl) (by kernel_rfl) (fun _ _ _ h => h) (Or.inl ⟨by rfl, ?t2h6⟩) (by assumption) ?t2r6
    case t2h6 => (intro y hSu; (try dsimp only at hSu); go_simp; first | done | with_reducible rfl)
    (try simp only [Act.put, List.setIfInBounds_toArray, List.set_cons_zero, List.set_cons_succ])
    refine takeL (i := 7) (v := ?t2v7) (some 47) rfl rfl (by kernel_rfl) (by kernel_rfl) (by kernel_rfl) (by kernel_rfl) (by kernel_rfl) (fun _ _ _ h => h) (Or.inl ⟨by rfl, ?t2h7⟩) (by assumption) ?t2r7
    case t2h7 => (intro y hSu; (try dsimp only at hSu); go_simp; first | done | with_reducible rfl)
    (try simp only [Act.put, List.setIfInBounds_toArray, List.set_cons_zero, List.set_cons_succ])
    refine takeL (i := 8) (v := ?t2v8) (some 48) rfl rfl (by kernel_rfl) (by kernel_rfl) (by kernel_rfl) (by kernel_rfl) (by kernel_rfl) (fun _ _ _ h => h) (Or.inl ⟨by rfl, ?t2h8⟩) (by assumption) ?t2r8
    case t2h8 => (intro y hSu; (try dsimp only at hSu); go_simp; first | done | with_reducible rfl)
    (try simp only [Act.put, List.setIfInBounds_toArray, List.set_cons_zero, List.set_cons_succ])
    refine takeL (i := 9) (v := ?t2v9) (some 49) rfl rfl (by kernel_rfl) (by kernel_rfl) (by kernel_rfl) (by kernel_rfl) (by kernel_rfl) (fun _ _ _ h => h) (Or.inl ⟨by rfl, ?t2h9⟩) (by assumption) ?t2r9
    case t2h9 => (intro y hSu; (try dsimp only at hSu); go_simp; first | done | with_reducible rfl)
    (try simp only [Act.put, List.setIfInBounds_toArray, List.set_cons_zero, List.set_cons_succ])
    refine takeL (i := 10) (v := ?t2v10) (some 50) rfl rfl (by kernel_rfl) (by kernel_rfl) (by kernel_rfl) (by kernel_rfl) (by kernel_rfl) (fun _ _ _ h => h) (Or.inl ⟨by rfl, ?t2h10⟩) (by assumption) ?t2r10
    case t2h10 => (intro y hSu; (try dsimp only at hSu); go_simp; first | done | with_reducible rfl)
    (try simp only [Act.put, List.setIfInBounds_toArray, List.set_cons_zero, List.set_cons_succ])
    refine takeL (i := 11) (v := ?t2v11) (some 51) rfl rfl (by kernel_rfl) (by kernel_rfl) (by kernel_rfl) (by kernel_rfl) (by kernel_rfl) (fun _ _ _ h => h) (Or.inl ⟨by rfl, ?t2h11⟩) (by assumption) ?t2r11
    case t2h11 => (intro y hSu; (try dsimp only at hSu); go_simp; first | done | with_reducible rfl)
    (try simp only [Act.put, List.setIfInBounds_toArray, List.set_cons_zero, List.set_cons_succ])
    refine takeL (i := 12) (v := ?t2v12) (some 8) rfl rfl (by kernel_rfl) (by kernel_rfl) (by kernel_rfl) (by kernel_rfl) (by kernel_rfl) (fun _ _ _ h => h) (Or.inl ⟨by rfl, ?t2h12⟩) (by assumption) ?t2r12
    case t2h12 => (intro y hSu; (try dsimp only at hSu); go_simp; first | done | with_reducible rfl)
    (try simp only [Act.put, List.setIfInBounds_toArray, List.set_cons_zero, List.set_cons_succ])
    refine doneL (by kernel_rfl) ?_ _
    refine NoPanic.normal ?_
    have HG3' : Hid (Game n X g (.slice (some ⟨gv, 0, none⟩) m1 q1) (.slice a2 m2 q2) vs es w3.drew ∧ w3.drew.heap[b1]? = some (oG (.slice (some ⟨gv, 0, none⟩) m1 q1) (.slice a2 m2 q2) rd wr0) ∧ Below w.heap.size w w3.drew) := by
      obtain ⟨h1, h2, h3⟩ := unhide HG3
      have hb := (Below.refl w3.heap.size w3).drew
      exact ⟨h1.below hb, h2, h3.trans (hb.mono h3.size)⟩
    clear HG3 c0 hcv hHeld hlz hlz2 hlt hu hz hz1 hv0
    have HG3 := HG3'
    clear HG3'
    generalize w3.drew = w3' at *
    have CA := hide (oVerts (unhide HG3).1)
    rw [(unhide HN).2.1] at CA
    go_wp2_with fail
    refine (unhide CA).mono ?_
    rintro e w4 ⟨a0', n0, c0', rfl, h4⟩
    obtain ⟨k0, e0, l0, r0, b0⟩ := unhide h4
    have H4 := hide (And.intro e0 (And.intro l0 (And.intro r0 b0)))
    have CA2 := hide (oEdges ((unhide HG3).1.below b0))
    rw [(unhide HN).2.1] at CA2
    clear CA h4 e0 l0 r0 b0
    go_wp2_with fail
    refine (unhide CA2).mono ?_
    rintro e w5 ⟨a1', n1, c1', rfl, h5⟩
    obtain ⟨k1, e1, l1, r1, b1'⟩ := unhide h5
    have H5 := hide (And.intro e1 (And.intro l1 (And.intro r1 b1')))
    have CA3 := hide (oOut (((unhide HG3).1.below (unhide H4).2.2.2).below b1') v (unhide HOK))
    rw [(unhide HN).2.1] at CA3
    clear CA2 h5 e1 l1 r1 b1'
    go_wp2_with fail
    refine (unhide CA3).mono ?_
    rintro e w6 ⟨a2', n2, c2', rfl, h6⟩
    obtain ⟨k2, e2, l2, r2, b2'⟩ := unhide h6
    have H6 := hide (And.intro e2 (And.intro l2 (And.intro r2 b2')))
    have CA4 := hide (oIn ((((unhide HG3).1.below (unhide H4).2.2.2).below (unhide H5).2.2.2).below b2') v (unhide HOK))
    rw [(unhide HN).2.1] at CA4
    clear CA3 h6 e2 l2 r2 b2'
    go_wp2_with fail
    refine (unhide CA4).mono ?_
    rintro e w7 ⟨a3', n3, c3', rfl, h7⟩
    obtain ⟨k3, e3, l3, r3, b3'⟩ := unhide h7
    obtain ⟨lab0, hz0⟩ := lz_start (L := fun j => .slice (pick4 a0' a1' a2' a3' j) (pick4 n0 n1 n2 n3 j) (pick4 c0' c1' c2' c3' j)) (K := pick4 k0 k1 k2 k3) (unhide H4).2.2.1 (unhide H4).2.2.2 (unhide H5).2.2.1 (unhide H5).2.2.2 (unhide H6).2.2.1 (unhide H6).2.2.2 r3 b3'
    have HLN : Hid (∀ j, j < 4 → (pick4 k0 k1 k2 k3 j).length = pick4 n0 n1 n2 n3 j ∧ pick4 n0 n1 n2 n3 j ≤ 1024) := fun j hj => by
      obtain rfl | rfl | rfl | rfl : j = 0 ∨ j = 1 ∨ j = 2 ∨ j = 3 := by omega
      · exact ⟨(unhide H4).1.symm, (unhide H4).2.1⟩
      · exact ⟨(unhide H5).1.symm, (unhide H5).2.1⟩
      · exact ⟨(unhide H6).1.symm, (unhide H6).2.1⟩
      · exact ⟨e3.symm, l3⟩
    have HZ0 := hide hz0
    clear CA4 h7 e3 l3 r3 b3' H4 H5 H6 hz0
    go_upto_region 8 with fail
    change Code.wp _ _ _ _ (w7.alloc (.cells #[.slice a0' n0 c0', .slice a1' n1 c1', .slice a2' n2 c2', .slice a3' n3 c3'] 24))
    have HZ1 : Hid (Lz w3'.heap.size w3' w7.heap.size (fun j => .slice (pick4 a0' a1' a2' a3' j) (pick4 n0 n1 n2 n3 j) (pick4 c0' c1' c2' c3' j)) (fun j => .slice (pick4 a0' a1' a2' a3' j) (pick4 n0 n1 n2 n3 j) (pick4 c0' c1' c2' c3' j)) (pick4 k0 k1 k2 k3) (.slice none 0 0) [] lab0 (w7.alloc (.cells #[.slice a0' n0 c0', .slice a1' n1 c1', .slice a2' n2 c2', .slice a3' n3 c3'] 24))) := unhide HZ0
    clear HZ0
    generalize w7.alloc (.cells #[.slice a0' n0 c0', .slice a1' n1 c1', .slice a2' n2 c2', .slice a3' n3 c3'] 24) = w8 at *
    generalize w7.heap.size = bl at *
    generalize pick4 a0' a1' a2' a3' = A at *
    generalize pick4 n0 n1 n2 n3 = N at *
    generalize pick4 c0' c1' c2' c3' = C at *
    generalize pick4 k0 k1 k2 k3 = K0 at *
    go_wp2_with fail
    go_loopw [65] (fun si wr => ∃ i : Nat, si = .int .i64 i ∧ i ≤ 4 ∧ Hid (∃ K lab, Lz w3'.heap.size w3' bl (fun j => .slice (A j) (N j) (C j)) (fun j => .slice (A j) (N j) (C j)) K (.slice none 0 0) [] lab wr ∧ (∀ j, j < 4 → (K j).length = N j) ∧ ∀ j, j < i → K j = List.replicate (N j) (-1 - (j : Int)))) (fun si _ => 4 - (intOf si).toNat)
    case atStart => exact ⟨0, rfl, by omega, K0, lab0, unhide HZ1, fun j hj => (unhide HLN j hj).1, fun j hj => absurd hj (Nat.not_lt_zero _)⟩
    case round =>
      obtain ⟨i, rfl, hi, hSt⟩ := hrel
      clear HZ1
      by_cases hlt : i < 4
      · have hz4 : (i : Int) < 4 := by omega
        have hcl : wr.cell? ⟨bl, i, none⟩ = some (.slice (A i) (N i) (C i)) := by obtain ⟨K, lab, h1, -⟩ := unhide hSt; exact h1.cell hlt
        have HNI : Hid (N i ≤ 1024) := (unhide HLN i hlt).2
        obtain ⟨ni, hni⟩ : ∃ ni, ni = N i := ⟨_, rfl⟩
        obtain ⟨ci, hci⟩ : ∃ ci, ci = C i := ⟨_, rfl⟩
        obtain ⟨ai, hai⟩ : ∃ ai, ai = A i := ⟨_, rfl⟩
        have HEI : Hid (ni = N i ∧ ci = C i ∧ ai = A i ∧ i < 4) := ⟨hni, hci, hai, hlt⟩
        rw [← hni, ← hci, ← hai] at hcl
        rw [← hni] at HNI
        clear hni hci hai hlt
        have HWI : Hid (wrap64 ((i : Int) + 1) = ((i + 1 : Nat) : Int)) := by show wrap64 _ = _; have := (unhide HEI).2.2.2; unfold wrap64; omega
        have hwn : IntKind.i64.wrap (-1 - (i : Int)) = -1 - (i : Int) := by rw [IntKind.wrap_i64]; have := (unhide HEI).2.2.2; omega
        have HS1 : Hid (∃ K lab, Lz w3'.heap.size w3' bl (fun j => .slice (A j) (N j) (C j)) (fun j => .slice (A j) (N j) (C j)) K (.slice none 0 0) [] lab wr ∧ (∀ j, j < 4 → (K j).length = N j) ∧ (∀ j, j < i → K j = List.replicate (N j) (-1 - (j : Int))) ∧ ∀ k, k < 0 → (K i)[k]? = some (-1 - (i : Int))) := by
          obtain ⟨K, lab, h1, h2, h3⟩ := unhide hSt
          exact ⟨K, lab, h1, h2, h3, fun k hk => absurd hk (Nat.not_lt_zero _)⟩
        clear hSt
        go_wp2_with fail
        clear hcl
        go_loopw [73] (fun sk wr => ∃ k : Nat, sk = .int .i64 k ∧ k ≤ ni ∧ Hid (∃ K lab, Lz w3'.heap.size w3' bl (fun j => .slice (A j) (N j) (C j)) (fun j => .slice (A j) (N j) (C j)) K (.slice none 0 0) [] lab wr ∧ (∀ j, j < 4 → (K j).length = N j) ∧ (∀ j, j < i → K j = List.replicate (N j) (-1 - (j : Int))) ∧ ∀ k', k' < k → (K i)[k']? = some (-1 - (i : Int)))) (fun sk _ => ni - (intOf sk).toNat)
        case atStart => exact ⟨0, rfl, Nat.zero_le _, HS1⟩
        case round =>
          obtain ⟨k, rfl, hk, hS⟩ := hrel
          clear HS1
          by_cases hkl : k < ni
          · have hzk : (k : Int) < (ni : Int) := by omega
            obtain ⟨K, lab, h1, h2, h3, h4⟩ := unhide hS
            obtain ⟨en, ec, ea, ei⟩ := unhide HEI
            have hkK : k < (K i).length := by rw [h2 i ei]; omega
            obtain ⟨oldx, hox⟩ : ∃ x, (K i)[k]? = some x := ⟨_, List.getElem?_eq_getElem hkK⟩
            obtain ⟨gg, cc, hR, hcell⟩ := h1.at_ ei hox
            have hR' : ai = some ⟨gg, 0, none⟩ := by rw [ea]; injection hR
            obtain ⟨hfr, hW⟩ := h1.write (k := k) (-1 - (i : Int)) ei hR hkK
            have hcl : wr.cell? ⟨bl, i, none⟩ = some (.slice (some ⟨gg, 0, none⟩) ni ci) := by rw [h1.cell ei, en, ec, ← hR', ea]
            have HNX : Hid (∃ K lab, Lz w3'.heap.size w3' bl (fun j => .slice (A j) (N j) (C j)) (fun j => .slice (A j) (N j) (C j)) K (.slice none 0 0) [] lab (wr.setCell ⟨gg, k, none⟩ (.int .i64 (-1 - (i : Int)))) ∧ (∀ j, j < 4 → (K j).length = N j) ∧ (∀ j, j < i → K j = List.replicate (N j) (-1 - (j : Int))) ∧ ∀ k', k' < k + 1 → (K i)[k']? = some (-1 - (i : Int))) := by
              refine ⟨_, lab, hW, fun j hj => ?_, fun j hj => ?_, fun k' hk' => ?_⟩
              · by_cases e : j = i
                · subst e; rw [upd_self, List.length_set]; exact h2 j hj
                · rw [upd_ne _ _ e]; exact h2 j hj
              · rw [upd_ne _ _ (by omega)]; exact h3 j hj
              · rw [upd_self]
                by_cases e : k = k'
                · subst e; rw [List.getElem?_set_self hkK]
                · rw [List.getElem?_set_ne e]; exact h4 k' (by omega)
            have HWK : Hid (wrap64 ((k : Int) + 1) = ((k + 1 : Nat) : Int)) := by show wrap64 _ = _; have := unhide HNI; unfold wrap64; omega
            clear hS h1 h2 h3 h4 hR hR' hW en ec ea ei hkK hox
            go_wp2_with fail
            (try rw [unhide HWK])
            exact ⟨⟨k + 1, rfl, by omega, HNX⟩, by simp [intOf]; omega⟩
          · have hzk : ¬ (k : Int) < (ni : Int) := by omega
            have HNX : Hid (∃ K lab, Lz w3'.heap.size w3' bl (fun j => .slice (A j) (N j) (C j)) (fun j => .slice (A j) (N j) (C j)) K (.slice none 0 0) [] lab wr ∧ (∀ j, j < 4 → (K j).length = N j) ∧ ∀ j, j < i + 1 → K j = List.replicate (N j) (-1 - (j : Int))) := by
              obtain ⟨K, lab, h1, h2, h3, h4⟩ := unhide hS
              obtain ⟨en, ec, ea, ei⟩ := unhide HEI
              refine ⟨K, lab, h1, h2, fun j hj => ?_⟩
              by_cases e : j = i
              · subst e
                refine List.ext_getElem? (fun k' => ?_)
                by_cases hk' : k' < k
                · rw [h4 k' hk', List.getElem?_replicate, if_pos (by omega)]
                · rw [List.getElem?_eq_none (by rw [h2 j ei]; omega), List.getElem?_eq_none (by rw [List.length_replicate]; omega)]
              · exact h3 j (by omega)
            clear hS
            go_wp2_with fail
            (try rw [unhide HWI])
            exact ⟨⟨i + 1, rfl, by have := (unhide HEI).2.2.2; omega, HNX⟩, by have := (unhide HEI).2.2.2; simp [intOf]; omega⟩
      · have hz4 : ¬ (i : Int) < 4 := by omega
        have HB1 : Hid (∃ R K gs lab, Lz w3'.heap.size w3' bl (fun j => .slice (A j) (N j) (C j)) R K (.slice none 0 0) gs lab wr ∧ gs.length = 0 ∧ (∀ j, j < 0 → gs[j]? = some (R j) ∧ K j = List.replicate (N j) (-1 - (j : Int)) ++ List.replicate 20 (100 + (j : Int))) ∧ ∀ j, 0 ≤ j → j < 4 → R j = .slice (A j) (N j) (C j) ∧ K j = List.replicate (N j) (-1 - (j : Int))) := by
          obtain ⟨K, lab, h1, h2, h3⟩ := unhide hSt
          exact ⟨_, K, [], lab, h1, rfl, fun j hj => absurd hj (Nat.not_lt_zero _), fun j _ hj => ⟨rfl, h3 j (by omega)⟩⟩
        clear hSt hlt
        go_wp2_with fail
        go_loopw [12, 88] (fun sg si wr => ∃ (i : Nat) (ga : Option Addr) (gn gc : Nat), si = .int .i64 i ∧ sg = .slice ga gn gc ∧ i ≤ 4 ∧ Hid (∃ R K gs lab, Lz w3'.heap.size w3' bl (fun j => .slice (A j) (N j) (C j)) R K (.slice ga gn gc) gs lab wr ∧ gs.length = i ∧ (∀ j, j < i → gs[j]? = some (R j) ∧ K j = List.replicate (N j) (-1 - (j : Int)) ++ List.replicate 20 (100 + (j : Int))) ∧ ∀ j, i ≤ j → j < 4 → R j = .slice (A j) (N j) (C j) ∧ K j = List.replicate (N j) (-1 - (j : Int)))) (fun _ si _ => 4 - (intOf si).toNat)
        case atStart => exact ⟨0, none, 0, 0, rfl, rfl, by omega, HB1⟩
        case round =>
          obtain ⟨i, ga, gn, gc, rfl, rfl, hi, hSt⟩ := hrel
          clear HB1
          by_cases hlt : i < 4
          · have hz5 : (i : Int) < 4 := by omega
            have hcl : wr.cell? ⟨bl, i, none⟩ = some (.slice (A i) (N i) (C i)) := by obtain ⟨R, K, gs, lab, h1, -⟩ := unhide hSt; exact h1.cell hlt
            have HNI : Hid (N i ≤ 1024 ∧ i < 4) := ⟨(unhide HLN i hlt).2, hlt⟩
            have HWI : Hid (wrap64 ((i : Int) + 1) = ((i + 1 : Nat) : Int)) := by show wrap64 _ = _; unfold wrap64; omega
            have hw100 : IntKind.i64.wrap (100 + (i : Int)) = 100 + (i : Int) := by rw [IntKind.wrap_i64]; omega
            have HS1 : Hid (∃ R K gs lab, Lz w3'.heap.size w3' bl (fun j => .slice (A j) (N j) (C j)) R K (.slice ga gn gc) gs lab wr ∧ gs.length = i ∧ R i = .slice (A i) (N i) (C i) ∧ K i = List.replicate (N i) (-1 - (i : Int)) ++ List.replicate 0 (100 + (i : Int)) ∧ (∀ j, j < i → gs[j]? = some (R j) ∧ K j = List.replicate (N j) (-1 - (j : Int)) ++ List.replicate 20 (100 + (j : Int))) ∧ ∀ j, i < j → j < 4 → R j = .slice (A j) (N j) (C j) ∧ K j = List.replicate (N j) (-1 - (j : Int))) := by
              obtain ⟨R, K, gs, lab, h1, h2, h3, h4⟩ := unhide hSt
              exact ⟨R, K, gs, lab, h1, h2, (h4 i (Nat.le_refl _) hlt).1, by rw [(h4 i (Nat.le_refl _) hlt).2]; simp, h3, fun j hj hj' => h4 j (by omega) hj'⟩
            clear hSt hlt
            generalize A i = Ai at *
            generalize C i = Ci at *
            obtain ⟨Ni, hNi⟩ : ∃ Ni, Ni = N i := ⟨_, rfl⟩
            rw [← hNi] at hcl
            have HNe := hide hNi
            clear hNi
            go_wp2_with fail
            clear hcl
            go_loopw [14, 15] (fun sl sk wr => ∃ (k : Nat) (ra : Option Addr) (rn rc : Nat), sk = .int .i64 k ∧ sl = .slice ra rn rc ∧ k ≤ 20 ∧ Hid (∃ R K gs lab, Lz w3'.heap.size w3' bl (fun j => .slice (A j) (N j) (C j)) R K (.slice ga gn gc) gs lab wr ∧ gs.length = i ∧ R i = .slice ra rn rc ∧ K i = List.replicate (N i) (-1 - (i : Int)) ++ List.replicate k (100 + (i : Int)) ∧ (∀ j, j < i → gs[j]? = some (R j) ∧ K j = List.replicate (N j) (-1 - (j : Int)) ++ List.replicate 20 (100 + (j : Int))) ∧ ∀ j, i < j → j < 4 → R j = .slice (A j) (N j) (C j) ∧ K j = List.replicate (N j) (-1 - (j : Int)))) (fun _ sk _ => 20 - (intOf sk).toNat)
            case atStart => exact ⟨0, _, _, _, rfl, rfl, by omega, by have := unhide HS1; rw [← unhide HNe] at this ⊢; exact this⟩
            case round =>
              obtain ⟨k, ra, rn, rc, rfl, rfl, hk, hS⟩ := hrel
              clear HS1
              by_cases hkl : k < 20
              · have hzk : (k : Int) < 20 := by omega
                obtain ⟨R, K, gs, lab, h1, h2, h3, h4, h5, h6⟩ := unhide hS
                obtain ⟨a', n', c', w', lab', hr, hL'⟩ := h1.app (100 + (i : Int)) (unhide HNI).2 (by rw [h4, List.length_append, List.length_replicate, List.length_replicate]; have := (unhide HNI).1; omega)
                rw [h3] at hr
                have HR := hide hr
                have HNX : Hid (∃ R K gs lab, Lz w3'.heap.size w3' bl (fun j => .slice (A j) (N j) (C j)) R K (.slice ga gn gc) gs lab w' ∧ gs.length = i ∧ R i = .slice a' n' c' ∧ K i = List.replicate (N i) (-1 - (i : Int)) ++ List.replicate (k + 1) (100 + (i : Int)) ∧ (∀ j, j < i → gs[j]? = some (R j) ∧ K j = List.replicate (N j) (-1 - (j : Int)) ++ List.replicate 20 (100 + (j : Int))) ∧ ∀ j, i < j → j < 4 → R j = .slice (A j) (N j) (C j) ∧ K j = List.replicate (N j) (-1 - (j : Int))) := by
                  refine ⟨_, _, gs, lab', hL', h2, upd_self _ _ _, ?_, fun j hj => ?_, fun j hj hj' => ?_⟩
                  · rw [upd_self, h4, List.append_assoc, ← List.replicate_succ']
                  · rw [upd_ne _ _ (by omega), upd_ne _ _ (by omega)]; exact h5 j hj
                  · rw [upd_ne _ _ (by omega), upd_ne _ _ (by omega)]; exact h6 j hj hj'
                have HWK : Hid (wrap64 ((k : Int) + 1) = ((k + 1 : Nat) : Int)) := by show wrap64 _ = _; unfold wrap64; omega
                clear hS h1 h2 h3 h4 h5 h6 hr hL'
                go_wp2_with (at_builtin; refine Lib.wpList_append_run _ rfl _ _ 24 24 rfl _ _ rfl rfl _ _ (unhide HR _) ?_)
                (try rw [unhide HWK])
                exact ⟨⟨k + 1, a', n', c', rfl, rfl, by omega, HNX⟩, by simp [intOf]; omega⟩
              · have hzk : ¬ (k : Int) < 20 := by omega
                obtain ⟨R, K, gs, lab, h1, h2, h3, h4, h5, h6⟩ := unhide hS
                obtain ⟨a', n', c', w', lab', hr, hL'⟩ := h1.push ra rn rc (by have := (unhide HNI).2; omega)
                have HR := hide hr
                have HNX : Hid (∃ R K gs lab, Lz w3'.heap.size w3' bl (fun j => .slice (A j) (N j) (C j)) R K (.slice a' n' c') gs lab w' ∧ gs.length = i + 1 ∧ (∀ j, j < i + 1 → gs[j]? = some (R j) ∧ K j = List.replicate (N j) (-1 - (j : Int)) ++ List.replicate 20 (100 + (j : Int))) ∧ ∀ j, i + 1 ≤ j → j < 4 → R j = .slice (A j) (N j) (C j) ∧ K j = List.replicate (N j) (-1 - (j : Int))) := by
                  refine ⟨R, K, _, lab', hL', by simp [h2], fun j hj => ?_, fun j hj hj' => h6 j (by omega) hj'⟩
                  by_cases e : j = i
                  · subst e
                    obtain rfl : k = 20 := by omega
                    exact ⟨by rw [← h2, List.getElem?_concat_length, h2, h3], h4⟩
                  · rw [List.getElem?_append_left (by omega)]
                    exact h5 j (by omega)
                clear hS h1 h2 h3 h4 h5 h6 hr hL'
                go_wp2_with (at_builtin; refine Lib.wpList_append_run _ rfl _ _ 55 55 rfl _ _ rfl rfl _ _ (unhide HR _) ?_)
                (try rw [unhide HWI])
                exact ⟨⟨i + 1, a', n', c', rfl, rfl, by have := (unhide HNI).2; omega, HNX⟩, by have := (unhide HNI).2; simp [intOf]; omega⟩
          · have hz5 : ¬ (i : Int) < 4 := by omega
            obtain ⟨R, K, gs, lab, h1, h2, h3, -⟩ := unhide hSt
            obtain rfl : i = 4 := by omega
            obtain ⟨gb, gcc, hg1, -⟩ := h1.gat (h3 0 (by omega)).1
            injection hg1 with hg2 hg3 hg4
            rw [h2] at hg3
            subst hg2 hg3
            have HF : Hid (∀ j, j < 4 → gs[j]? = some (R j) ∧ K j = List.replicate (N j) (-1 - (j : Int)) ++ List.replicate 20 (100 + (j : Int))) := h3
            have HZ1 := hide h1
            clear hSt hlt h1 h2 h3 hz5 hi hg4
            go_wp2_with fail
            go_loopw [111] (fun si wr => ∃ i : Nat, si = .int .i64 i ∧ i ≤ 4 ∧ Hid (Lz w3'.heap.size w3' bl (fun j => .slice (A j) (N j) (C j)) R K (.slice (some ⟨gb, 0, none⟩) 4 gc) gs lab wr)) (fun si _ => 4 - (intOf si).toNat)
            case atStart => exact ⟨0, rfl, by omega, HZ1⟩
            case round =>
              obtain ⟨i, rfl, hi, hS⟩ := hrel
              clear HZ1
              by_cases hlt : i < 4
              · have hz6 : (i : Int) < 4 := by omega
                have hKl : (K i).length = N i + 20 := by rw [(unhide HF i hlt).2]; simp
                obtain ⟨x0, hx0⟩ : ∃ x, (K i)[0]? = some x := ⟨_, List.getElem?_eq_getElem (by omega)⟩
                obtain ⟨ri, rc, hRi, -⟩ := (unhide hS).at_ hlt hx0
                obtain ⟨mi, hmi⟩ : ∃ mi, mi = N i + 20 := ⟨_, rfl⟩
                rw [hKl, ← hmi] at hRi
                have HCE : Hid (∀ W, Lz w3'.heap.size w3' bl (fun j => .slice (A j) (N j) (C j)) R K (.slice (some ⟨gb, 0, none⟩) 4 gc) gs lab W → W.cell? ⟨bl, i, none⟩ = some (.slice (A i) (N i) (C i)) ∧ W.cell? ⟨gb, i, none⟩ = some (.slice (some ⟨ri, 0, none⟩) mi rc) ∧ ∀ k, k < mi → W.cell? ⟨ri, k, none⟩ = some (.int .i64 (if k < N i then -1 - (i : Int) else 100 + (i : Int)))) := fun W hW => by
                  refine ⟨hW.cell hlt, ?_, fun k hk => ?_⟩
                  · obtain ⟨g', c', e, hc⟩ := hW.gat (unhide HF i hlt).1
                    injection e with e1; injection e1 with e1; injection e1 with e1
                    subst e1
                    rw [← hRi]; exact hc
                  · have hkx : (K i)[k]? = some (if k < N i then -1 - (i : Int) else 100 + (i : Int)) := by
                      rw [(unhide HF i hlt).2]
                      by_cases hkn : k < N i
                      · rw [List.getElem?_append_left (by simpa using hkn), List.getElem?_replicate, if_pos hkn, if_pos hkn]
                      · rw [List.getElem?_append_right (by simpa using hkn), List.getElem?_replicate, if_pos (by rw [List.length_replicate]; omega), if_neg hkn]
                    obtain ⟨g', c', e, hc⟩ := hW.at_ hlt hkx
                    rw [hRi] at e
                    injection e with e1; injection e1 with e1; injection e1 with e1
                    subst e1
                    exact hc
                have HNI : Hid (mi = N i + 20 ∧ N i ≤ 1024 ∧ i < 4) := ⟨hmi, (unhide HLN i hlt).2, hlt⟩
                have HWI : Hid (wrap64 ((i : Int) + 1) = ((i + 1 : Nat) : Int)) := by show wrap64 _ = _; unfold wrap64; omega
                have hw100 : IntKind.i64.wrap (100 + (i : Int)) = 100 + (i : Int) := by rw [IntKind.wrap_i64]; omega
                have hwn : IntKind.i64.wrap (-1 - (i : Int)) = -1 - (i : Int) := by rw [IntKind.wrap_i64]; omega
                have hgc := (unhide HCE wr (unhide hS)).2.1
                generalize N i = Ni at *
                generalize A i = Ai at *
                generalize C i = Ci at *
                clear hKl hx0 hRi hmi hlt
                have HS1 := hS
                clear hS
                go_wp2_with fail
                clear hgc
                go_loopw [119] (fun sk wr => ∃ k : Nat, sk = .int .i64 k ∧ k ≤ mi ∧ Hid (Lz w3'.heap.size w3' bl (fun j => .slice (A j) (N j) (C j)) R K (.slice (some ⟨gb, 0, none⟩) 4 gc) gs lab wr)) (fun sk _ => mi - (intOf sk).toNat)
                case atStart => exact ⟨0, rfl, Nat.zero_le _, HS1⟩
                case round =>
                  obtain ⟨k, rfl, hk, hS⟩ := hrel
                  clear HS1
                  by_cases hkl : k < mi
                  · have hzk : (k : Int) < (mi : Int) := by omega
                    obtain ⟨hcl, hgc, hck0⟩ := unhide HCE wr (unhide hS)
                    have hck := hck0 k hkl
                    have HWK : Hid (wrap64 ((k : Int) + 1) = ((k + 1 : Nat) : Int)) := by show wrap64 _ = _; have := unhide HNI; unfold wrap64; omega
                    clear hck0
                    by_cases hkn : k < Ni
                    · rw [if_pos hkn] at hck
                      have hz1 : (k : Int) < (Ni : Int) := by omega
                      have hz2 : ¬ (Ni : Int) ≤ (k : Int) := by omega
                      clear hkn
                      go_wp2_with fail
                      (try rw [unhide HWK])
                      exact ⟨⟨k + 1, rfl, by omega, hS⟩, by simp [intOf]; omega⟩
                    · rw [if_neg hkn] at hck
                      have hz1 : ¬ (k : Int) < (Ni : Int) := by omega
                      have hz2 : (Ni : Int) ≤ (k : Int) := by omega
                      clear hkn
                      go_wp2_with fail
                      (try rw [unhide HWK])
                      exact ⟨⟨k + 1, rfl, by omega, hS⟩, by simp [intOf]; omega⟩
                  · have hzk : ¬ (k : Int) < (mi : Int) := by omega
                    go_wp2_with fail
                    (try rw [unhide HWI])
                    exact ⟨⟨i + 1, rfl, by have := (unhide HNI).2.2; omega, hS⟩, by have := (unhide HNI).2.2; simp [intOf]; omega⟩
              · have hz6 : ¬ (i : Int) < 4 := by omega
                have HG4 : Hid (Game n X g (.slice (some ⟨gv, 0, none⟩) m1 q1) (.slice a2 m2 q2) vs es wr ∧ wr.heap[b1]? = some (oG (.slice (some ⟨gv, 0, none⟩) m1 q1) (.slice a2 m2 q2) rd wr0) ∧ Below w.heap.size w wr) := by
                  obtain ⟨g1, g2, g3⟩ := unhide HG3
                  have hb := (unhide hS).out
                  exact ⟨g1.below hb, (hb.block _ (Array.getElem?_eq_some_iff.1 g2).1).trans g2, g3.trans (hb.mono g3.size)⟩
                have CT := hide (tellsS (unhide HG4).1)
                rw [(unhide HN).2.1, (unhide HN).2.2.1, (unhide HN).2.2.2.1] at CT
                obtain ⟨c0, c1, c2, c3, -⟩ := cellsG (unhide HG4).2.1
                clear HG3 HF hS
                go_wp2_with fail
                refine (unhide CT).mono ?_
                rintro e w9 ⟨rfl, h9⟩
                have HG5 : Hid (Game n X g (.slice (some ⟨gv, 0, none⟩) m1 q1) (.slice a2 m2 q2) vs es w9 ∧ w9.heap[b1]? = some (oG (.slice (some ⟨gv, 0, none⟩) m1 q1) (.slice a2 m2 q2) rd wr0) ∧ Below w.heap.size w w9) := by
                  obtain ⟨g1, g2, g3⟩ := unhide HG4
                  have hb := unhide h9
                  exact ⟨g1.below hb, (hb.block _ (Array.getElem?_eq_some_iff.1 g2).1).trans g2, g3.trans (hb.mono g3.size)⟩
                obtain ⟨cd, m, hm, CD⟩ := ownDrop (unhide HG5).1 (unhide HN).1 (unhide HN).2.2.2.2 (unhide HG5).2.2 v (unhide HOK)
                rw [(unhide HN).2.1, (unhide HN).2.2.1, (unhide HN).2.2.2.1] at CD
                have HM : Hid (m ≤ 1024) := hm
                have HCD := hide CD
                clear CT HG4 c0 c1 c2 c3 h9 hm CD
                go_wp2_with fail
                refine (unhide HCD).mono ?_
                rintro e w10 ⟨da, dk, rfl, h10⟩
                have hb1 : w10.heap[b1]? = some (oG (.slice (some ⟨gv, 0, none⟩) m1 q1) (.slice a2 m2 q2) rd wr0) := ((unhide h10).1 b1 (Array.getElem?_eq_some_iff.1 (unhide HG5).2.1).1 (unhide HLB)).trans (unhide HG5).2.1
                obtain ⟨c0, c1, c2, c3, -⟩ := cellsG hb1
                have CR := hide (unhide h10).2
                clear HCD h10 hb1 HG5
                go_wp2_with fail
                refine (unhide CR).mono ?_
                rintro e w11 ⟨x1, x2, x3, y1, y2, y3, la, lk, rd', wr', rfl, h11⟩
                have HO : Hid (OE w s (.slice x1 x2 x3) (.slice y1 y2 y3) rd' wr' da m w11.heap.size (w11.alloc (oG (.slice x1 x2 x3) (.slice y1 y2 y3) rd' wr')) ∧ (w11.alloc (oG (.slice x1 x2 x3) (.slice y1 y2 y3) rd' wr')).heap[w11.heap.size]? = some (oG (.slice x1 x2 x3) (.slice y1 y2 y3) rd' wr')) := ⟨(unhide h11).below (below_new w11 _), heap_alloc_new _ _⟩
                clear CR h11 c0 c1 c2 c3
                go_upto_region 42 with fail
                change Code.wp _ _ _ _ (w11.alloc (oG (.slice x1 x2 x3) (.slice y1 y2 y3) rd' wr'))
                generalize w11.alloc (oG (.slice x1 x2 x3) (.slice y1 y2 y3) rd' wr') = w12 at *
                generalize w11.heap.size = bx at *
                go_wp2_with fail
                go_loopw [183] (fun si wr => ∃ i : Nat, si = .int .i64 i ∧ i ≤ m ∧ Hid (OE w s (.slice x1 x2 x3) (.slice y1 y2 y3) rd' wr' da m bx wr ∧ wr.heap[bx]? = some (oG (.slice x1 x2 x3) (.slice y1 y2 y3) rd' wr'))) (fun si _ => m - (intOf si).toNat)
                case atStart => exact ⟨0, rfl, Nat.zero_le _, HO⟩
                case round =>
                  obtain ⟨i, rfl, hi, hS⟩ := hrel
                  clear HO
                  by_cases hlt : i < m
                  · have hzi : (i : Int) < (m : Int) := by omega
                    obtain ⟨p, u, hda, hcu, hfr, hO, hbx⟩ := (unhide hS).1.write hlt 77
                    have HNX : Hid (OE w s (.slice x1 x2 x3) (.slice y1 y2 y3) rd' wr' da m bx (wr.setCell ⟨p, i * 4 + 3, none⟩ (.int .u32 77)) ∧ (wr.setCell ⟨p, i * 4 + 3, none⟩ (.int .u32 77)).heap[bx]? = some (oG (.slice x1 x2 x3) (.slice y1 y2 y3) rd' wr')) := ⟨hO, hbx.trans (unhide hS).2⟩
                    have HWI : Hid (wrap64 ((i : Int) + 1) = ((i + 1 : Nat) : Int)) := by show wrap64 _ = _; have := unhide HM; unfold wrap64; omega
                    clear hO hbx hS
                    subst hda
                    go_wp2_with fail
                    (try rw [unhide HWI])
                    exact ⟨⟨i + 1, rfl, by omega, HNX⟩, by simp [intOf]; omega⟩
                  · have hzi : ¬ (i : Int) < (m : Int) := by omega
                    obtain ⟨c0, c1, c2, c3, -⟩ := cellsG (unhide hS).2
                    have CT := hide (unhide hS).1.tells
                    clear hS
                    go_wp2_with fail
                    refine (unhide CT).mono ?_
                    rintro e w13 ⟨rfl, hb13⟩
                    have HB := hide hb13
                    clear CT c0 c1 c2 c3 hb13
                    go_wp2_with fail
                    go_ret
                    exact ⟨rfl, unhide HB⟩
end Go.Proofs.YtanbnipndkmnlaaGreat
