/- StoreKeeps, walked. -/
import Derived.Test.YtanbnipndkmnlaaGreatKeep7
namespace Go.Proofs.YtanbnipndkmnlaaGreat
open Go.RowKit Go.Maps

set_option maxHeartbeats 8000000 in
set_option maxRecDepth 100000 in
theorem keeps_any [Inhabited EntI] (a : Option Addr) (len cap : Nat) (o : Nat → OpV) (w : World) (h : IsOps w a len o) :
    Calls Tryz.prog 4 #[.slice a len cap] w fun e w' => e = .returned (.bool true) ∧ Below w.heap.size w w' := by
  have CB := hide (builtS a len cap o w h)
  have CW : Hid (∀ W, Calls Tryz.prog 9 #[] W fun e w' => e = .returned (.bool true) ∧ Below W.heap.size W w') := fun W => awakeS W
  clear h
  go_enter Tryz.func4, Tryz.ntmps4
  go_wp2_with fail
  refine (unhide CB).mono ?_
  rintro e w1 hh
  obtain ⟨s, a1, m1, q1, a2, m2, q2, rd, wr0, rfl, n, X, g, vs, es, hn, hG, hs, hL, hB, hrd, hwr⟩ := unhide hh
  obtain ⟨hKS, hKG⟩ := ks_of hG hL hB
  rw [hs] at hKS
  have HK := hide hKG
  have HKS := hide ((hKS.up hn).below (below_new w1 (oG (.slice a1 m1 q1) (.slice a2 m2 q2) rd wr0)))
  generalize g.V = V at *
  generalize g.ps = ps at *
  clear hh hG hs hL hB hrd hwr CB hn hKS hKG
  go_upto_region 2 with fail
  change Code.wp _ _ _ _ (w1.alloc (oG (.slice a1 m1 q1) (.slice a2 m2 q2) rd wr0))
  generalize w1.alloc (oG (.slice a1 m1 q1) (.slice a2 m2 q2) rd wr0) = w2 at *
  generalize w1.heap.size = b1 at *
  go_wp2_with fail
  refine (unhide CW _).mono ?_
  rintro e w3 ⟨rfl, hb3⟩
  have CE := hide (kEdges ((unhide HKS).below hb3))
  clear CW hb3 HKS
  go_wp2_with fail
  refine (unhide CE).mono ?_
  rintro e w4 ⟨ea, em, ek, rfl, h4⟩
  have CV := hide (kVerts ((unhide h4).2.less (rows' := []) (fun r hr => by cases hr)) (unhide HK))
  have HEM := hide (unhide h4).1
  clear CE h4
  go_wp2_with fail
  refine (unhide CV).mono ?_
  rintro e w5 ⟨va, vm, vk, rfl, h5⟩
  have HVM := hide (unhide h5).1
  have HS5 := hide (unhide h5).2
  clear CV h5
  go_wp2_with fail
  have HNN : Hid (vm ≤ 256 ∧ ps.length ≤ 1024) := ⟨by rw [unhide HVM]; exact (unhide HK).vlen, (unhide HK).len⟩
  have HDL : Hid (∀ k, (outs ps k).length ≤ 1024 ∧ (inns ps k).length ≤ 1024) := fun k => ⟨Nat.le_trans (length_numsOf _ _) (unhide HNN).2, Nat.le_trans (length_numsOf _ _) (unhide HNN).2⟩
  go_loopw [6, 7, 38] (fun s6 s7 sj wr => ∃ j d1 d2 : Nat, sj = .int .i64 j ∧ s6 = .int .i64 d1 ∧ s7 = .int .i64 d2 ∧ j ≤ vm ∧ Hid (KS w s V ps (120 + 2048 * j) [(.slice va vm vk, vs)] wr ∧ d1 = degs (outs ps) (vs.take j) ∧ d2 = degs (inns ps) (vs.take j) ∧ d1 ≤ 1024 * j ∧ d2 ≤ 1024 * j)) (fun _ _ sj _ => vm - (intOf sj).toNat)
  case atStart => exact ⟨0, 0, 0, rfl, rfl, rfl, Nat.zero_le _, unhide HS5, rfl, rfl, by omega, by omega⟩
  case round =>
    obtain ⟨j, d1, d2, rfl, rfl, rfl, hjv, hSt⟩ := hrel
    by_cases hjlt : j < vm
    · have hz : (j : Int) < (vm : Int) := by omega
      obtain ⟨v, hv⟩ : ∃ v, vs[j]? = some v := ⟨_, List.getElem?_eq_getElem (by have := unhide HVM; omega)⟩
      have hVv : V v = true := ((unhide HK).V v).2 (List.mem_of_getElem? hv)
      have hr0 := (unhide hSt).1.row (v := .slice va vm vk) (ks := vs) (by simp)
      obtain ⟨gv, rfl⟩ := brow_some hr0 (by have := unhide HVM; omega)
      have hcv : wr.cell? ⟨gv, j, none⟩ = some (.int .i64 v) := brow_at hr0 hv
      have CO := hide (kOut (unhide hSt).1 hVv)
      have HV := hide (And.intro hv hVv)
      have HD := hide (unhide hSt).2
      have hwj : wrap64 ((j : Int) + 1) = ((j + 1 : Nat) : Int) := by have := (unhide HNN).1; unfold wrap64; omega
      have HWJ := hide hwj
      clear hr0 hv hVv hSt HS5 hwj
      go_wp2_with fail
      refine (unhide CO).mono ?_
      rintro r w6 ⟨la, lm, lk, rfl, h6⟩
      have HLM := hide (unhide h6).1
      have CI := hide (kIn (unhide h6).2 (unhide HV).2)
      clear CO h6 hcv
      go_wp2_with fail
      refine (unhide CI).mono ?_
      rintro r w7 ⟨ma, mm, mk, rfl, h7⟩
      have HMM := hide (unhide h7).1
      have HS7 := hide (unhide h7).2
      have HLM1 : Hid (lm ≤ 1024 ∧ d1 ≤ 262144 ∧ d2 ≤ 262144) := ⟨by rw [unhide HLM]; exact (unhide HDL v).1, by have := (unhide HD).2.2.1; have := (unhide HNN).1; omega, by have := (unhide HD).2.2.2; have := (unhide HNN).1; omega⟩
      have HMM1 : Hid (mm ≤ 1024) := by rw [unhide HMM]; exact (unhide HDL v).2
      have hw1 : IntKind.i64.wrap ((d1 : Int) + (lm : Int)) = ((d1 + lm : Nat) : Int) := by rw [IntKind.wrap_i64]; have := unhide HLM1; omega
      have hw2 : IntKind.i64.wrap ((d2 : Int) + (mm : Int)) = ((d2 + mm : Nat) : Int) := by rw [IntKind.wrap_i64]; have := unhide HLM1; have := unhide HMM1; omega
      clear CI h7
      go_upto_region 10 with fail
      clear hw1 hw2
      obtain ⟨e1', he1⟩ : ∃ e1', e1' = d1 + lm := ⟨_, rfl⟩
      obtain ⟨e2', he2⟩ : ∃ e2', e2' = d2 + mm := ⟨_, rfl⟩
      have HE12 := hide (And.intro he1 he2)
      (try rw [← he1])
      (try rw [← he2])
      clear he1 he2
      have HS7' : Hid (KS w s V ps (120 + 2048 * j + 0) [(.slice ma mm mk, inns ps v), (.slice la lm lk, outs ps v), (.slice (some ⟨gv, 0, none⟩) vm vk, vs)] w7) := unhide HS7
      go_wp2_with fail
      go_loopw [58] (fun si wr => ∃ i : Nat, si = .int .i64 i ∧ i ≤ lm ∧ Hid (KS w s V ps (120 + 2048 * j + i) [(.slice ma mm mk, inns ps v), (.slice la lm lk, outs ps v), (.slice (some ⟨gv, 0, none⟩) vm vk, vs)] wr)) (fun si _ => lm - (intOf si).toNat)
      case atStart => exact ⟨0, rfl, Nat.zero_le _, HS7'⟩
      case round =>
        obtain ⟨i, rfl, hi, hS⟩ := hrel
        by_cases hlt : i < lm
        · have hz : (i : Int) < (lm : Int) := by omega
          obtain ⟨e, he⟩ : ∃ e, (outs ps v)[i]? = some e := ⟨_, List.getElem?_eq_getElem (by have := unhide HLM; omega)⟩
          obtain ⟨jj, x, hj, hp, hej⟩ := mem_numsOf.1 (List.mem_of_getElem? he)
          obtain ⟨e1, e2, e3⟩ := (unhide HK).edge jj x hj
          have hp' : x.2.1 = v := of_decide_eq_true hp
          obtain ⟨t, u, hxx⟩ : ∃ t u, x = ((jj : Int) + 1, v, t, u) := ⟨_, _, by rw [← e1, ← hp']⟩
          subst hxx
          have hr := (unhide hS).row (v := .slice la lm lk) (ks := outs ps v) (by simp)
          obtain ⟨ga, rfl⟩ := brow_some hr (by have := unhide HLM; omega)
          have hck : wr.cell? ⟨ga, i, none⟩ = some (.int .i64 e) := brow_at hr he
          have C1 := kEdge (unhide hS) hj (by have := unhide HNN; have := unhide HLM1; omega)
          rw [← hej] at C1
          have HC1 := hide C1
          have HKH : Hid (∀ W, KS w s V ps (120 + 2048 * j + i + 1) [(.slice ma mm mk, inns ps v), (.slice (some ⟨ga, 0, none⟩) lm lk, outs ps v), (.slice (some ⟨gv, 0, none⟩) vm vk, vs)] W → Calls Tryz.prog 16 #[.pointer (some ⟨s, 0, none⟩), .int .i64 t] W fun e w' => e = .returned (.bool true) ∧ w' = W) := fun W hW => by
            have hv : V t = true := e3
            have := (unhide HK).ok t hv
            refine (kHas hW t (okN_of this.1 this.2)).mono ?_
            rintro e w' ⟨rfl, rfl⟩
            exact ⟨by rw [hv], rfl⟩
          have HPREV : Hid (∀ k, i = k + 1 → ∀ W, KS w s V ps (120 + 2048 * j + i + 1) [(.slice ma mm mk, inns ps v), (.slice (some ⟨ga, 0, none⟩) lm lk, outs ps v), (.slice (some ⟨gv, 0, none⟩) vm vk, vs)] W → ∃ e', W.cell? ⟨ga, k, none⟩ = some (.int .i64 e') ∧ ¬ e ≤ e') := fun k hk W hW => by
            have hr2 := hW.row (v := .slice (some ⟨ga, 0, none⟩) lm lk) (ks := outs ps v) (by simp)
            have hkl : k < (outs ps v).length := by have := unhide HLM; omega
            refine ⟨_, brow_at hr2 (List.getElem?_eq_getElem hkl), ?_⟩
            have hil : i < (outs ps v).length := by have := unhide HLM; omega
            have hR : Rising ltN (outs ps v) := rising_numsOf _ ps
            have := List.pairwise_iff_getElem.1 hR k i hkl hil (by omega)
            have he' : (outs ps v)[i] = e := by rw [List.getElem?_eq_getElem hil] at he; exact Option.some.inj he
            rw [he'] at this
            simp [ltN] at this
            omega
          have hwi : wrap64 ((i : Int) + 1) = ((i + 1 : Nat) : Int) := by have := unhide HLM1; unfold wrap64; omega
          have HWI := hide hwi
          clear hj hp hp' hr he hej e1 e2 e3 C1 hS hwi
          go_wp2_with fail
          refine (unhide HC1).mono ?_
          rintro r w1 ⟨rfl, h1⟩
          clear HC1 hck
          have hS2 := (unhide h1).below (below_new w1 (oX (e, v, t, u)))
          have HS2 := hide hS2
          obtain ⟨x0, x1, x2, x3, -⟩ := cellsX (heap_alloc_new w1 (oX (e, v, t, u)))
          simp only at x0 x1 x2 x3
          have CH := hide (unhide HKH _ hS2)
          go_upto_region 14 with fail
          change Code.wp _ _ _ _ (w1.alloc (oX (e, v, t, u)))
          generalize w1.alloc (oX (e, v, t, u)) = w2 at *
          generalize w1.heap.size = bx at *
          clear HKH hS2 h1
          rcases Nat.eq_zero_or_pos i with h0 | h0
          · have hi0 : ¬ (0 : Int) < (i : Int) := by omega
            clear h0
            go_wp2_with fail
            refine (unhide CH).mono ?_
            rintro r w3 ⟨rfl, rfl⟩
            clear CH HPREV
            go_wp2_with fail
            (try rw [unhide HWI])
            exact ⟨⟨i + 1, rfl, by omega, HS2⟩, by simp [intOf]; omega⟩
          · obtain ⟨k, hk⟩ : ∃ k, i = k + 1 := ⟨i - 1, by omega⟩
            obtain ⟨e', hc', hle⟩ := unhide HPREV k hk w2 (unhide HS2)
            have hi0 : (0 : Int) < (i : Int) := by omega
            have hkz : IntKind.i64.wrap ((i : Int) - 1) = (k : Int) := by rw [IntKind.wrap_i64]; have := unhide HLM1; omega
            have hkm : (k : Int) < (lm : Int) := by omega
            have HKI := hide hk
            clear hk HPREV h0
            go_wp2_with fail
            refine (unhide CH).mono ?_
            rintro r w3 ⟨rfl, rfl⟩
            clear CH
            go_wp2_with fail
            (try rw [unhide HWI])
            exact ⟨⟨i + 1, rfl, by omega, HS2⟩, by simp [intOf]; omega⟩
        · have hz : ¬ (i : Int) < (lm : Int) := by omega
          have hS1 := hS
          clear hS
          have HS8 : Hid (KS w s V ps (120 + 2048 * j + lm + 0) [(.slice ma mm mk, inns ps v), (.slice la lm lk, outs ps v), (.slice (some ⟨gv, 0, none⟩) vm vk, vs)] wr) := (unhide hS1).up (by omega)
          clear hS1 HS7'
          go_wp2_with fail
          go_loopw [106] (fun si wr => ∃ i : Nat, si = .int .i64 i ∧ i ≤ mm ∧ Hid (KS w s V ps (120 + 2048 * j + lm + i) [(.slice ma mm mk, inns ps v), (.slice la lm lk, outs ps v), (.slice (some ⟨gv, 0, none⟩) vm vk, vs)] wr)) (fun si _ => mm - (intOf si).toNat)
          case atStart => exact ⟨0, rfl, Nat.zero_le _, HS8⟩
          case round =>
            obtain ⟨i, rfl, hi, hS⟩ := hrel
            by_cases hlt : i < mm
            · have hz : (i : Int) < (mm : Int) := by omega
              obtain ⟨e, he⟩ : ∃ e, (inns ps v)[i]? = some e := ⟨_, List.getElem?_eq_getElem (by have := unhide HMM; omega)⟩
              obtain ⟨jj, x, hj, hp, hej⟩ := mem_numsOf.1 (List.mem_of_getElem? he)
              obtain ⟨e1, e2, e3⟩ := (unhide HK).edge jj x hj
              have hp' : x.2.2.1 = v := of_decide_eq_true hp
              obtain ⟨t, u, hxx⟩ : ∃ t u, x = ((jj : Int) + 1, t, v, u) := ⟨_, _, by rw [← e1, ← hp']⟩
              subst hxx
              have hr := (unhide hS).row (v := .slice ma mm mk) (ks := inns ps v) (by simp)
              obtain ⟨ga, rfl⟩ := brow_some hr (by have := unhide HMM; omega)
              have hck : wr.cell? ⟨ga, i, none⟩ = some (.int .i64 e) := brow_at hr he
              have C1 := kEdge (unhide hS) hj (by have := unhide HNN; have := unhide HMM1; have := unhide HLM1; omega)
              rw [← hej] at C1
              have HC1 := hide C1
              have HKH : Hid (∀ W, KS w s V ps (120 + 2048 * j + lm + i + 1) [(.slice (some ⟨ga, 0, none⟩) mm mk, inns ps v), (.slice la lm lk, outs ps v), (.slice (some ⟨gv, 0, none⟩) vm vk, vs)] W → Calls Tryz.prog 16 #[.pointer (some ⟨s, 0, none⟩), .int .i64 t] W fun e w' => e = .returned (.bool true) ∧ w' = W) := fun W hW => by
                have hv : V t = true := e2
                have := (unhide HK).ok t hv
                refine (kHas hW t (okN_of this.1 this.2)).mono ?_
                rintro e w' ⟨rfl, rfl⟩
                exact ⟨by rw [hv], rfl⟩
              have HPREV : Hid (∀ k, i = k + 1 → ∀ W, KS w s V ps (120 + 2048 * j + lm + i + 1) [(.slice (some ⟨ga, 0, none⟩) mm mk, inns ps v), (.slice la lm lk, outs ps v), (.slice (some ⟨gv, 0, none⟩) vm vk, vs)] W → ∃ e', W.cell? ⟨ga, k, none⟩ = some (.int .i64 e') ∧ ¬ e ≤ e') := fun k hk W hW => by
                have hr2 := hW.row (v := .slice (some ⟨ga, 0, none⟩) mm mk) (ks := inns ps v) (by simp)
                have hkl : k < (inns ps v).length := by have := unhide HMM; omega
                refine ⟨_, brow_at hr2 (List.getElem?_eq_getElem hkl), ?_⟩
                have hil : i < (inns ps v).length := by have := unhide HMM; omega
                have hR : Rising ltN (inns ps v) := rising_numsOf _ ps
                have := List.pairwise_iff_getElem.1 hR k i hkl hil (by omega)
                have he' : (inns ps v)[i] = e := by rw [List.getElem?_eq_getElem hil] at he; exact Option.some.inj he
                rw [he'] at this
                simp [ltN] at this
                omega
              have hwi : wrap64 ((i : Int) + 1) = ((i + 1 : Nat) : Int) := by have := unhide HMM1; unfold wrap64; omega
              have HWI := hide hwi
              clear hj hp hp' hr he hej e1 e2 e3 C1 hS hwi
              go_wp2_with fail
              refine (unhide HC1).mono ?_
              rintro r w1 ⟨rfl, h1⟩
              clear HC1 hck
              have hS2 := (unhide h1).below (below_new w1 (oX (e, t, v, u)))
              have HS2 := hide hS2
              obtain ⟨x0, x1, x2, x3, -⟩ := cellsX (heap_alloc_new w1 (oX (e, t, v, u)))
              simp only at x0 x1 x2 x3
              have CH := hide (unhide HKH _ hS2)
              go_upto_region 21 with fail
              change Code.wp _ _ _ _ (w1.alloc (oX (e, t, v, u)))
              generalize w1.alloc (oX (e, t, v, u)) = w2 at *
              generalize w1.heap.size = bx at *
              clear HKH hS2 h1
              rcases Nat.eq_zero_or_pos i with h0 | h0
              · have hi0 : ¬ (0 : Int) < (i : Int) := by omega
                clear h0
                go_wp2_with fail
                refine (unhide CH).mono ?_
                rintro r w3 ⟨rfl, rfl⟩
                clear CH HPREV
                go_wp2_with fail
                (try rw [unhide HWI])
                exact ⟨⟨i + 1, rfl, by omega, HS2⟩, by simp [intOf]; omega⟩
              · obtain ⟨k, hk⟩ : ∃ k, i = k + 1 := ⟨i - 1, by omega⟩
                obtain ⟨e', hc', hle⟩ := unhide HPREV k hk w2 (unhide HS2)
                have hi0 : (0 : Int) < (i : Int) := by omega
                have hkz : IntKind.i64.wrap ((i : Int) - 1) = (k : Int) := by rw [IntKind.wrap_i64]; have := unhide HMM1; omega
                have hkm : (k : Int) < (mm : Int) := by omega
                have HKI := hide hk
                clear hk HPREV h0
                go_wp2_with fail
                refine (unhide CH).mono ?_
                rintro r w3 ⟨rfl, rfl⟩
                clear CH
                go_wp2_with fail
                (try rw [unhide HWI])
                exact ⟨⟨i + 1, rfl, by omega, HS2⟩, by simp [intOf]; omega⟩
            · have hz : ¬ (i : Int) < (mm : Int) := by omega
              have hS1 := hS
              clear hS
              clear HS8
              have HSE : Hid (KS w s V ps (120 + 2048 * (j + 1)) [(.slice (some ⟨gv, 0, none⟩) vm vk, vs)] wr ∧ e1' = degs (outs ps) (vs.take (j + 1)) ∧ e2' = degs (inns ps) (vs.take (j + 1)) ∧ e1' ≤ 1024 * (j + 1) ∧ e2' ≤ 1024 * (j + 1)) := by
                obtain ⟨f1, f2⟩ := unhide HE12
                obtain ⟨g1, g2, g3, g4⟩ := unhide HD
                have h1 := unhide HLM1
                have h2 := unhide HMM1
                refine ⟨((unhide hS1).less (fun r hr => by simp at hr; simp [hr])).up (by omega), ?_, ?_, by omega, by omega⟩
                · rw [take_succ_of (unhide HV).1, degs_snoc, ← g1, ← unhide HLM, f1]
                · rw [take_succ_of (unhide HV).1, degs_snoc, ← g2, ← unhide HMM, f2]
              clear hS1
              go_wp2_with fail
              (try rw [unhide HWJ])
              have hE1 : (d1 : Int) + (lm : Int) = (e1' : Int) := by have := (unhide HE12).1; omega
              have hE2 : (d2 : Int) + (mm : Int) = (e2' : Int) := by have := (unhide HE12).2; omega
              (try rw [hE1])
              (try rw [hE2])
              exact ⟨⟨j + 1, e1', e2', rfl, rfl, rfl, by omega, HSE⟩, by simp [intOf]; omega⟩
    · have hz : ¬ (j : Int) < (vm : Int) := by omega
      have hd : (d1 : Int) = (em : Int) ∧ (d2 : Int) = (em : Int) := by
        obtain ⟨-, g1, g2, -, -⟩ := unhide hSt
        obtain ⟨k1, k2⟩ := (unhide HK).outs_all
        rw [List.take_of_length_le (by have := unhide HVM; omega)] at g1 g2
        have := unhide HEM
        omega
      obtain ⟨hd1, hd2⟩ := hd
      have HB : Hid (Below w.heap.size w wr) := (unhide hSt).1.out
      clear hSt HS5
      rw [hd1, hd2]
      clear hd1 hd2
      go_wp2_with fail
      go_ret
      exact ⟨rfl, unhide HB⟩
end Go.Proofs.YtanbnipndkmnlaaGreat
