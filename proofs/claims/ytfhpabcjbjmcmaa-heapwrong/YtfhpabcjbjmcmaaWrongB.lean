/- sink and remove over an order that answers anything. -/
import Derived.Test.YtfhpabcjbjmcmaaWrongA
namespace Go.Proofs.Ytfhpabcjbjmcmaa
open Go.RowKit Go.Maps

set_option maxHeartbeats 2000000 in
set_option maxRecDepth 100000 in
theorem sinkW [Inhabited EntI] {p m : Nat} {lv v : Value} {Inv : Nat → World → Prop} {A D : Nat → Prop} {c : Nat} {es : List EntI} {n : Nat} (i : Nat) (w : World) (h : WH lv Inv D c w p m v es n) (he : Env lv Inv A D) (hi : i < es.length) (hn : es.length ≤ 1000000) (hc : c ≤ 1000000000) :
    Calls Try.prog 53 #[.pointer (some ⟨p, 0, none⟩), .int .i64 i] w fun e w' => e = .returned (.tuple #[]) ∧ Hid (∃ es' c', es'.Perm es ∧ c' ≤ c + 2 * es.length + 2 ∧ WH lv Inv D c' w' p m v es' n ∧ Turned (FootA p m v A) w w') := by
  obtain ⟨b, cc, rfl, -, -, -, -, -, -⟩ := h.at_.some_ (by omega)
  have HE := hide he
  have H0 := hide h
  have HC := hide hc
  obtain ⟨L, hLe⟩ : ∃ L, L = es.length := ⟨_, rfl⟩
  have HLE := hide hLe
  rw [← hLe] at hi hn H0 ⊢
  have HN := hide hn
  clear he h hLe hc
  go_enter Try.func53, Try.ntmps53
  go_wp2_with fail
  go_loopw [1] (fun s1 wr => ∃ (k : Nat) (es' : List EntI) (c' : Nat), s1 = .int .i64 k ∧ k < L ∧ Hid (es'.Perm es ∧ c' ≤ c + 2 * k ∧ WH lv Inv D c' wr p m (.slice (some ⟨b, 0, none⟩) L cc) es' n ∧ Turned (FootA p m (.slice (some ⟨b, 0, none⟩) L cc) A) w wr)) (fun s1 _ => L - (intOf s1).toNat)
  case atStart => exact ⟨i, es, c, rfl, hi, List.Perm.refl _, by omega, unhide H0, Turned.refl _ _⟩
  case round =>
    obtain ⟨k, es', c', rfl, hk, hS⟩ := hrel
    have hLl : Hid (es'.length = L) := (unhide hS).1.length_eq.trans (unhide HLE).symm
    have c1 := (unhide hS).2.2.1.at_.cells.2.1
    by_cases h1 : 2 * k + 1 < L
    · have h1z : 2 * (k : Int) + 1 < (L : Int) := by omega
      by_cases h2 : 2 * k + 2 < L
      · have h2z : 2 * (k : Int) + 1 + 1 < (L : Int) := by omega
        have h2y : 2 * (k : Int) + 2 < (L : Int) := by omega
        have CA := hide (aheadW (2 * k + 2) (2 * k + 1) wr (unhide hS).2.2.1 (unhide HE) (by rw [unhide hLl]; exact h2) (by rw [unhide hLl]; exact h1) (by have := (unhide hS).2.1; have := unhide HC; have := unhide HN; omega))
        rw [show ((2 * k + 2 : Nat) : Int) = 2 * (k : Int) + 1 + 1 by omega, show ((2 * k + 1 : Nat) : Int) = 2 * (k : Int) + 1 by omega] at CA
        go_wp2_with fail
        refine (unhide CA).mono ?_
        rintro e w1 ⟨r, rfl, hT⟩
        clear CA
        cases r with
        | true =>
          have CB := hide (aheadW (2 * k + 2) k w1 (unhide hT).1 (unhide HE) (by rw [unhide hLl]; omega) (by rw [unhide hLl]; exact hk) (by have := (unhide hS).2.1; have := unhide HC; have := unhide HN; omega))
          rw [show ((2 * k + 2 : Nat) : Int) = 2 * (k : Int) + 1 + 1 by omega] at CB
          go_wp2_with fail
          refine (unhide CB).mono ?_
          rintro e w3 ⟨r2, rfl, hT2⟩
          clear CB
          cases r2 with
          | false =>
            go_wp2_with fail
            refine bodyPost_ret (results_none rfl _ _ _) rfl ?_
            obtain ⟨g1, g2, g3, g4⟩ := unhide hS
            exact ⟨rfl, es', (c' + 1) + 1, g1, by have := unhide HLE; omega, (unhide hT2).1, (g4.trans (turnedA (unhide hT).2)).trans (turnedA (unhide hT2).2)⟩
          | true =>
            have CS := hide (swapI k (2 * k + 2) w3 (unhide hT2).1.at_ (by rw [unhide hLl]; exact hk) (by rw [unhide hLl]; omega) (by rw [unhide hLl]; have := unhide HN; omega))
            rw [show ((2 * k + 2 : Nat) : Int) = 2 * (k : Int) + 1 + 1 by omega] at CS
            go_wp2_with fail
            refine (unhide CS).mono ?_
            rintro e w4 ⟨rfl, hs2⟩
            clear CS
            go_wp2_with fail
            go_roundw
            case rel =>
              obtain ⟨g1, g2, g3, g4⟩ := unhide hS
              obtain ⟨f1, f2⟩ := unhide hs2
              have hkl : k < es'.length := by rw [unhide hLl]; exact hk
              have hcl : 2 * k + 2 < es'.length := by rw [unhide hLl]; omega
              exact ⟨2 * k + 2, swapL es' k (2 * k + 2), (c' + 1) + 1, by go_num, by omega, (swap_perm es' k (2 * k + 2) hkl hcl).trans g1, by omega, (unhide hT2).1.moved (unhide HE) f1 f2 (fun _ hk => .inl hk), ((g4.trans (turnedA (unhide hT).2)).trans (turnedA (unhide hT2).2)).trans (turnedF f2)⟩
            case measure => simp [intOf]; omega
        | false =>
          have CB := hide (aheadW (2 * k + 1) k w1 (unhide hT).1 (unhide HE) (by rw [unhide hLl]; omega) (by rw [unhide hLl]; exact hk) (by have := (unhide hS).2.1; have := unhide HC; have := unhide HN; omega))
          rw [show ((2 * k + 1 : Nat) : Int) = 2 * (k : Int) + 1 by omega] at CB
          go_wp2_with fail
          refine (unhide CB).mono ?_
          rintro e w3 ⟨r2, rfl, hT2⟩
          clear CB
          cases r2 with
          | false =>
            go_wp2_with fail
            refine bodyPost_ret (results_none rfl _ _ _) rfl ?_
            obtain ⟨g1, g2, g3, g4⟩ := unhide hS
            exact ⟨rfl, es', (c' + 1) + 1, g1, by have := unhide HLE; omega, (unhide hT2).1, (g4.trans (turnedA (unhide hT).2)).trans (turnedA (unhide hT2).2)⟩
          | true =>
            have CS := hide (swapI k (2 * k + 1) w3 (unhide hT2).1.at_ (by rw [unhide hLl]; exact hk) (by rw [unhide hLl]; omega) (by rw [unhide hLl]; have := unhide HN; omega))
            rw [show ((2 * k + 1 : Nat) : Int) = 2 * (k : Int) + 1 by omega] at CS
            go_wp2_with fail
            refine (unhide CS).mono ?_
            rintro e w4 ⟨rfl, hs2⟩
            clear CS
            go_wp2_with fail
            go_roundw
            case rel =>
              obtain ⟨g1, g2, g3, g4⟩ := unhide hS
              obtain ⟨f1, f2⟩ := unhide hs2
              have hkl : k < es'.length := by rw [unhide hLl]; exact hk
              have hcl : 2 * k + 1 < es'.length := by rw [unhide hLl]; omega
              exact ⟨2 * k + 1, swapL es' k (2 * k + 1), (c' + 1) + 1, by go_num, by omega, (swap_perm es' k (2 * k + 1) hkl hcl).trans g1, by omega, (unhide hT2).1.moved (unhide HE) f1 f2 (fun _ hk => .inl hk), ((g4.trans (turnedA (unhide hT).2)).trans (turnedA (unhide hT2).2)).trans (turnedF f2)⟩
            case measure => simp [intOf]; omega
      · have h2z : ¬ 2 * (k : Int) + 1 + 1 < (L : Int) := by omega
        have h2y : ¬ 2 * (k : Int) + 2 < (L : Int) := by omega
        have hT : Hid (WH lv Inv D c' wr p m (.slice (some ⟨b, 0, none⟩) L cc) es' n ∧ Turned A wr wr) := ⟨(unhide hS).2.2.1, Turned.refl _ _⟩
        have CB := hide (aheadW (2 * k + 1) k wr (unhide hT).1 (unhide HE) (by rw [unhide hLl]; omega) (by rw [unhide hLl]; exact hk) (by have := (unhide hS).2.1; have := unhide HC; have := unhide HN; omega))
        rw [show ((2 * k + 1 : Nat) : Int) = 2 * (k : Int) + 1 by omega] at CB
        go_wp2_with fail
        refine (unhide CB).mono ?_
        rintro e w3 ⟨r2, rfl, hT2⟩
        clear CB
        cases r2 with
        | false =>
          go_wp2_with fail
          refine bodyPost_ret (results_none rfl _ _ _) rfl ?_
          obtain ⟨g1, g2, g3, g4⟩ := unhide hS
          exact ⟨rfl, es', c' + 1, g1, by have := unhide HLE; omega, (unhide hT2).1, (g4.trans (turnedA (unhide hT).2)).trans (turnedA (unhide hT2).2)⟩
        | true =>
          have CS := hide (swapI k (2 * k + 1) w3 (unhide hT2).1.at_ (by rw [unhide hLl]; exact hk) (by rw [unhide hLl]; omega) (by rw [unhide hLl]; have := unhide HN; omega))
          rw [show ((2 * k + 1 : Nat) : Int) = 2 * (k : Int) + 1 by omega] at CS
          go_wp2_with fail
          refine (unhide CS).mono ?_
          rintro e w4 ⟨rfl, hs2⟩
          clear CS
          go_wp2_with fail
          go_roundw
          case rel =>
            obtain ⟨g1, g2, g3, g4⟩ := unhide hS
            obtain ⟨f1, f2⟩ := unhide hs2
            have hkl : k < es'.length := by rw [unhide hLl]; exact hk
            have hcl : 2 * k + 1 < es'.length := by rw [unhide hLl]; omega
            exact ⟨2 * k + 1, swapL es' k (2 * k + 1), c' + 1, by go_num, by omega, (swap_perm es' k (2 * k + 1) hkl hcl).trans g1, by omega, (unhide hT2).1.moved (unhide HE) f1 f2 (fun _ hk => .inl hk), ((g4.trans (turnedA (unhide hT).2)).trans (turnedA (unhide hT2).2)).trans (turnedF f2)⟩
          case measure => simp [intOf]; omega
    · have h1z : ¬ 2 * (k : Int) + 1 < (L : Int) := by omega
      go_wp2_with fail
      go_end0
      obtain ⟨g1, g2, g3, g4⟩ := unhide hS
      exact ⟨rfl, es', g1, c', by have := unhide HLE; omega, g3, g4⟩

theorem foot_cut {p m b n1 n2 c k : Nat} (h : Foot p m (.slice (some ⟨b, 0, none⟩) n1 c) k) : Foot p m (.slice (some ⟨b, 0, none⟩) n2 c) k := by
  rcases h with h | h | h
  · exact .inl h
  · exact .inr (.inl h)
  · exact .inr (.inr h)

set_option maxHeartbeats 2000000 in
set_option maxRecDepth 100000 in
theorem removeW [Inhabited EntI] {p m : Nat} {lv v : Value} {Inv : Nat → World → Prop} {A DD : Nat → Prop} {c0 : Nat} {es : List EntI} {n : Nat} (i : Nat) (w : World) (hW : WH lv Inv DD c0 w p m v es n) (he : Env lv Inv A DD) (hi : i < es.length) (hn : es.length ≤ 1000000) (hc : c0 ≤ 900000000) :
    Calls Try.prog 42 #[.pointer (some ⟨p, 0, none⟩), .int .i64 i] w fun e w' => e = .returned (.tuple #[]) ∧ Hid (∃ v' es' c', es'.Perm (without (at_ es i).key es) ∧ c' ≤ c0 + 3 * es.length + 2 ∧ WH lv Inv DD c' w' p m v' es' n ∧ Turned (FootA p m v A) w w' ∧ v'.ownBlock = v.ownBlock) := by
  have h := hW.at_
  have HW := hide hW
  clear hW
  obtain ⟨b, c, rfl, hbp, hbm, hLc, hcm, -, -⟩ := h.some_ (by omega)
  obtain ⟨last, hlast⟩ : ∃ last, es.length = last + 1 := ⟨es.length - 1, by omega⟩
  have HL := hide he
  have HC0 := hide hc
  clear hc
  have c1 := h.cells.2.1
  have hmp := h.ne3
  have HTW : Hid (((swapL es i last).take last).Perm (without (at_ es i).key es)) := by
    have := take_without (h.map.elim fun D hD => hD.2.once) hi
    rw [show es.length - 1 = last by omega] at this
    exact this
  have CS := hide (swapI i last w h hi (by omega) (by omega))
  have H0 := hide h
  have HLA := hide hlast
  rw [hlast] at c1 hi hn hLc CS H0 HW ⊢
  clear he h
  have hilt : i ≤ last := by omega
  have hlasz : last < 1099511627776 := by omega
  have HNL : Hid (last + 1 ≤ 1000000) := hn
  unfold maxLen at hcm
  clear hlast
  have hidx : (last : Int) < (last : Int) + 1 := by omega
  go_enter Try.func42, Try.ntmps42
  go_wp2_with fail
  refine (unhide CS).mono ?_
  rintro e w1 ⟨rfl, hs⟩
  clear CS c1
  have hL1 : (swapL es i last).length = last + 1 := by rw [swapL_length]; exact unhide HLA
  obtain ⟨D, hD, hM⟩ := (unhide hs).1.map
  have hA1 : HAtI w1 p m lv (.slice (some ⟨b, 0, none⟩) (swapL es i last).length c) (swapL es i last) n := by rw [hL1]; exact (unhide hs).1
  obtain ⟨-, d1, d2, -, dfz⟩ := (unhide hs).1.cells
  obtain ⟨b', c', hv', -, -, -, -, hfr, hcl⟩ := (unhide hs).1.some_ (by omega)
  obtain ⟨rfl, rfl⟩ : b' = b ∧ c' = c := by
    simp only [Value.slice.injEq, Option.some.injEq, Addr.mk.injEq, and_true] at hv'
    exact ⟨hv'.1.symm, hv'.2.2.symm⟩
  have dk := (hcl last (by omega)).1
  have dr := (hcl last (by omega)).2.1
  have dt := (hcl last (by omega)).2.2
  have hkey := (unhide hs).1.keys last (by omega)
  have HD := hide hD
  have HM := hide hM
  have HA1 := hide hA1
  obtain ⟨kk, hkk⟩ : ∃ kk, (at_ (swapL es i last) last).key = kk := ⟨_, rfl⟩
  obtain ⟨rr, hrr⟩ : ∃ rr, (at_ (swapL es i last) last).rank = rr := ⟨_, rfl⟩
  obtain ⟨tt, htt⟩ : ∃ tt : Int, ((at_ (swapL es i last) last).turn : Int) = tt := ⟨_, rfl⟩
  rw [hkk] at dk hkey
  rw [hrr] at dr
  rw [htt] at dt
  have HKK := hide hkk
  clear hcl hv' hD hM hA1 hkk hrr htt
  go_wp2_with fail
  refine region_still_tail 12 mixed (by kernel_rfl) ?_
  simp only [List.take_succ_cons, List.take_zero, List.drop_succ_cons, List.drop_zero]
  repeat still_step
  refine wpStill_nil ?_
  refine wpList_delete_own w1.drew rfl _ _ 55 3 rfl 3 lawI Try.underlying55 _ m (swapL es i last).length D rfl (World.ownsMap.drew (unhide HD)) _ _ rfl (keyI hkey) ?_
  intro w2 hown2 hturn2
  have hg2 : w1.grownBy w2 (some m) := grown_drew hturn2.grown
  have other : ∀ (x : Addr), x.block ≠ m → w2.cell? x = w1.cell? x := fun x hx => by
    obtain ⟨es1, cl, es1', cl', hb1, rfl⟩ := hturn2
    exact cell_of_heap ((ChangeMaps.heap_setBlock_other hb1 _ hx).trans rfl)
  have otherF : ∀ (x : Addr), w2.frozen? x = w1.frozen? x := fun x => hturn2.frozen x
  have e1 := (other ⟨p, 1, none⟩ (Ne.symm hmp)).trans d1
  have ek := (other ⟨b', last * 3, none⟩ hbm).trans dk
  have er := (other ⟨b', last * 3 + 1, none⟩ hbm).trans dr
  have et := (other ⟨b', last * 3 + 2, none⟩ hbm).trans dt
  have ef : ∀ o, w2.frozen? ⟨b', o, none⟩ = false := fun o => (otherF _).trans (hfr o)
  have ep : ∀ o, w2.frozen? ⟨p, o, none⟩ = false := fun o => (otherF _).trans (dfz o)
  have HC := hide (cutAtI (unhide HA1) hL1 (unhide HM) (by rw [unhide HKK]; exact hown2) hg2)
  clear hown2 hturn2 hg2 other otherF d1 d2 dfz dk dr dt hfr hkey HD HM
  have hpb' : p ≠ b' := Ne.symm hbp
  have hL2 : ((swapL es i last).take last).length = last := by rw [List.length_take, hL1]; omega
  have hT1 : Hid (Turned (Foot p m (.slice (some ⟨b', 0, none⟩) (last + 1) c')) w w1) := (unhide hs).2
  have HL1 := hide hL1
  have HL2 := hide hL2
  clear hs HA1 hL1 hL2
  have t2 := (unhide HC).2
  rw [unhide HL1] at t2
  have t3 := (unhide hT1).trans t2
  have HW4 := hide (And.intro ((unhide HW).moved (unhide HL) (unhide HC).1 t3 (fun k hk => .inl (foot_cut hk))) (turnedF (A := A) t3))
  clear t2 t3
  by_cases hlt : i < last
  · have hltz : (i : Int) < (last : Int) := by omega
    have HR := hide (riseW i _ (unhide HW4).1 (unhide HL) (by rw [unhide HL2]; exact hlt) (by rw [unhide HL2]; have := unhide HNL; omega) (by have := unhide HC0; omega))
    go_wp2_with fail
    refine (unhide HR).mono ?_
    rintro e w5 ⟨rfl, hr5⟩
    obtain ⟨es5, c5, g1, g2, g3, g4⟩ := unhide hr5
    have hl5 : es5.length = last := g1.length_eq.trans (unhide HL2)
    rw [unhide HL2] at g2
    have HS5 := hide (sinkW i w5 g3 (unhide HL) (by omega) (by have := unhide HNL; omega) (by have := unhide HC0; have := unhide HNL; omega))
    rw [hl5] at HS5
    have G : Hid (es5.Perm ((swapL es i last).take last) ∧ c5 ≤ c0 + last ∧ Turned (FootA p m (.slice (some ⟨b', 0, none⟩) last c') A) _ w5) := ⟨g1, g2, g4⟩
    clear HR hr5 g1 g2 g3 g4 hl5
    go_wp2_with fail
    refine (unhide HS5).mono ?_
    rintro e w6 ⟨rfl, hr6⟩
    clear HS5
    go_wp2_with fail
    go_end0
    obtain ⟨es6, c6, f1, f2, f3, f4⟩ := unhide hr6
    obtain ⟨g1, g2, g4⟩ := unhide G
    have fa : ∀ k, k < w.heap.size + k + 1 → FootA p m (.slice (some ⟨b', 0, none⟩) last c') A k → FootA p m (.slice (some ⟨b', 0, none⟩) (last + 1) c') A k := fun k _ h => h.imp foot_cut id
    refine ⟨rfl, _, es6, c6, (f1.trans g1).trans (unhide HTW), by omega, f3, (((unhide HW4).2.trans (g4.mono fun k _ => fa k (by omega))).trans (f4.mono fun k _ => fa k (by omega))), rfl⟩
  · have hltz : ¬ (i : Int) < (last : Int) := by omega
    go_wp2_with fail
    go_end0
    exact ⟨rfl, _, _, unhide HTW, c0, by omega, (unhide HW4).1, (unhide HW4).2, rfl⟩
end Go.Proofs.Ytfhpabcjbjmcmaa
