/- slices.Replace over runs: all its ways in one. -/
import Derived.Test.YtdalghfhpekcfaaReplWideK
namespace Go.Proofs.Ytdalghfhpekcfaa
open Go.RowKit Go.Shelf

/-- What a call that replaces leaves: a row with these runs, in the old block or in a new one. -/
def LeftK (w : World) (v : Value) (rs : List (Int × Int)) (e : Ending) (w' : World) : Prop :=
  ∃ v', e = .returned v' ∧ w'.ownsRow 0 107 2 v' rs.length (enc .i8 rs) ∧ w.grownBy w' v.ownBlock ∧ (v'.ownBlock = v.ownBlock ∨ ∀ k, v'.ownBlock = some k → w.heap.size ≤ k)

theorem laidK {w : World} {vv : Value} {vs : List (Int × Int)} (hv : w.ownsRow 0 107 2 vv vs.length (enc .i8 vs)) (h0 : 0 < vs.length) :
    ∃ gv cv, vv = .slice (some ⟨gv, 0, none⟩) vs.length cv ∧ LaidK w gv vs.length (enc .i8 vs) := by
  have hc := @World.ownsRow.cells _ _ _ _ _ _ _ hv
  rcases hv.2 with ⟨-, h⟩ | ⟨gv, cv, cur, rfl, -, hg, h1, -, h3, -⟩
  · omega
  · refine ⟨gv, cv, rfl, ⟨⟨cur, hg, by omega⟩, fun j u hj => ?_, enc_length _ _, enc_one _ _⟩⟩
    have := hc rfl j u hj
    rwa [add_g, Nat.zero_add] at this

theorem left_ofK {w w' : World} {v : Value} {g n cap : Nat} {cur : List Value} {row : Option Nat} {rs : List (Int × Int)} (h : Rowed w row g 107 cur w') (hrow : row = v.ownBlock ∨ row = none) (hb : v.ownBlock = some g ∨ w.heap.size ≤ g)
    (h1 : cur.length = cap * 2) (h2 : n ≤ cap) (h3 : cap ≤ maxLen) (hn : n = rs.length) (h4 : cur.take (n * 2) = enc .i8 rs) : LeftK w v rs (.returned (.slice (some ⟨g, 0, none⟩) n cap)) w' := by
  subst hn
  refine ⟨_, rfl, h.owns _ cap _ h1 h2 h3 h4, ?_, ?_⟩
  · rcases hrow with rfl | rfl
    · exact h.grown
    · exact ⟨h.grown.os, h.grown.tape, h.grown.output, h.grown.size, fun k hk _ => h.grown.block k hk (by simp)⟩
  · rcases hb with hb | hb
    · exact .inl hb.symm
    · exact .inr (fun k hk => by simp [Value.ownBlock] at hk; omega)

theorem enc3 (k : IntKind) (rs vs : List (Int × Int)) (i j : Nat) : enc k (rs.take i ++ vs ++ rs.drop j) = (enc k rs).take (i * 2) ++ enc k vs ++ (enc k rs).drop (j * 2) := by
  rw [enc_append, enc_append, enc_take, enc_drop]

theorem insertK {v vv : Value} {rs vs : List (Int × Int)} (i : Nat) (w : World) (hs : w.ownsRow 0 107 2 v rs.length (enc .i8 rs)) (hv : w.ownsRow 0 107 2 vv vs.length (enc .i8 vs)) (hne : ∀ g, v.ownBlock = some g → vv.ownBlock ≠ some g)
    (hi : i ≤ rs.length) (h0 : 0 < vs.length) (hm : vs.length ≤ 2) (hn : rs.length ≤ 1099511627776) :
    Calls Try.prog 101 #[v, .int .i64 i, vv] w (LeftK w v (rs.take i ++ vs ++ rs.drop i)) := by
  obtain ⟨gv, cv, rfl, hL⟩ := laidK hv h0
  rcases Nat.lt_or_ge i rs.length with hlt | hge
  · obtain ⟨g, c, cur, rfl, hnc, hcm, hcl, hct, hgl, hR⟩ := owns_rowed hs (by omega)
    have hne' : gv ≠ g := fun e => hne g rfl (by simp [Value.ownBlock, e])
    have hlen : rs.length + vs.length = (rs.take i ++ vs ++ rs.drop i).length := by simp; omega
    have hsub : ∀ u ∈ (cur.drop (i * 2)).take ((rs.length - i) * 2), u.oneCell' = true := fun u hu => by
      refine enc_one .i8 rs u ?_
      rw [← hct]
      rw [List.take_drop, show i * 2 + (rs.length - i) * 2 = rs.length * 2 by omega] at hu
      exact List.mem_of_mem_drop hu
    by_cases hroom : rs.length + vs.length ≤ c
    · refine (insertRoomK g c i rs.length vs.length cur (enc .i8 vs) w hR hcl gv cv hL hne' h0 hlt hroom (by have := hcm; unfold maxLen at this; exact this) hsub).mono ?_
      rintro e w' ⟨rfl, h⟩
      have hl : (splice (splice cur ((i + vs.length) * 2) ((cur.drop (i * 2)).take ((rs.length - i) * 2))) (i * 2) (enc .i8 vs)).length = cur.length := by
        rw [length_splice _ _ _ (by rw [length_splice _ _ _ (by rw [List.length_take, List.length_drop]; omega), enc_length]; omega), length_splice _ _ _ (by rw [List.length_take, List.length_drop]; omega)]
      refine left_ofK h (.inl rfl) (.inl rfl) (by rw [hl, hcl]) hroom hcm hlen ?_
      rw [enc3]
      have := splice_tail cur (enc .i8 vs) _ _ rs.length vs.length i i hct rfl (enc_length _ _) (Nat.le_refl _) (by omega) (by omega) (by omega)
      rwa [show i + vs.length + (rs.length - i) = rs.length + vs.length by omega] at this
    · refine (insertGrowK g c i rs.length vs.length cur (enc .i8 vs) w hR hcl gv cv hL h0 hlt hnc (by omega) hm hn hsub).mono ?_
      rintro e w' ⟨cap, cur1, rfl, h, h1, h2, h3, h4⟩
      have l1 : (splice cur1 (i * 2) (enc .i8 vs)).length = cur1.length := length_splice _ _ _ (by rw [enc_length]; omega)
      refine left_ofK h (.inr rfl) (.inr (Nat.le_refl _)) (by rw [length_splice _ _ _ (by rw [List.length_take, List.length_drop, l1]; omega), l1, h1]) h3 h4 hlen ?_
      rw [enc3]
      have := splice_head cur cur1 (enc .i8 vs) _ _ rs.length vs.length i i hct rfl h2 (enc_length _ _) (Nat.le_refl _) (by omega) (by omega) (by omega)
      rwa [show i + vs.length + (rs.length - i) = rs.length + vs.length by omega] at this
  · obtain rfl : i = rs.length := by omega
    refine (insertEndK v rs.length vs.length _ _ w hs gv cv hL h0 (by omega)).mono ?_
    rintro e w' ⟨g', cap', rfl, h1, h2, h3⟩
    refine ⟨_, rfl, ?_, h2, ?_⟩
    · rw [List.take_length, List.drop_length, List.append_nil, List.length_append, enc_append]; exact h1
    · rcases h3 with h3 | h3
      · exact .inl h3.symm
      · exact .inr (fun k hk => by simp [Value.ownBlock] at hk; omega)

set_option maxHeartbeats 1000000 in
set_option maxRecDepth 100000 in
theorem replaceInsK {v vv : Value} {n i : Nat} (w : World) {Q : Ending → World → Prop} (hv : (v = .slice none 0 0 ∧ n = 0) ∨ ∃ g c, v = .slice (some ⟨g, 0, none⟩) n c ∧ n ≤ c) (hi : i ≤ n) (HI : Hid (Calls Try.prog 101 #[v, .int .i64 i, vv] w Q)) (HQ : Hid (∀ e w', Q e w' → ∃ v', e = .returned v')) :
    Calls Try.prog 78 #[v, .int .i64 i, .int .i64 i, vv] w Q := by
  have hz : (i : Int) ≤ (n : Int) := by omega
  rcases hv with ⟨rfl, rfl⟩ | ⟨g, c, rfl, hnc⟩
  · obtain rfl : i = 0 := by omega
    go_enter Try.func78, Try.ntmps78
    go_wp2_with fail
    refine (unhide HI).mono ?_
    intro e w' hq
    obtain ⟨v', rfl⟩ := unhide HQ e w' hq
    have H := hide hq
    clear hq
    go_wp2_with fail
    exact H
  · have hic : i ≤ c := by omega
    have hicz : (i : Int) ≤ (c : Int) := by omega
    by_cases hci : c = i
    · subst hci
      go_enter Try.func78, Try.ntmps78
      go_wp2_with fail
      refine (unhide HI).mono ?_
      intro e w' hq
      obtain ⟨v', rfl⟩ := unhide HQ e w' hq
      have H := hide hq
      clear hq
      go_wp2_with fail
      exact H
    · go_enter Try.func78, Try.ntmps78
      go_wp2_with fail
      refine (unhide HI).mono ?_
      intro e w' hq
      obtain ⟨v', rfl⟩ := unhide HQ e w' hq
      have H := hide hq
      clear hq
      go_wp2_with fail
      exact H

theorem replaceK {v vv : Value} {rs vs : List (Int × Int)} (i j : Nat) (w : World) (hs : w.ownsRow 0 107 2 v rs.length (enc .i8 rs)) (hv : w.ownsRow 0 107 2 vv vs.length (enc .i8 vs)) (hne : ∀ g, v.ownBlock = some g → vv.ownBlock ≠ some g)
    (hij : i ≤ j) (hj : j ≤ rs.length) (h0 : i = j → 0 < vs.length) (hnil : vs = [] → vv = .slice none 0 0) (hm : vs.length ≤ 2) (hn : rs.length ≤ 1099511627776) :
    Calls Try.prog 78 #[v, .int .i64 i, .int .i64 j, vv] w (LeftK w v (rs.take i ++ vs ++ rs.drop j)) := by
  rcases Nat.lt_or_ge i j with hlt | hge
  · obtain ⟨g, c, cur, rfl, hnc, hcm, hcl, hct, hgl, hR⟩ := owns_rowed hs (by omega)
    have hB : Hid (c ≤ 9223372036854775807) := by have := hcm; unfold maxLen at this; exact this
    have hlen : i + vs.length + (rs.length - j) = (rs.take i ++ vs ++ rs.drop j).length := by simp; omega
    have hsub : ∀ u ∈ (cur.drop (j * 2)).take ((rs.length - j) * 2), u.oneCell' = true := fun u hu => by
      refine enc_one .i8 rs u ?_
      rw [← hct]
      rw [List.take_drop, show j * 2 + (rs.length - j) * 2 = rs.length * 2 by omega] at hu
      exact List.mem_of_mem_drop hu
    have hX : ((cur.drop (j * 2)).take ((rs.length - j) * 2)).length = (rs.length - j) * 2 := by rw [List.length_take, List.length_drop]; omega
    by_cases hm0 : vs.length = 0
    · obtain rfl : vs = [] := List.eq_nil_of_length_eq_zero hm0
      obtain rfl := hnil rfl
      · rcases Nat.lt_or_ge j rs.length with hjl | hjl
        · obtain ⟨q, hq⟩ : ∃ q, rs.length = j + q := ⟨rs.length - j, by omega⟩
          have hq' : rs.length - j = q := by omega
          rw [hq'] at hsub hX
          rw [hq]
          refine (replFitNilK g c i j q (i + q) cur w hR hcl hlt (by omega) (by omega) rfl hB hsub).mono ?_
          rintro e w' ⟨rfl, cur', h, h1, h2⟩
          have hl : (splice cur (i * 2) ((cur.drop (j * 2)).take (q * 2))).length = cur.length := length_splice _ _ _ (by rw [hX]; omega)
          refine left_ofK h (.inl rfl) (.inl rfl) (by rw [h1, hl, hcl]) (by omega) hcm (by rw [← hlen]; simp; omega) ?_
          rw [enc3, h2]
          have := splice_head cur cur [] _ _ rs.length 0 i j hct rfl rfl rfl hij hj (by omega) (by omega)
          rw [hq'] at this
          simpa [splice, enc] using this
        · obtain rfl : j = rs.length := by omega
          refine (replCutNilK g c i rs.length cur w hR ?_ hcl hlt hnc hB).mono ?_
          · exact hR.owns i c _ hcl (by omega) hcm rfl
          · rintro e w' ⟨rfl, cur', h, h1, h2⟩
            refine left_ofK h (.inl rfl) (.inl rfl) (by rw [h1, hcl]) (by omega) hcm (by rw [← hlen]; simp) ?_
            rw [h2]
            rw [List.drop_length, List.append_nil, List.append_nil, ← enc_take, ← hct, List.take_take, show min (i * 2) (rs.length * 2) = i * 2 by omega]
    · obtain ⟨gv, cv, rfl, hL⟩ := laidK hv (by omega)
      have hne' : gv ≠ g := fun e => hne g rfl (by simp [Value.ownBlock, e])
      rcases Nat.lt_or_ge j rs.length with hjl | hjl
      · obtain ⟨q, hq⟩ : ∃ q, rs.length = j + q := ⟨rs.length - j, by omega⟩
        have hq' : rs.length - j = q := by omega
        rw [hq'] at hsub hX hlen
        rw [hq]
        by_cases hroom : i + vs.length + q ≤ c
        · by_cases hfit : i + vs.length ≤ j
          · refine (replFitK g c i j q vs.length (i + vs.length + q) cur (enc .i8 vs) w hR hcl gv cv hL hne' (by omega) hlt (by omega) (by omega) rfl hfit hB hsub).mono ?_
            rintro e w' ⟨rfl, cur', h, h1, h2⟩
            have l1 : (splice cur (i * 2) (enc .i8 vs)).length = cur.length := length_splice _ _ _ (by rw [enc_length]; omega)
            have hl : (splice (splice cur (i * 2) (enc .i8 vs)) ((i + vs.length) * 2) ((cur.drop (j * 2)).take (q * 2))).length = cur.length := by rw [length_splice _ _ _ (by rw [hX, l1]; omega), l1]
            refine left_ofK h (.inl rfl) (.inl rfl) (by rw [h1, hl, hcl]) hroom hcm hlen ?_
            rw [enc3, h2]
            have := splice_head cur cur (enc .i8 vs) _ _ rs.length vs.length i j hct rfl rfl (enc_length _ _) hij hj (by omega) (by omega)
            rwa [hq'] at this
          · refine (replWideK g c i j q vs.length (i + vs.length + q) cur (enc .i8 vs) w hR hcl gv cv hL hne' (by omega) hlt (by omega) (by omega) rfl (by omega) hroom hB hsub).mono ?_
            rintro e w' ⟨rfl, h⟩
            have l1 : (splice cur ((i + vs.length) * 2) ((cur.drop (j * 2)).take (q * 2))).length = cur.length := length_splice _ _ _ (by rw [hX]; omega)
            refine left_ofK h (.inl rfl) (.inl rfl) (by rw [length_splice _ _ _ (by rw [enc_length, l1]; omega), l1, hcl]) hroom hcm hlen ?_
            rw [enc3]
            have := splice_tail cur (enc .i8 vs) _ _ rs.length vs.length i j hct rfl (enc_length _ _) hij hj (by omega) (by omega)
            rwa [hq'] at this
        · refine (replGrowK g c i j q vs.length (i + vs.length + q) cur (enc .i8 vs) w hR hcl gv cv hL (by omega) hlt (by omega) (by omega) rfl (by omega) (by omega) hsub).mono ?_
          rintro e w' ⟨G, cap, cur1, rfl, h, h0', h1, h2, h3, h4⟩
          have l1 : (splice cur1 (i * 2) (enc .i8 vs)).length = cur1.length := length_splice _ _ _ (by rw [enc_length]; omega)
          refine left_ofK h (.inr rfl) (.inr h0') (by rw [length_splice _ _ _ (by rw [hX, l1]; omega), l1, h1]) h3 h4 hlen ?_
          rw [enc3]
          have := splice_head cur cur1 (enc .i8 vs) _ _ rs.length vs.length i j hct rfl h2 (enc_length _ _) hij hj (by omega) (by omega)
          rwa [hq'] at this
      · obtain rfl : j = rs.length := by omega
        by_cases hfit : rs.length ≤ i + vs.length
        · have hown : w.ownsRow 0 107 2 (.slice (some ⟨g, 0, none⟩) i c) i (enc .i8 (rs.take i)) := hR.owns i c _ hcl (by omega) hcm (by rw [← enc_take, ← hct, List.take_take, show min (i * 2) (rs.length * 2) = i * 2 by omega])
          refine (replEndK g c i rs.length vs.length _ _ w hown gv cv hL (by omega) (by omega) hlt hnc hfit).mono ?_
          rintro e w' ⟨g', cap', rfl, h1, h2, h3⟩
          refine ⟨_, rfl, ?_, h2, ?_⟩
          · rw [List.drop_length, List.append_nil, enc_append, List.length_append, List.length_take, show min i rs.length = i by omega]; exact h1
          · rcases h3 with h3 | h3
            · exact .inl (by simp [Value.ownBlock, h3])
            · exact .inr (fun k hk => by simp [Value.ownBlock] at hk; omega)
        · refine (replCutK g c i rs.length vs.length cur (enc .i8 vs) w hR hcl gv cv hL hlt hnc (by omega) hB).mono ?_
          rintro e w' ⟨rfl, cur', h, h1, h2⟩
          have l1 : (splice cur (i * 2) (enc .i8 vs)).length = cur.length := length_splice _ _ _ (by rw [enc_length]; omega)
          refine left_ofK h (.inl rfl) (.inl rfl) (by rw [h1, l1, hcl]) (by omega) hcm (by rw [← hlen]; simp) ?_
          rw [enc3, h2]
          have := splice_head cur cur (enc .i8 vs) _ _ rs.length vs.length i rs.length hct rfl rfl (enc_length _ _) hij (Nat.le_refl _) (by omega) (by omega)
          simpa [splice] using this
  · obtain rfl : i = j := by omega
    refine replaceInsK w (n := rs.length) ?_ hj (hide (insertK i w hs hv hne hj (h0 rfl) hm hn)) (hide fun e w' h => h.imp fun v' hv => hv.1)
    rcases hs.2 with ⟨h1, h2⟩ | ⟨g, c, cur, h1, -, -, h2, -⟩
    · exact .inl ⟨h1, h2⟩
    · exact .inr ⟨g, c, h1, h2⟩

end Go.Proofs.Ytdalghfhpekcfaa
