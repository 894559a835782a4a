/- Set.Cut. -/
import Derived.Test.YtdalghfhpekcfaaAddI
namespace Go.Proofs.Ytdalghfhpekcfaa
open Go.RowKit Go.Shelf

/-- One run more behind those that are held. -/
theorem appendLitI {vv : Value} {vs : List (Int × Int)} (W : World) (y z : Int) (B : Nat) (w0 : World) (hown : W.ownsRow 0 93 2 vv vs.length (enc .i64 vs)) (hlen : vs.length ≤ 1) (hb : Below B w0 W) (hB : B ≤ W.heap.size) (hvb : ∀ k, vv.ownBlock = some k → B ≤ k) :
    ∃ g' cap' w', (Builtin.append_ #[89, 89] 89 #[vv, .slice (some ⟨W.heap.size, 0, none⟩) 1 1]).run Try.prog (W.alloc (.cells #[.int .i64 y, .int .i64 z] 93)) = .ok (.slice (some ⟨g', 0, none⟩) (vs.length + 1) cap') w' ∧
      w'.ownsRow 0 93 2 (.slice (some ⟨g', 0, none⟩) (vs.length + 1) cap') (vs ++ [(y, z)]).length (enc .i64 (vs ++ [(y, z)])) ∧ Below B w0 w' ∧ B ≤ g' ∧ B ≤ w'.heap.size := by
  obtain ⟨i0, hi0, hz0, hzs, hzb⟩ := info_parts infoI
  obtain ⟨g', cap', w', hr, h1, h2, h3⟩ := run_append2 (P := Try.prog) (w := W.alloc (.cells #[.int .i64 y, .int .i64 z] 93)) 89 89 93 i0 _ Try.underlying89 hi0 hz0 hzs rfl (by rw [hzb]; omega) vv vs.length _ (hown.alloc _) ⟨W.heap.size, 0, none⟩ 1 1 (enc .i64 [(y, z)]) rfl
    (fun j u hj => by
      have := (litRowI W y z).cells (g := W.heap.size) rfl j u hj
      exact this) (enc_one _ _) (by omega) (by omega)
  refine ⟨g', cap', w', hr, ?_, ?_, ?_, ?_⟩
  · rw [enc_append, List.length_append]; exact h1
  · exact (hb.alloc hB _).grown h2 (by simp; omega) hvb
  · rcases h3.out with h | h
    · exact hvb g' h
    · simp at h; omega
  · have := h2.size; simp at this; omega

set_option maxHeartbeats 1000000 in
set_option maxRecDepth 100000 in
theorem cutI {p : Nat} {v : Value} {rs : List (Int × Int)} (a b : Int) (w : World) (hS : SetI w p v rs) (hC : Canon rs) (hF : Fits (-9223372036854775808) 9223372036854775807 rs) (hn : rs.length ≤ 1099511627775) (HA : Hid (((-9223372036854775808) ≤ a ∧ a ≤ 9223372036854775807) ∧ (-9223372036854775808) ≤ b ∧ b ≤ 9223372036854775807)) :
    Calls Try.prog 30 #[.pointer (some ⟨p, 0, none⟩), .int .i64 a, .int .i64 b] w fun e w' => ∃ rs', Says e (rs' ≠ rs) ∧ Canon rs' ∧ Hid (∀ x, In rs' x ↔ In rs x ∧ ¬ (a ≤ x ∧ x ≤ b)) ∧ rs'.length ≤ rs.length + 1 ∧ ChangedI w p v rs' w' := by
  have HC := hide hC
  have HF := hide hF
  have HN := hide hn
  have HS := hide hS
  have HH := hide (meetsI a b w hS hC (by omega))
  clear hS hC hF hn
  go_enter Try.func30, Try.ntmps30
  go_wp2_with fail
  refine (unhide HH).mono ?_
  rintro e w1 ⟨⟨r, rfl, hr⟩, hb1⟩
  have HR := hide hr
  have HB1 := hide hb1
  clear hr HH
  cases r with
  | false =>
    have HT : Hid (¬ (a ≤ b ∧ ∃ i, i < rs.length ∧ lo rs i ≤ b ∧ a ≤ hi rs i)) := fun h => absurd ((unhide HR).2 h) (by simp)
    clear hb1 HR
    go_wp2_with fail
    go_ret
    refine ⟨rs, ⟨false, rfl, by simp⟩, unhide HC, ?_, by omega, changed_belowI (unhide HS) (unhide HB1)⟩
    intro x
    constructor
    · rintro ⟨i, h1, h2, h3⟩
      exact ⟨⟨i, h1, h2, h3⟩, fun h => unhide HT ⟨by omega, i, h1, by omega, by omega⟩⟩
    · exact fun h => h.1
  | true =>
    have HT : Hid (a ≤ b ∧ ∃ i, i < rs.length ∧ lo rs i ≤ b ∧ a ≤ hi rs i) := (unhide HR).1 rfl
    clear HR
    have hS1 := (unhide HS).below hb1
    have HN1 := hide (notBelowI a w1 hS1 (unhide HC) (by have := unhide HN; omega))
    clear hb1 hS1
    go_wp2_with fail
    refine (unhide HN1).mono ?_
    rintro e w2 ⟨f, rfl, k1, k2, k3, hb2⟩
    have hB2 : Below w.heap.size w w2 := (unhide HB1).trans (hb2.mono (unhide HB1).size)
    have hS2 := (unhide HS).below hB2
    have HB2 := hide hB2
    have HN2 := hide (aboveI b w2 hS2 (unhide HC) (by have := unhide HN; omega))
    have K1 := hide (And.intro k1 (And.intro k2 k3))
    clear hb2 hB2 hS2 k1 k2 k3 HN1
    go_wp2_with fail
    refine (unhide HN2).mono ?_
    rintro e w3 ⟨e, rfl, k1, k2, k3, hb3⟩
    have hB3 : Below w.heap.size w w3 := (unhide HB2).trans (hb3.mono (unhide HB2).size)
    have hS3 := (unhide HS).below hB3
    have HB3 := hide hB3
    have K2 := hide (And.intro k1 (And.intro k2 k3))
    clear hb3 hB3 k1 k2 k3 HN2 HB2 HB1
    have hp := hS3.cell
    obtain ⟨hab, i, i1, i2, i3⟩ := unhide HT
    obtain ⟨q1, q2, q3⟩ := unhide K1
    obtain ⟨q4, q5, q6⟩ := unhide K2
    have hfi : f ≤ i := by
      rcases Nat.lt_or_ge i f with h | h
      · have := q2 i h; omega
      · exact h
    have hie : i < e := by
      rcases Nat.lt_or_ge i e with h | h
      · exact h
      · have := q6 i h i1; omega
    obtain ⟨vs, hvs⟩ : ∃ vs, vs = (if lo rs f < a then [(lo rs f, a - 1)] else []) ++ (if b < hi rs (e - 1) then [(b + 1, hi rs (e - 1))] else []) := ⟨_, rfl⟩
    obtain ⟨hC4, hI4⟩ := cut_runs (unhide HC) hab (by omega) q4 q2 q6 (fun t h1 h2 => ⟨q3 t h1 (by omega), q5 t h2⟩) hvs
    have hvl : vs.length ≤ 2 := by rw [hvs]; split <;> split <;> simp
    have hlen4 : (rs.take f ++ vs ++ rs.drop e).length ≤ rs.length + 1 := by rw [len3 _ _ _ _ (by omega)]; omega
    have hne4 : rs.take f ++ vs ++ rs.drop e ≠ rs := fun hq => by
      rw [hq] at hI4
      have := (hI4 (max a (lo rs i))).1 ⟨i, i1, by omega, by have := (unhide HC).run i i1; omega⟩
      have := (unhide HC).run i i1
      omega
    have HZ := hide (And.intro hC4 (And.intro hI4 (And.intro hlen4 hne4)))
    have hblk : ∀ g, v.ownBlock = some g → g < w.heap.size := fun g hg => ((unhide HS).row.lt g hg).2
    have HREP : Hid (∀ (vv : Value) (w4 : World), Below w.heap.size w w4 → w4.ownsRow 0 93 2 vv vs.length (enc .i64 vs) → (∀ k, vv.ownBlock = some k → w.heap.size ≤ k) → (vs = [] → vv = .slice none 0 0) →
        Calls Try.prog 70 #[v, .int .i64 f, .int .i64 e, vv] w4 fun e' w5 => ∃ v', e' = .returned v' ∧ w5.cell? ⟨p, 0, none⟩ = some v ∧ w5.frozen? ⟨p, 0, none⟩ = false ∧ (v' = .slice none 0 0 ∨ ∃ g n cap, v' = .slice (some ⟨g, 0, none⟩) n cap) ∧ Hid (ChangedI w p v (rs.take f ++ vs ++ rs.drop e) (w5.setCell ⟨p, 0, none⟩ v'))) := fun vv w4 hb h1 h2 h3 =>
      storeRepI (unhide HS) hb (replaceI f e w4 ((unhide HS).below hb).row h1 (fun g hg hq => by have := hblk g hg; have := h2 g hq; omega) (by omega) q4 (fun h => by omega) h3 hvl (by have := unhide HN; omega))
    have hfz : (f : Int) < (rs.length : Int) := by omega
    obtain ⟨k, hk⟩ : ∃ k, e = k + 1 := ⟨e - 1, by omega⟩
    have hk2 : e - 1 = k := by omega
    have hkz : (k : Int) < (rs.length : Int) := by omega
    have hwk : IntKind.i64.wrap ((e : Int) - 1) = (k : Int) := by rw [IntKind.wrap_i64]; have := unhide HN; omega
    have hsz3 : w.heap.size ≤ w3.heap.size := (unhide HB3).size
    obtain ⟨rfl, hrs⟩ | ⟨g, c, rfl, hlc, hgp, hgl, hcl⟩ := hS3.two
    · rw [hrs] at i1; simp at i1
    have d1 := (hcl f (by omega)).1
    have d2 := (hcl k (by omega)).2
    rw [hk2] at hvs
    have hgw : g < w.heap.size := hblk g rfl
    have hpw : p < w.heap.size := (unhide HS).lt
    have X1 : Hid (∀ w4, Below w.heap.size w w4 → w4.cell? ⟨p, 0, none⟩ = some (.slice (some ⟨g, 0, none⟩) rs.length c)) := fun w4 hb => (hb.cell (by exact hpw)).trans (unhide HS).cell
    have X2 : Hid (∀ w4, Below w.heap.size w w4 → w4.cell? ⟨g, k * 2 + 1, none⟩ = some (.int .i64 (hi rs k))) := fun w4 hb => (hb.cell (by exact hgw)).trans (((unhide HB3).cell (by exact hgw)).symm.trans d2)
    have hflo := (unhide HF) f (by omega)
    have hfhi := (unhide HF) k (by omega)
    have hAA := unhide HA
    have hwa : Hid (lo rs f < a → IntKind.wrap .i64 (a - 1) = a - 1) := fun h => wrap_i64 (by omega) (by omega)
    have hwb : Hid (b < hi rs k → IntKind.wrap .i64 (b + 1) = b + 1) := fun h => wrap_i64 (by omega) (by omega)
    generalize lo rs f = y at d1 hvs hwa
    generalize hi rs k = z at d2 hvs hwb X2
    have HV := hide hvs
    clear hS3 hcl hk hk2 q1 q2 q3 q4 q5 q6 hC4 hI4 hlen4 hne4 hvl hvs hflo hfhi hAA hfi hie i1 i2 i3 hblk hab
    by_cases c1 : y < a
    · have hw1 := unhide hwa c1
      obtain ⟨g1, n1, w4, hrun1, hown1, hb4, hg1, hs4⟩ := appendLitI (vs := []) w3 y (a - 1) w.heap.size w (World.ownsRow_nil _ _ _ _) (by simp) (unhide HB3) hsz3 (fun k hk => by simp [Value.ownBlock] at hk)
      have HRun1 := hide hrun1
      have m1 := unhide X1 w4 hb4
      have m2 := unhide X2 w4 hb4
      by_cases c2 : b < z
      · have hw2 := unhide hwb c2
        obtain ⟨g2, n2, w5, hrun2, hown2, hb5, hg2, hs5⟩ := appendLitI (vs := [(y, a - 1)]) w4 (b + 1) z w.heap.size w hown1 (by simp) hb4 hs4 (fun k hk => by simp [Value.ownBlock] at hk; omega)
        have HRun2 := hide hrun2
        have m3 := unhide X1 w5 hb5
        have HR2 := hide (unhide HREP _ w5 hb5 (by rw [unhide HV, if_pos c1, if_pos c2]; exact hown2) (fun k hk => by simp [Value.ownBlock] at hk; omega) (fun hq => by rw [unhide HV, if_pos c1] at hq; simp at hq))
        clear hrun1 hrun2 hown1 hown2 HREP HV
        go_upto_region 8 with (at_builtin; refine Lib.wpList_append_run _ rfl _ _ 89 89 rfl (.slice none 0 0) (.slice (some ⟨w3.heap.size, 0, none⟩) 1 1) rfl rfl _ _ HRun1.out ?_)
        go_wp2_with (at_builtin; refine Lib.wpList_append_run _ rfl _ _ 89 89 rfl (.slice (some ⟨g1, 0, none⟩) 1 n1) (.slice (some ⟨w4.heap.size, 0, none⟩) 1 1) rfl rfl _ _ HRun2.out ?_)
        refine (unhide HR2).mono ?_
        rintro e' w9 ⟨v', rfl, hpc, hpf, hvc, hch⟩
        rcases hvc with rfl | ⟨g5, n5, c5, rfl⟩
        · go_wp2_with fail
          go_ret
          exact ⟨_, ⟨true, rfl, iff_of_true rfl (unhide HZ).2.2.2⟩, (unhide HZ).1, (unhide HZ).2.1, (unhide HZ).2.2.1, unhide hch⟩
        · go_wp2_with fail
          go_ret
          exact ⟨_, ⟨true, rfl, iff_of_true rfl (unhide HZ).2.2.2⟩, (unhide HZ).1, (unhide HZ).2.1, (unhide HZ).2.2.1, unhide hch⟩
      · have HR2 := hide (unhide HREP _ w4 hb4 (by rw [unhide HV, if_pos c1, if_neg c2]; exact hown1) (fun k hk => by simp [Value.ownBlock] at hk; omega) (fun hq => by rw [unhide HV, if_pos c1] at hq; simp at hq))
        clear hrun1 hown1 HREP HV
        go_wp2_with (at_builtin; refine Lib.wpList_append_run _ rfl _ _ 89 89 rfl (.slice none 0 0) (.slice (some ⟨w3.heap.size, 0, none⟩) 1 1) rfl rfl _ _ HRun1.out ?_)
        refine (unhide HR2).mono ?_
        rintro e' w9 ⟨v', rfl, hpc, hpf, hvc, hch⟩
        rcases hvc with rfl | ⟨g5, n5, c5, rfl⟩
        · go_wp2_with fail
          go_ret
          exact ⟨_, ⟨true, rfl, iff_of_true rfl (unhide HZ).2.2.2⟩, (unhide HZ).1, (unhide HZ).2.1, (unhide HZ).2.2.1, unhide hch⟩
        · go_wp2_with fail
          go_ret
          exact ⟨_, ⟨true, rfl, iff_of_true rfl (unhide HZ).2.2.2⟩, (unhide HZ).1, (unhide HZ).2.1, (unhide HZ).2.2.1, unhide hch⟩
    · by_cases c2 : b < z
      · have hw2 := unhide hwb c2
        obtain ⟨g1, n1, w4, hrun1, hown1, hb4, hg1, hs4⟩ := appendLitI (vs := []) w3 (b + 1) z w.heap.size w (World.ownsRow_nil _ _ _ _) (by simp) (unhide HB3) hsz3 (fun k hk => by simp [Value.ownBlock] at hk)
        have HRun1 := hide hrun1
        have m1 := unhide X1 w4 hb4
        have HR2 := hide (unhide HREP _ w4 hb4 (by rw [unhide HV, if_neg c1, if_pos c2]; exact hown1) (fun k hk => by simp [Value.ownBlock] at hk; omega) (fun hq => by rw [unhide HV, if_neg c1, if_pos c2] at hq; simp at hq))
        clear hrun1 hown1 HREP HV
        go_wp2_with (at_builtin; refine Lib.wpList_append_run _ rfl _ _ 89 89 rfl (.slice none 0 0) (.slice (some ⟨w3.heap.size, 0, none⟩) 1 1) rfl rfl _ _ HRun1.out ?_)
        refine (unhide HR2).mono ?_
        rintro e' w9 ⟨v', rfl, hpc, hpf, hvc, hch⟩
        rcases hvc with rfl | ⟨g5, n5, c5, rfl⟩
        · go_wp2_with fail
          go_ret
          exact ⟨_, ⟨true, rfl, iff_of_true rfl (unhide HZ).2.2.2⟩, (unhide HZ).1, (unhide HZ).2.1, (unhide HZ).2.2.1, unhide hch⟩
        · go_wp2_with fail
          go_ret
          exact ⟨_, ⟨true, rfl, iff_of_true rfl (unhide HZ).2.2.2⟩, (unhide HZ).1, (unhide HZ).2.1, (unhide HZ).2.2.1, unhide hch⟩
      · have HR2 := hide (unhide HREP (.slice none 0 0) w3 (unhide HB3) (by rw [unhide HV, if_neg c1, if_neg c2]; exact World.ownsRow_nil _ _ _ _) (fun k hk => by simp [Value.ownBlock] at hk) (fun _ => rfl))
        clear HREP HV
        go_wp2_with fail
        refine (unhide HR2).mono ?_
        rintro e' w9 ⟨v', rfl, hpc, hpf, hvc, hch⟩
        rcases hvc with rfl | ⟨g5, n5, c5, rfl⟩
        · go_wp2_with fail
          go_ret
          exact ⟨_, ⟨true, rfl, iff_of_true rfl (unhide HZ).2.2.2⟩, (unhide HZ).1, (unhide HZ).2.1, (unhide HZ).2.2.1, unhide hch⟩
        · go_wp2_with fail
          go_ret
          exact ⟨_, ⟨true, rfl, iff_of_true rfl (unhide HZ).2.2.2⟩, (unhide HZ).1, (unhide HZ).2.1, (unhide HZ).2.2.1, unhide hch⟩
end Go.Proofs.Ytdalghfhpekcfaa
