/- The store's Edges. -/
import Derived.Test.YtagibmgbjhemkaaGreatStEs
namespace Go.Proofs.YtagibmgbjhemkaaGreat
open Go.RowKit Go.Maps

attribute [local go_sem] Oper.semAt_some

/-- The numbers of what came. -/
def ek (pre : List (Int × EdgeV)) : List Int := pre.map (·.1)
theorem ek_snoc (pre : List (Int × EdgeV)) (x : Int × EdgeV) : ek (pre ++ [x]) = ek pre ++ [x.1] := by simp [ek]
theorem ek_len (pre : List (Int × EdgeV)) : (ek pre).length = pre.length := by simp [ek]

section
variable [Inhabited EntI] {w w' : World} {X X' : Sto}
set_option maxHeartbeats 2000000 in
set_option maxRecDepth 100000 in
theorem edgesS (h : StAt w X) : Calls Tryz.prog 55 #[.pointer (some ⟨X.s, 0, none⟩)] w fun e w' => ∃ v, e = .returned v ∧ Hid (BRow w.heap.size w' v (numsOf (fun _ => true) X.ps) ∧ Below w.heap.size w w') := by
  have hb0 : Below w.heap.size w (w.alloc (.cells #[.slice none 0 0] 25)) := (Below.refl _ _).alloc (Nat.le_refl _) _
  have H0 := h.below hb0
  obtain ⟨c0, -, -, -, -⟩ := H0.cells
  have CA := hide (allE H0.tab)
  have hn6 : X.ps.length ≤ 65536 := by have := h.tab.len; omega
  have HE : Hid ((risE X.ps X.ps.length).map (·.1) = numsOf (fun _ => true) X.ps) := by
    have := risE_nums X.ps (fun _ => true) (fun _ => rfl) X.ps.length (Nat.le_refl _)
    rw [List.take_length] at this
    exact this
  have HN6 := hide hn6
  have bO := Boxed.new w 25 (.slice none 0 0)
  have hsz : (w.alloc (.cells #[.slice none 0 0] 25)).heap.size = w.heap.size + 1 := by simp
  have HB0 := hide (And.intro bO (And.intro hb0 hsz))
  generalize X.s = s at *
  generalize X.t = t at *
  generalize X.ps = ps at *
  clear h H0 hn6 bO hb0 hsz
  refine (callsIn_wide (n := 5)).1 ?_
  refine callsIn_of_wp_marks Tryz.func55 rfl trivial ?_ rfl
  simp only [Tryz.ntmps55, List.size_toArray, List.length_cons, List.length_nil, Nat.reduceAdd, Nat.reduceSub, Array.replicate_succ, Array.replicate_zero, List.push_toArray, List.append_toArray, List.nil_append, List.cons_append]
  refine wpIn_wide.2 ?_
  go_upto_region 2 with fail
  generalize w.alloc (.cells #[.slice none 0 0] 25) = w1 at *
  obtain ⟨b0, hb0⟩ : ∃ b0, b0 = w.heap.size := ⟨_, rfl⟩
  rw [← hb0] at HB0 ⊢
  have HBE := hide hb0
  clear hb0
  go_wp2_with fail
  refine (unhide CA).mono ?_
  rintro e u4 ⟨bx, pv, rfl, h4⟩
  clear CA c0
  go_wp2_with fail
  obtain ⟨bO, hb1, hsz⟩ := unhide HB0
  obtain ⟨g1, g2, g3, g4, g5⟩ := unhide h4
  rw [hsz] at g2 g3 g5
  have hs4 : b0 + 1 ≤ u4.heap.size := by have := g5.size; omega
  have hb0e : b0 ≤ w.heap.size := by have := unhide HBE; omega
  have hB4 : Below b0 w u4 := hb1.trans (g5.mono (by omega))
  have bU : Boxed u4 b0 25 (.slice none 0 0) := (g5.block b0 (by omega)).trans bO
  have hYB : ∀ b, YB bx pv b → b0 + 1 ≤ b ∧ b < u4.heap.size := fun b hb => by
    rcases hb with rfl | hb
    · exact ⟨g3, g4⟩
    · exact g2.lt b hb
  have hseq := all_stops 4 (by omega) bx pv ps (unhide HN6) u4 g1 (row_kept5 (w := u4) ⟨g2.1, g2.2.imp id (fun ⟨g, cap, cur, e, _, rest⟩ => ⟨g, cap, cur, e, Nat.zero_le _, rest⟩)⟩ (fun _ _ => rfl))
  clear h4 HB0 bO hb1 hsz g1 g2 g3 g4 g5
  generalize hR : risE ps ps.length = R at *
  obtain ⟨i0, hi, hz0, hz1, hz2⟩ := info_parts info3
  refine (wpIn_wide (n := 5)).1 ?_
  refine wpIn_rangeFunc_ownG (F := Fence.wide) (n := 5) rfl (by omega) (gf := 113) (lb := #[.pointer (some ⟨bx, 0, none⟩)]) rfl trivial (enters_of Tryz.func113 (by kernel_rfl) rfl) hseq KX.trans (kx_put (w := u4) (fun b hb => (hYB b hb).2)) (Below.refl _ _) (fun _ => rfl)
    (fun pre W => ((∃ v, Boxed W b0 25 v ∧ W.ownsRow u4.heap.size 3 1 v (ek pre).length ((ek pre).map (Value.int .i64)) ∧ True) ∧ Below b0 w W) ∧ u4.heap.size ≤ W.heap.size)
    (fun _ _ _ => False)
    (OwnFrom.and (OwnFrom.and (Own.from (holdsRow_own u4.heap.size b0 25 3 1 (fun pre => (ek pre).length) (fun pre => (ek pre).map (Value.int .i64)) (fun _ _ => True)) _) (ownFrom_below hb0e (by omega))) (Own.from (fun _ _ _ _ hs hg _ => Nat.le_trans hs hg.size) _))
    (fun _ _ _ _ _ hs _ _ => hs)
    ⟨⟨⟨_, bU, World.ownsRow_nil _ _ _ _, trivial⟩, hB4⟩, Nat.le_refl _⟩
    (fun x => { tmps := #[.pointer (some ⟨s, 0, none⟩), undef, .slice none 0 0, .pointer (some ⟨b0, 0, none⟩), .int .i64 x.1, .pointer (some ⟨s, 0, none⟩), .pointer (some ⟨s, 0, none⟩), .pointer (some ⟨s, 0, none⟩), .pointer (some ⟨t, 0, none⟩), .func (.func 113) #[] #[.pointer (some ⟨bx, 0, none⟩)], .int .i64 x.1, .agg #[.int .i64 x.2.1, .int .i64 x.2.2.1, .int .i64 x.2.2.2.1, .int .u32 x.2.2.2.2], undef, undef, undef, undef, undef], defers := [] }) ?assign ?body ?done ?stop
  case assign =>
    intro l x W K hK
    gi_wp2
    exact hK
  case body =>
    rintro l pre x W ⟨⟨⟨v, hv, hrow, -⟩, hB⟩, hWu⟩ hlt
    have hc := hv.cell
    have hps := unhide HN6
    have hlow : ∀ {W' : World} {v' : Value} {k : Nat} {xs : List Value}, W'.ownsRow u4.heap.size 3 1 v' k xs → W'.ownsRow b0 3 1 v' k xs := fun h => ⟨h.1, h.2.imp id (fun ⟨g, cap, cur, e, hb, r⟩ => ⟨g, cap, cur, e, by omega, r⟩)⟩
    have hWs : b0 + 1 ≤ W.heap.size := hv.lt
    clear hseq
    gi_wp2_with (gi_at_builtin; refine wpListIn_append_own _ rfl _ _ 25 rfl u4.heap.size 3 i0 (.int .i64 0) 1 8 Tryz.underlying25 hi hz0 hz1 hz2 rfl (by decide) _ _ _ rfl (hrow.alloc _) ⟨W.heap.size, 0, none⟩ 1 1 [.int .i64 x.1] rfl rfl (cell_one_new _ _ _) (by simp [Value.oneCell']) (by have := ek_len pre; unfold maxLen; omega) (by have := ek_len pre; omega) (by simp; omega) ?_; intro v' w1 hown' hgrow _; obtain ⟨g', cap', rfl⟩ := ownsRow_succ hown'; obtain ⟨hv1, hv2, hr2, hk2, hb2⟩ := hv.appended (n₀ := b0) (by decide) (hlow hrow) (by omega) (Nat.le_refl _) (hlow hown') hgrow; have hc1 := hv1.cell; have hf1 := hv1.frozen)
    have hrow' := hown'.kept (grownBy_setCell' w1 b0 (.slice (some ⟨g', 0, none⟩) ((ek pre).length + 1) cap')) (.inr (hv1.not_row (by decide) hown').symm)
    refine ⟨hk2.from _, fun b hb => ?_, ⟨⟨_, hv2, by rw [ek_snoc]; simpa using hrow', trivial⟩, hB.trans hb2⟩, ?_⟩
    · obtain ⟨y1, y2⟩ := hYB b hb
      refine (heap_setCell_other _ _ _ _ (by show b ≠ b0; omega)).trans ((hgrow.block b (by simp; omega) (fun e => ?_)).trans (heap_alloc_old _ _ (by omega)))
      have := (hrow.lt b e.symm).1
      omega
    · have h1 := hgrow.size
      simp at h1 ⊢
      omega
  case done =>
    rintro D ys W hD hys ⟨⟨⟨v, hv, hrow, -⟩, hB⟩, hWu⟩ hK
    have hc := hv.cell
    obtain ⟨a5, n5, c5, e5⟩ : ∃ a n c, v = .slice a n c := by
      rcases hrow.2 with ⟨e, -⟩ | ⟨g, cap, cur, e, -⟩
      · exact ⟨_, _, _, e⟩
      · exact ⟨_, _, _, e⟩
    subst e5
    clear hseq
    have HEND : Hid (BRow w.heap.size (W.putObj D (.deferred none)) (.slice a5 n5 c5) (numsOf (fun _ => true) ps) ∧ Below w.heap.size w (W.putObj D (.deferred none))) := by
      rw [← unhide HE, ← unhide HBE]
      have e1 : ek ys = R.map (·.1) := by rw [hys]; rfl
      rw [e1] at hrow
      have h1 := ownsRow_putObj hrow (.deferred none) hK rfl
      exact ⟨⟨h1.1, h1.2.imp id (fun ⟨g, cap, cur, e, hb, r⟩ => ⟨g, cap, cur, e, by omega, r⟩)⟩, hB.trans (belowK_b (w := u4) (by omega) W D _ _ hD hK rfl rfl)⟩
    have HK := hide hK
    clear hK hrow hB hv hys
    go_wp2_with fail
    refine ⟨by simp, .inl ⟨_, _, rfl, run_takeDeferred (unhide HK), ?_⟩⟩
    exact ⟨_, results_tmp rfl _ _ _, _, rfl, by exact unhide HEND⟩
  case stop =>
    rintro D c pre W _ _ h _
    exact h.elim
end
end Go.Proofs.YtagibmgbjhemkaaGreat
