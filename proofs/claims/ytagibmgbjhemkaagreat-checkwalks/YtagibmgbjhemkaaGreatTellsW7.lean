/- Tells, walked. -/
import Derived.Test.YtagibmgbjhemkaaGreatTells7
namespace Go.Proofs.YtagibmgbjhemkaaGreat
open Go.RowKit Go.Maps
def askd (vs : List Int) : List Int := [-1, 3, 1099511627776] ++ vs
set_option maxHeartbeats 4000000 in
set_option maxRecDepth 100000 in
theorem tellsS [Inhabited EntI] {n : Nat} {w : World} {X : Sto} {g : Gr} {vv ev : Value} {vs : List Int} {es : List EdgeV} (h : Game n X g vv ev vs es w) :
    Calls Tryz.prog 28 #[.pointer (some ⟨X.s, 0, none⟩), .agg #[vv, ev, .int .i64 g.rd, .int .i64 g.wr]] w fun e w' => e = .returned (.bool true) ∧ Hid (Below w.heap.size w w') := by
  obtain ⟨bb, hbb⟩ : ∃ bb, bb = w.heap.size := ⟨_, rfl⟩; obtain ⟨va, vc, hvv, -⟩ := brow_shape h.vrow; obtain ⟨vn, hvv'⟩ : ∃ vn, vv = .slice va vn vc := ⟨_, hvv⟩; obtain ⟨ea, en, ec, hev⟩ := grow_shape h.erow; clear hvv; subst hvv' hev; have HT0 : Hid (TFit w bb (.slice va vn vc) (.slice ea en ec) g.rd g.wr (.slice none 0 0) [] (w.alloc (oG (.slice va vn vc) (.slice ea en ec) g.rd g.wr))) := ⟨by rw [hbb]; exact heap_alloc_new _ _, below_new _ _, by omega, ⟨rfl, .inl ⟨rfl, rfl⟩⟩⟩
  obtain ⟨fr, CF1, CF2⟩ := tFree (bb := bb) h; obtain ⟨rd, hrd⟩ : ∃ rd, rd = g.rd := ⟨_, rfl⟩; obtain ⟨wr_0, hwr⟩ : ∃ wr_0, wr_0 = g.wr := ⟨_, rfl⟩; have CV : Hid (∀ rw ks0 W, TFit w bb (.slice va vn vc) (.slice ea en ec) rd wr_0 rw ks0 W → Calls Tryz.prog 54 #[.pointer (some ⟨X.s, 0, none⟩)] W fun e w1 => ∃ a m k, e = .returned (.slice a m k) ∧ (w1.cell? ⟨bb, 0, none⟩ = some (.slice va vn vc) ∧ w1.cell? ⟨bb, 1, none⟩ = some (.slice ea en ec) ∧ w1.cell? ⟨bb, 2, none⟩ = some (.int .i64 rd) ∧ w1.cell? ⟨bb, 3, none⟩ = some (.int .i64 wr_0)) ∧ Hid (NRow w1 (.slice a m k) vs ∧ NRow w1 (.slice va vn vc) vs ∧ TFit w bb (.slice va vn vc) (.slice ea en ec) rd wr_0 rw ks0 w1)) := fun rw ks0 W hT => by
    rw [hrd, hwr] at hT ⊢; refine (tVerts h hT).mono ?_
    rintro e w1 ⟨a, m, k, rfl, r1, r2⟩
    exact ⟨a, m, k, rfl, r2.cells, r1, nrow_below h.vrow r2.2.1, r2⟩
  have CS : Hid (∀ rw ks0 W v1 v2 ks, TFit w bb (.slice va vn vc) (.slice ea en ec) rd wr_0 rw ks0 W → NRow W v1 ks → NRow W v2 ks → ks.length ≤ 100000 → Calls Tryz.prog 23 #[v1, v2] W fun e w1 => e = .returned (.bool true) ∧ (w1.cell? ⟨bb, 0, none⟩ = some (.slice va vn vc) ∧ w1.cell? ⟨bb, 1, none⟩ = some (.slice ea en ec) ∧ w1.cell? ⟨bb, 2, none⟩ = some (.int .i64 rd) ∧ w1.cell? ⟨bb, 3, none⟩ = some (.int .i64 wr_0)) ∧ Hid (TFit w bb (.slice va vn vc) (.slice ea en ec) rd wr_0 rw ks0 w1)) := fun rw ks0 W v1 v2 ks hT h1 h2 hl => by
    rw [hrd, hwr] at hT ⊢; refine (tSame hT h1 h2 (by omega)).mono ?_
    rintro e w1 ⟨rfl, r2⟩
    exact ⟨rfl, r2.cells, r2⟩
  have CE : Hid (∀ rw ks0 W, TFit w bb (.slice va vn vc) (.slice ea en ec) rd wr_0 rw ks0 W → Calls Tryz.prog 55 #[.pointer (some ⟨X.s, 0, none⟩)] W fun e w1 => ∃ a m k, e = .returned (.slice a m k) ∧ (w1.cell? ⟨bb, 0, none⟩ = some (.slice va vn vc) ∧ w1.cell? ⟨bb, 1, none⟩ = some (.slice ea en ec) ∧ w1.cell? ⟨bb, 2, none⟩ = some (.int .i64 rd) ∧ w1.cell? ⟨bb, 3, none⟩ = some (.int .i64 wr_0)) ∧ Hid (NRow w1 (.slice a m k) (eAll es) ∧ TFit w bb (.slice va vn vc) (.slice ea en ec) rd wr_0 rw ks0 w1)) := fun rw ks0 W hT => by
    rw [hrd, hwr] at hT ⊢; refine (tEdges h hT).mono ?_
    rintro e w1 ⟨a, m, k, rfl, r1, r2⟩
    exact ⟨a, m, k, rfl, r2.cells, r1, r2⟩
  have CE2 : Hid (∀ rw ks0 W v1 ks, TFit w bb (.slice va vn vc) (.slice ea en ec) rd wr_0 rw ks0 W → NRow W v1 ks → Calls Tryz.prog 56 #[.agg #[.slice va vn vc, .slice ea en ec, .int .i64 rd, .int .i64 wr_0]] W fun e w1 => ∃ a m k, e = .returned (.slice a m k) ∧ (w1.cell? ⟨bb, 0, none⟩ = some (.slice va vn vc) ∧ w1.cell? ⟨bb, 1, none⟩ = some (.slice ea en ec) ∧ w1.cell? ⟨bb, 2, none⟩ = some (.int .i64 rd) ∧ w1.cell? ⟨bb, 3, none⟩ = some (.int .i64 wr_0)) ∧ Hid (NRow w1 (.slice a m k) (eAll es) ∧ NRow w1 v1 ks ∧ TFit w bb (.slice va vn vc) (.slice ea en ec) rd wr_0 rw ks0 w1)) := fun rw ks0 W v1 ks hT h1 => by
    rw [hrd, hwr] at hT ⊢; refine (tREdges h hT h1).mono ?_
    rintro e w1 ⟨a, m, k, rfl, r1, r3, r2⟩
    exact ⟨a, m, k, rfl, r2.cells, r1, r3, r2⟩
  have CFa : Hid (∀ rw ks0 W, TFit w bb (.slice va vn vc) (.slice ea en ec) rd wr_0 rw ks0 W → Calls Tryz.prog 57 #[.pointer (some ⟨X.s, 0, none⟩)] W fun e w1 => e = .returned (.int .i64 fr) ∧ (w1.cell? ⟨bb, 0, none⟩ = some (.slice va vn vc) ∧ w1.cell? ⟨bb, 1, none⟩ = some (.slice ea en ec) ∧ w1.cell? ⟨bb, 2, none⟩ = some (.int .i64 rd) ∧ w1.cell? ⟨bb, 3, none⟩ = some (.int .i64 wr_0)) ∧ Hid (TFit w bb (.slice va vn vc) (.slice ea en ec) rd wr_0 rw ks0 w1)) := fun rw ks0 W hT => by
    rw [hrd, hwr] at hT ⊢; refine (CF1 rw ks0 W hT).mono ?_
    rintro e w1 ⟨rfl, r2⟩
    exact ⟨rfl, r2.cells, r2⟩
  have CFb : Hid (∀ rw ks0 W, TFit w bb (.slice va vn vc) (.slice ea en ec) rd wr_0 rw ks0 W → Calls Tryz.prog 58 #[.agg #[.slice va vn vc, .slice ea en ec, .int .i64 rd, .int .i64 wr_0]] W fun e w1 => e = .returned (.int .i64 fr) ∧ (w1.cell? ⟨bb, 0, none⟩ = some (.slice va vn vc) ∧ w1.cell? ⟨bb, 1, none⟩ = some (.slice ea en ec) ∧ w1.cell? ⟨bb, 2, none⟩ = some (.int .i64 rd) ∧ w1.cell? ⟨bb, 3, none⟩ = some (.int .i64 wr_0)) ∧ Hid (TFit w bb (.slice va vn vc) (.slice ea en ec) rd wr_0 rw ks0 w1)) := fun rw ks0 W hT => by
    rw [hrd, hwr] at hT ⊢; refine (CF2 rw ks0 W hT).mono ?_
    rintro e w1 ⟨rfl, r2⟩
    exact ⟨rfl, r2.cells, r2⟩
  have CH : Hid (∀ rw ks0 W k, TFit w bb (.slice va vn vc) (.slice ea en ec) rd wr_0 rw ks0 W → okN k → Calls Tryz.prog 18 #[.pointer (some ⟨X.s, 0, none⟩), .int .i64 k] W fun e w1 => e = .returned (.bool (g.V k)) ∧ (w1.cell? ⟨bb, 0, none⟩ = some (.slice va vn vc) ∧ w1.cell? ⟨bb, 1, none⟩ = some (.slice ea en ec) ∧ w1.cell? ⟨bb, 2, none⟩ = some (.int .i64 rd) ∧ w1.cell? ⟨bb, 3, none⟩ = some (.int .i64 wr_0)) ∧ Hid (TFit w bb (.slice va vn vc) (.slice ea en ec) rd wr_0 rw ks0 w1)) := fun rw ks0 W k hT hk => by
    rw [hrd, hwr] at hT ⊢; refine (tHas h hT k hk).mono ?_
    rintro e w1 ⟨rfl, r2⟩
    exact ⟨rfl, r2.cells, r2⟩
  have CH2 : Hid (∀ rw ks0 W k, TFit w bb (.slice va vn vc) (.slice ea en ec) rd wr_0 rw ks0 W → Calls Tryz.prog 19 #[.agg #[.slice va vn vc, .slice ea en ec, .int .i64 rd, .int .i64 wr_0], .int .i64 k] W fun e w1 => e = .returned (.bool (g.V k)) ∧ (w1.cell? ⟨bb, 0, none⟩ = some (.slice va vn vc) ∧ w1.cell? ⟨bb, 1, none⟩ = some (.slice ea en ec) ∧ w1.cell? ⟨bb, 2, none⟩ = some (.int .i64 rd) ∧ w1.cell? ⟨bb, 3, none⟩ = some (.int .i64 wr_0)) ∧ Hid (TFit w bb (.slice va vn vc) (.slice ea en ec) rd wr_0 rw ks0 w1)) := fun rw ks0 W k hT => by
    rw [hrd, hwr] at hT ⊢; refine (tRHas h hT k).mono ?_
    rintro e w1 ⟨rfl, r2⟩
    exact ⟨rfl, r2.cells, r2⟩
  have CO : Hid (∀ rw ks0 W k, TFit w bb (.slice va vn vc) (.slice ea en ec) rd wr_0 rw ks0 W → okN k → Calls Tryz.prog 59 #[.pointer (some ⟨X.s, 0, none⟩), .int .i64 k] W fun e w1 => ∃ a m k', e = .returned (.slice a m k') ∧ (w1.cell? ⟨bb, 0, none⟩ = some (.slice va vn vc) ∧ w1.cell? ⟨bb, 1, none⟩ = some (.slice ea en ec) ∧ w1.cell? ⟨bb, 2, none⟩ = some (.int .i64 rd) ∧ w1.cell? ⟨bb, 3, none⟩ = some (.int .i64 wr_0)) ∧ Hid (NRow w1 (.slice a m k') (eOut es k) ∧ TFit w bb (.slice va vn vc) (.slice ea en ec) rd wr_0 rw ks0 w1)) := fun rw ks0 W k hT hk => by
    rw [hrd, hwr] at hT ⊢; refine (tOut h hT k hk).mono ?_
    rintro e w1 ⟨a, m, k', rfl, r1, r2⟩
    exact ⟨a, m, k', rfl, r2.cells, r1, r2⟩
  have CI : Hid (∀ rw ks0 W k, TFit w bb (.slice va vn vc) (.slice ea en ec) rd wr_0 rw ks0 W → okN k → Calls Tryz.prog 60 #[.pointer (some ⟨X.s, 0, none⟩), .int .i64 k] W fun e w1 => ∃ a m k', e = .returned (.slice a m k') ∧ (w1.cell? ⟨bb, 0, none⟩ = some (.slice va vn vc) ∧ w1.cell? ⟨bb, 1, none⟩ = some (.slice ea en ec) ∧ w1.cell? ⟨bb, 2, none⟩ = some (.int .i64 rd) ∧ w1.cell? ⟨bb, 3, none⟩ = some (.int .i64 wr_0)) ∧ Hid (NRow w1 (.slice a m k') (eIn es k) ∧ TFit w bb (.slice va vn vc) (.slice ea en ec) rd wr_0 rw ks0 w1)) := fun rw ks0 W k hT hk => by
    rw [hrd, hwr] at hT ⊢; refine (tIn h hT k hk).mono ?_
    rintro e w1 ⟨a, m, k', rfl, r1, r2⟩
    exact ⟨a, m, k', rfl, r2.cells, r1, r2⟩
  have CO2 : Hid (∀ rw ks0 W k v1 ks, TFit w bb (.slice va vn vc) (.slice ea en ec) rd wr_0 rw ks0 W → NRow W v1 ks → Calls Tryz.prog 37 #[.agg #[.slice va vn vc, .slice ea en ec, .int .i64 rd, .int .i64 wr_0], .int .i64 k] W fun e w1 => ∃ a m k', e = .returned (.slice a m k') ∧ (w1.cell? ⟨bb, 0, none⟩ = some (.slice va vn vc) ∧ w1.cell? ⟨bb, 1, none⟩ = some (.slice ea en ec) ∧ w1.cell? ⟨bb, 2, none⟩ = some (.int .i64 rd) ∧ w1.cell? ⟨bb, 3, none⟩ = some (.int .i64 wr_0)) ∧ Hid (NRow w1 (.slice a m k') (eOut es k) ∧ NRow w1 v1 ks ∧ TFit w bb (.slice va vn vc) (.slice ea en ec) rd wr_0 rw ks0 w1)) := fun rw ks0 W k v1 ks hT h1 => by
    rw [hrd, hwr] at hT ⊢; refine (tROut h hT k h1).mono ?_
    rintro e w1 ⟨a, m, k', rfl, r1, r3, r2⟩
    exact ⟨a, m, k', rfl, r2.cells, r1, r3, r2⟩
  have CI2 : Hid (∀ rw ks0 W k v1 ks, TFit w bb (.slice va vn vc) (.slice ea en ec) rd wr_0 rw ks0 W → NRow W v1 ks → Calls Tryz.prog 61 #[.agg #[.slice va vn vc, .slice ea en ec, .int .i64 rd, .int .i64 wr_0], .int .i64 k] W fun e w1 => ∃ a m k', e = .returned (.slice a m k') ∧ (w1.cell? ⟨bb, 0, none⟩ = some (.slice va vn vc) ∧ w1.cell? ⟨bb, 1, none⟩ = some (.slice ea en ec) ∧ w1.cell? ⟨bb, 2, none⟩ = some (.int .i64 rd) ∧ w1.cell? ⟨bb, 3, none⟩ = some (.int .i64 wr_0)) ∧ Hid (NRow w1 (.slice a m k') (eIn es k) ∧ NRow w1 v1 ks ∧ TFit w bb (.slice va vn vc) (.slice ea en ec) rd wr_0 rw ks0 w1)) := fun rw ks0 W k v1 ks hT h1 => by
    rw [hrd, hwr] at hT ⊢; refine (tRIn h hT k h1).mono ?_
    rintro e w1 ⟨a, m, k', rfl, r1, r3, r2⟩
    exact ⟨a, m, k', rfl, r2.cells, r1, r3, r2⟩
  have CR : Hid (∀ rw ks0 W, TFit w bb (.slice va vn vc) (.slice ea en ec) rd wr_0 rw ks0 W → Calls Tryz.prog 10 #[.pointer (some ⟨X.s, 0, none⟩)] W fun e w1 => e = .returned (.int .i64 rd) ∧ (w1.cell? ⟨bb, 0, none⟩ = some (.slice va vn vc) ∧ w1.cell? ⟨bb, 1, none⟩ = some (.slice ea en ec) ∧ w1.cell? ⟨bb, 2, none⟩ = some (.int .i64 rd) ∧ w1.cell? ⟨bb, 3, none⟩ = some (.int .i64 wr_0)) ∧ Hid (TFit w bb (.slice va vn vc) (.slice ea en ec) rd wr_0 rw ks0 w1)) := fun rw ks0 W hT => by
    refine (readsS (h.st.below hT.2.1)).mono ?_
    rintro e w1 ⟨rfl, rfl⟩
    exact ⟨by rw [h.sh.rd, hrd], hT.cells, hT⟩
  have CW : Hid (∀ rw ks0 W, TFit w bb (.slice va vn vc) (.slice ea en ec) rd wr_0 rw ks0 W → Calls Tryz.prog 15 #[.pointer (some ⟨X.s, 0, none⟩)] W fun e w1 => e = .returned (.int .i64 wr_0) ∧ (w1.cell? ⟨bb, 0, none⟩ = some (.slice va vn vc) ∧ w1.cell? ⟨bb, 1, none⟩ = some (.slice ea en ec) ∧ w1.cell? ⟨bb, 2, none⟩ = some (.int .i64 rd) ∧ w1.cell? ⟨bb, 3, none⟩ = some (.int .i64 wr_0)) ∧ Hid (TFit w bb (.slice va vn vc) (.slice ea en ec) rd wr_0 rw ks0 w1)) := fun rw ks0 W hT => by
    refine (writesS (h.st.below hT.2.1)).mono ?_
    rintro e w1 ⟨rfl, rfl⟩
    exact ⟨by rw [h.sh.wr, hwr], hT.cells, hT⟩
  have HLV : Hid (vs.length ≤ 256 ∧ es.length ≤ 1024) := ⟨h.vlen, h.elen⟩; have HOK : Hid (∀ k ∈ askd vs, okN k) := fun k hk => by
    rcases List.mem_append.1 hk with hk | hk
    · simp at hk; rcases hk with rfl | rfl | rfl
      · exact WalkArith.wf_i64 (by omega)
      · exact WalkArith.wf_i64 (by omega)
      · exact WalkArith.wf_i64 (by omega)
    · have := h.st.mem.keys k (h.sh.some_ ((h.rel.V k).2 hk)); exact okN_of this.1 this.2
  rw [← hrd, ← hwr] at HT0 ⊢; have HVR : Hid (∀ rw ks0 W, TFit w bb (.slice va vn vc) (.slice ea en ec) rd wr_0 rw ks0 W → NRow W (.slice va vn vc) vs) := fun rw ks0 W hT => nrow_below h.vrow hT.2.1
  have HBB := hide hbb; generalize X.s = s at *; generalize g.V = V at *; clear h CF1 CF2 hrd hwr hbb
  go_enter Tryz.func28, Tryz.ntmps28
  go_upto_region 1 with fail
  change Code.wp _ _ _ _ (w.alloc (oG (.slice va vn vc) (.slice ea en ec) rd wr_0)); rw [← unhide HBB]; generalize w.alloc (oG (.slice va vn vc) (.slice ea en ec) rd wr_0) = wb at *; have hT1 : TFit w bb (.slice va vn vc) (.slice ea en ec) rd wr_0 (.slice none 0 0) [] wb.drew := (unhide HT0).step (Below.refl _ _).drew; have HT1 := hide hT1; have hc1 := hT1.cells; clear hT1; refine wp_region_noPanic ?_; refine regionL [] (fun y => (y.cell? ⟨bb, 0, none⟩ = some (.slice va vn vc) ∧ y.cell? ⟨bb, 1, none⟩ = some (.slice ea en ec) ∧ y.cell? ⟨bb, 2, none⟩ = some (.int .i64 rd) ∧ y.cell? ⟨bb, 3, none⟩ = some (.int .i64 wr_0))) (by kernel_rfl) hc1 (fun hHeld => ?_)
  refine takeN 0 7 rfl ?_
  (try simp only [sl])
  refine takeN 2 9 rfl ?_
  (try simp only [sl])
  refine takeN 3 10 rfl ?_
  (try simp only [sl])
  refine readyL (i := 1) (by kernel_rfl) rfl (fun K hK => ?_)
  go_simp
  refine (unhide CV _ _ _ (unhide HT1)).mono ?_
  rintro e w1 ⟨a1, m1, k1, rfl, cc1, hh1⟩
  (try dsimp only)
  refine hK.out _ _ (fun _ => cc1) ?_
  clear hK K
  (try simp only [sl])
  have hH4 := cc1; refine readyL (i := 4) (by kernel_rfl) rfl (fun K hK => ?_)
  go_simp
  refine (unhide CS _ _ _ _ _ vs (unhide hh1).2.2 (unhide hh1).1 (unhide hh1).2.1 (by have := (unhide HLV).1; omega)).mono ?_
  rintro e w2 ⟨rfl, cc2, hh2⟩
  (try dsimp only)
  refine hK.out _ _ (fun _ => cc2) ?_
  clear hK K
  (try simp only [sl])
  have hH6 := cc2; refine takeN 5 12 rfl ?_
  (try simp only [sl])
  refine takeN 6 13 rfl ?_
  (try simp only [sl])
  refine takeN 7 14 rfl ?_
  (try simp only [sl])
  refine takeN 9 16 rfl ?_
  (try simp only [sl])
  refine readyL (i := 8) (by kernel_rfl) rfl (fun K hK => ?_)
  go_simp
  refine (unhide CE _ _ _ (unhide hh2)).mono ?_
  rintro e w3 ⟨a3, m3, k3, rfl, cc3, hh3⟩
  (try dsimp only)
  refine hK.out _ _ (fun _ => cc3) ?_
  clear hK K
  (try simp only [sl])
  have hH9 := cc3; refine readyL (i := 10) (by kernel_rfl) rfl (fun K hK => ?_)
  go_simp
  refine (unhide CE2 _ _ _ _ _ (unhide hh3).2 (unhide hh3).1).mono ?_
  rintro e w4 ⟨a4, m4, k4, rfl, cc4, hh4⟩
  (try dsimp only)
  refine hK.out _ _ (fun _ => cc4) ?_
  clear hK K
  (try simp only [sl])
  have hH11 := cc4; refine readyL (i := 11) (by kernel_rfl) rfl (fun K hK => ?_)
  go_simp
  refine (unhide CS _ _ _ _ _ (eAll es) (unhide hh4).2.2 (unhide hh4).2.1 (unhide hh4).1 (by have := (unhide HLV).2; have := len_eAll es; omega)).mono ?_
  rintro e w5 ⟨rfl, cc5, hh5⟩
  (try dsimp only)
  refine hK.out _ _ (fun _ => cc5) ?_
  clear hK K
  (try simp only [sl])
  have hH13 := cc5; refine takeN 12 19 rfl ?_
  (try simp only [sl])
  refine takeN 13 20 rfl ?_
  (try simp only [sl])
  refine takeN 14 21 rfl ?_
  (try simp only [sl])
  refine takeN 15 22 rfl ?_
  (try simp only [sl])
  refine takeN 17 24 rfl ?_
  (try simp only [sl])
  refine readyL (i := 16) (by kernel_rfl) rfl (fun K hK => ?_)
  go_simp
  refine (unhide CFa _ _ _ (unhide hh5)).mono ?_
  rintro e w6 ⟨rfl, cc6, hh6⟩
  (try dsimp only)
  refine hK.out _ _ (fun _ => cc6) ?_
  clear hK K
  (try simp only [sl])
  have hH16 := cc6; refine readyL (i := 18) (by kernel_rfl) rfl (fun K hK => ?_)
  go_simp
  refine (unhide CFb _ _ _ (unhide hh6)).mono ?_
  rintro e w7 ⟨rfl, cc7, hh7⟩
  (try dsimp only)
  refine hK.out _ _ (fun _ => cc7) ?_
  clear hK K
  (try simp only [sl])
  have hH18 := cc7; refine takeN 19 26 rfl ?_
  (try simp only [sl])
  refine takeN 20 27 rfl ?_
  (try simp only [sl])
  refine doneL (by kernel_rfl) ?_ _
  refine NoPanic.normal ?_; clear cc1 cc2 cc3 cc4 cc5 cc6 hh1 hh2 hh3 hh4 hh5 hh6 HT1 hc1 HT0 CV CE CE2 CFa CFb hHeld; obtain ⟨us, hus⟩ : ∃ us : List Int, us = [-1, 3, 1099511627776] := ⟨_, rfl⟩; have hul : us.length = 3 := by rw [hus]; rfl
  have hb7 := below_new w7 (.cells #[.int .i64 (-1), .int .i64 3, .int .i64 1099511627776] 3); have hu : BRow w7.heap.size (w7.alloc (.cells #[.int .i64 (-1), .int .i64 3, .int .i64 1099511627776] 3)) (.slice (some ⟨w7.heap.size, 0, none⟩) 3 3) us := by
    rw [hus]; exact ⟨rfl, .inr ⟨w7.heap.size, 3, #[.int .i64 (-1), .int .i64 3, .int .i64 1099511627776], rfl, Nat.le_refl _, heap_alloc_new _ _, Nat.le_refl _, by unfold maxLen; omega, rfl, rfl⟩⟩
  have hvr : NRow (w7.alloc (.cells #[.int .i64 (-1), .int .i64 3, .int .i64 1099511627776] 3)) (.slice va vn vc) vs := nrow_below (unhide HVR _ _ _ (unhide hh7)) hb7; obtain ⟨v8, w8, hr8, g8, gg8⟩ := run_appN hb7.size hu hvr (by have := (unhide HLV).1; omega)
  obtain ⟨a8, k8, e8, -⟩ := brow_shape g8; obtain ⟨L8, hL8, hL8'⟩ : ∃ L8, L8 = (us ++ vs).length ∧ v8 = .slice a8 L8 k8 := ⟨_, rfl, e8⟩; subst hL8'; have hB8 : Below w7.heap.size w7 w8 := hb7.trans ⟨gg8.os, gg8.tape, gg8.output, gg8.size, fun k hk => gg8.block k (Nat.lt_of_lt_of_le hk hb7.size) (fun e => by have := (hu.lt k e.symm).1; omega)⟩
  have HR8 := hide hr8; have HT8 : Hid (TFit w bb (.slice va vn vc) (.slice ea en ec) rd wr_0 (.slice a8 L8 k8) (us ++ vs) w8) := by
    have := (unhide hh7).step hB8; exact ⟨this.1, this.2.1, this.2.2.1, brow_at0 g8⟩
  have HL8 : Hid (L8 = (us ++ vs).length ∧ L8 ≤ 300 ∧ ∀ k ∈ us ++ vs, okN k) := ⟨hL8, by rw [hL8, List.length_append, hul]; have := (unhide HLV).1; omega, fun k hk => unhide HOK k (by unfold askd; rw [← hus]; exact hk)⟩
  have c7 := cc7.1; have c7' : (w7.alloc (.cells #[.int .i64 (-1), .int .i64 3, .int .i64 1099511627776] 3)).cell? ⟨bb, 0, none⟩ = some (.slice va vn vc) := (cellsG ((unhide hh7).step hb7).1).1; clear hb7 hu hvr hr8 g8 gg8 hB8 e8 hL8 HOK hul cc7 hus hh7; generalize us ++ vs = aks at *
  go_wp2_with (at_builtin; refine Lib.wpList_append_run _ rfl _ _ 25 25 rfl _ _ rfl rfl _ _ (unhide HR8 _) ?_)
  clear c7 c7' HR8
  go_loopw [33] (fun s33 wr => ∃ i : Nat, s33 = .int .i64 i ∧ i ≤ L8 ∧ Hid (TFit w bb (.slice va vn vc) (.slice ea en ec) rd wr_0 (.slice a8 L8 k8) aks wr)) (fun s33 _ => L8 - (intOf s33).toNat)
  case atStart => exact ⟨0, rfl, Nat.zero_le _, HT8⟩
  case round =>
    obtain ⟨i, rfl, hi, hT⟩ := hrel
    by_cases hlt : i < L8
    · have hz : (i : Int) < (L8 : Int) := by omega
      obtain ⟨k, hk⟩ : ∃ k, aks[i]? = some k := ⟨_, List.getElem?_eq_getElem (by have := (unhide HL8).1; omega)⟩
      have HK : Hid (okN k) := (unhide HL8).2.2 k (List.mem_of_getElem? hk); obtain ⟨ga, rfl⟩ := brow_some (unhide hT).2.2.2 (by have := (unhide HL8).1; omega)
      have hck : wr.cell? ⟨ga, i, none⟩ = some (.int .i64 k) := brow_at (unhide hT).2.2.2 hk; have hwi : wrap64 ((i : Int) + 1) = ((i + 1 : Nat) : Int) := by have := (unhide HL8).2.1; unfold wrap64; omega
      have HWI := hide hwi; clear hk hwi HT8
      go_upto_region 6 with fail
      clear hck; have hTd : TFit w bb (.slice va vn vc) (.slice ea en ec) rd wr_0 (.slice (some ⟨ga, 0, none⟩) L8 k8) aks wr.drew := (unhide hT).step (Below.refl _ _).drew; have HTD := hide hTd; have hcd := hTd.cells; clear hTd; have HLE : Hid ((eOut es k).length ≤ 100000 ∧ (eIn es k).length ≤ 100000) := ⟨by have := (unhide HLV).2; have := len_eOut es k; omega, by have := (unhide HLV).2; have := len_eIn es k; omega⟩
      obtain ⟨vb, hvb⟩ : ∃ vb, vb = V k := ⟨_, rfl⟩; have CHk : Hid (Calls Tryz.prog 18 #[.pointer (some ⟨s, 0, none⟩), .int .i64 k] wr.drew fun e w1 => e = .returned (.bool vb) ∧ (w1.cell? ⟨bb, 0, none⟩ = some (.slice va vn vc) ∧ w1.cell? ⟨bb, 1, none⟩ = some (.slice ea en ec) ∧ w1.cell? ⟨bb, 2, none⟩ = some (.int .i64 rd) ∧ w1.cell? ⟨bb, 3, none⟩ = some (.int .i64 wr_0)) ∧ Hid (TFit w bb (.slice va vn vc) (.slice ea en ec) rd wr_0 (.slice (some ⟨ga, 0, none⟩) L8 k8) aks w1)) := by rw [hvb]; exact unhide CH _ _ _ k (unhide HTD) (unhide HK)
      have CHk2 : Hid (∀ W, TFit w bb (.slice va vn vc) (.slice ea en ec) rd wr_0 (.slice (some ⟨ga, 0, none⟩) L8 k8) aks W → Calls Tryz.prog 19 #[.agg #[.slice va vn vc, .slice ea en ec, .int .i64 rd, .int .i64 wr_0], .int .i64 k] W fun e w1 => e = .returned (.bool vb) ∧ (w1.cell? ⟨bb, 0, none⟩ = some (.slice va vn vc) ∧ w1.cell? ⟨bb, 1, none⟩ = some (.slice ea en ec) ∧ w1.cell? ⟨bb, 2, none⟩ = some (.int .i64 rd) ∧ w1.cell? ⟨bb, 3, none⟩ = some (.int .i64 wr_0)) ∧ Hid (TFit w bb (.slice va vn vc) (.slice ea en ec) rd wr_0 (.slice (some ⟨ga, 0, none⟩) L8 k8) aks w1)) := fun W hW => by rw [hvb]; exact unhide CH2 _ _ _ k hW
      clear hvb; refine wp_region_noPanic ?_; refine regionL [] (fun y => (y.cell? ⟨bb, 0, none⟩ = some (.slice va vn vc) ∧ y.cell? ⟨bb, 1, none⟩ = some (.slice ea en ec) ∧ y.cell? ⟨bb, 2, none⟩ = some (.int .i64 rd) ∧ y.cell? ⟨bb, 3, none⟩ = some (.int .i64 wr_0))) (by kernel_rfl) hcd (fun hHeld => ?_)
      refine takeN 0 37 rfl ?_
      (try simp only [sl])
      refine takeN 1 38 rfl ?_
      (try simp only [sl])
      refine takeN 3 40 rfl ?_
      (try simp only [sl])
      refine takeN 4 41 rfl ?_
      (try simp only [sl])
      refine readyL (i := 2) (by kernel_rfl) rfl (fun K hK => ?_)
      go_simp
      refine (unhide CHk).mono ?_
      rintro e w1 ⟨rfl, cc1, hh1⟩
      (try dsimp only)
      refine hK.out _ _ (fun _ => cc1) ?_
      clear hK K
      (try simp only [sl])
      have hH24 := cc1; refine readyL (i := 5) (by kernel_rfl) rfl (fun K hK => ?_)
      go_simp
      refine (unhide CHk2 _ (unhide hh1)).mono ?_
      rintro e w2 ⟨rfl, cc2, hh2⟩
      (try dsimp only)
      refine hK.out _ _ (fun _ => cc2) ?_
      clear hK K
      (try simp only [sl])
      have hH26 := cc2; refine takeN 6 43 rfl ?_
      (try simp only [sl])
      (try simp only [bne_self_eq_false])
      refine takeN 7 44 rfl ?_
      (try simp only [sl])
      refine takeN 8 45 rfl ?_
      (try simp only [sl])
      refine takeN 9 46 rfl ?_
      (try simp only [sl])
      refine takeN 11 48 rfl ?_
      (try simp only [sl])
      refine takeN 12 49 rfl ?_
      (try simp only [sl])
      refine readyL (i := 10) (by kernel_rfl) rfl (fun K hK => ?_)
      go_simp
      refine (unhide CO _ _ _ k (unhide hh2) (unhide HK)).mono ?_
      rintro e w3 ⟨a3, m3, k3, rfl, cc3, hh3⟩
      (try dsimp only)
      refine hK.out _ _ (fun _ => cc3) ?_
      clear hK K
      (try simp only [sl])
      have hH30 := cc3; refine readyL (i := 13) (by kernel_rfl) rfl (fun K hK => ?_)
      go_simp
      refine (unhide CO2 _ _ _ k _ _ (unhide hh3).2 (unhide hh3).1).mono ?_
      rintro e w4 ⟨a4, m4, k4, rfl, cc4, hh4⟩
      (try dsimp only)
      refine hK.out _ _ (fun _ => cc4) ?_
      clear hK K
      (try simp only [sl])
      have hH32 := cc4; refine readyL (i := 14) (by kernel_rfl) rfl (fun K hK => ?_)
      go_simp
      refine (unhide CS _ _ _ _ _ _ (unhide hh4).2.2 (unhide hh4).2.1 (unhide hh4).1 (unhide HLE).1).mono ?_
      rintro e w5 ⟨rfl, cc5, hh5⟩
      (try dsimp only)
      refine hK.out _ _ (fun _ => cc5) ?_
      clear hK K
      (try simp only [sl])
      have hH34 := cc5; refine takeN 15 52 rfl ?_
      (try simp only [sl])
      refine takeN 16 53 rfl ?_
      (try simp only [sl])
      refine takeN 17 54 rfl ?_
      (try simp only [sl])
      refine takeN 18 55 rfl ?_
      (try simp only [sl])
      refine takeN 19 56 rfl ?_
      (try simp only [sl])
      refine takeN 21 58 rfl ?_
      (try simp only [sl])
      refine takeN 22 59 rfl ?_
      (try simp only [sl])
      refine readyL (i := 20) (by kernel_rfl) rfl (fun K hK => ?_)
      go_simp
      refine (unhide CI _ _ _ k (unhide hh5) (unhide HK)).mono ?_
      rintro e w6 ⟨a6, m6, k6, rfl, cc6, hh6⟩
      (try dsimp only)
      refine hK.out _ _ (fun _ => cc6) ?_
      clear hK K
      (try simp only [sl])
      have hH37 := cc6; refine readyL (i := 23) (by kernel_rfl) rfl (fun K hK => ?_)
      go_simp
      refine (unhide CI2 _ _ _ k _ _ (unhide hh6).2 (unhide hh6).1).mono ?_
      rintro e w7 ⟨a7, m7, k7, rfl, cc7, hh7⟩
      (try dsimp only)
      refine hK.out _ _ (fun _ => cc7) ?_
      clear hK K
      (try simp only [sl])
      have hH39 := cc7; refine readyL (i := 24) (by kernel_rfl) rfl (fun K hK => ?_)
      go_simp
      refine (unhide CS _ _ _ _ _ _ (unhide hh7).2.2 (unhide hh7).2.1 (unhide hh7).1 (unhide HLE).2).mono ?_
      rintro e w8' ⟨rfl, cc8, hh8⟩
      (try dsimp only)
      refine hK.out _ _ (fun _ => cc8) ?_
      clear hK K
      (try simp only [sl])
      have hH41 := cc8; refine takeN 25 62 rfl ?_
      (try simp only [sl])
      refine takeN 26 63 rfl ?_
      (try simp only [sl])
      refine doneL (by kernel_rfl) ?_ _
      refine NoPanic.normal ?_; clear cc1 cc2 cc3 cc4 cc5 cc6 cc7 cc8 hh1 hh2 hh3 hh4 hh5 hh6 hh7 HTD hcd CHk CHk2 hT
      go_wp2_with fail
      (try rw [unhide HWI])
      exact ⟨⟨i + 1, rfl, by omega, hh8⟩, by simp [intOf]; omega⟩
    · have hz : ¬ (i : Int) < (L8 : Int) := by omega
      clear HT8 CS CH CH2 CO CO2 CI CI2 HVR HL8
      go_upto_region 9 with fail
      have hTd : TFit w bb (.slice va vn vc) (.slice ea en ec) rd wr_0 (.slice a8 L8 k8) aks wr.drew := (unhide hT).step (Below.refl _ _).drew; have HTD := hide hTd; have hcd := hTd.cells; clear hTd; refine wp_region_noPanic ?_; refine regionL [] (fun y => (y.cell? ⟨bb, 0, none⟩ = some (.slice va vn vc) ∧ y.cell? ⟨bb, 1, none⟩ = some (.slice ea en ec) ∧ y.cell? ⟨bb, 2, none⟩ = some (.int .i64 rd) ∧ y.cell? ⟨bb, 3, none⟩ = some (.int .i64 wr_0))) (by kernel_rfl) hcd (fun hHeld => ?_)
      refine takeN 0 65 rfl ?_
      (try simp only [sl])
      refine takeN 2 67 rfl ?_
      (try simp only [sl])
      refine takeN 3 68 rfl ?_
      (try simp only [sl])
      refine readyL (i := 1) (by kernel_rfl) rfl (fun K hK => ?_)
      go_simp
      refine (unhide CR _ _ _ (unhide HTD)).mono ?_
      rintro e w1 ⟨rfl, cc1, hh1⟩
      (try dsimp only)
      refine hK.out _ _ (fun _ => cc1) ?_
      clear hK K
      (try simp only [sl])
      have hH47 := cc1; refine takeN 4 69 rfl ?_
      (try simp only [sl])
      refine takeN 5 70 rfl ?_
      (try simp only [sl])
      refine takeN 6 71 rfl ?_
      (try simp only [sl])
      refine takeN 8 73 rfl ?_
      (try simp only [sl])
      refine takeN 9 74 rfl ?_
      (try simp only [sl])
      refine readyL (i := 7) (by kernel_rfl) rfl (fun K hK => ?_)
      go_simp
      refine (unhide CW _ _ _ (unhide hh1)).mono ?_
      rintro e w2 ⟨rfl, cc2, hh2⟩
      (try dsimp only)
      refine hK.out _ _ (fun _ => cc2) ?_
      clear hK K
      (try simp only [sl])
      have hH50 := cc2; refine takeN 10 75 rfl ?_
      (try simp only [sl])
      refine takeN 11 76 rfl ?_
      (try simp only [sl])
      refine takeN 12 4 rfl ?_
      (try simp only [sl])
      refine doneL (by kernel_rfl) ?_ _
      refine NoPanic.normal ?_; have HB : Hid (Below w.heap.size w w2) := (unhide hh2).2.1; clear cc1 cc2 hh1 hh2 HTD hcd hT CR CW
      go_wp2_with fail
      go_ret
      exact ⟨rfl, unhide HB⟩
end Go.Proofs.YtagibmgbjhemkaaGreat
