/- The reference's PutEdge where it refuses. -/
import Derived.Test.YtagibmgbjhemkaaGreatStNew
import Derived.Test.YtagibmgbjhemkaaGreatRel7
import Derived.Test.YtagibmgbjhemkaaGreatRefAddE
import Derived.Test.YtagibmgbjhemkaaGreatRefPutM
namespace Go.Proofs.YtagibmgbjhemkaaGreat

section
open Go.RowKit Go.Maps
theorem pick8 (pk : Int) (m : Nat) (h : 0 < m) (h2 : m ≤ 1024) : ∃ l : Nat, wrap64 ((IntKind.u64.wrap pk).tmod (m : Int)) = (l : Int) ∧ l < m := by
  have h0 : 0 ≤ IntKind.u64.wrap pk := by unfold IntKind.wrap; simp [IntKind.signed, IntKind.bits]; omega
  rw [Int.tmod_eq_emod_of_nonneg h0]; have h3 : 0 ≤ IntKind.u64.wrap pk % (m : Int) := Int.emod_nonneg _ (by omega)
  have h4 : IntKind.u64.wrap pk % (m : Int) < (m : Int) := Int.emod_lt_of_pos _ (by omega)
  refine ⟨(IntKind.u64.wrap pk % (m : Int)).toNat, ?_, by omega⟩
  rw [Int.toNat_of_nonneg h3]; unfold wrap64; omega
theorem Recs.idx {es : List EdgeV} (h : Recs es) {i j : Nat} {a b : EdgeV} (hi : es[i]? = some a) (hj : es[j]? = some b) (e : a.1 = b.1) : i = j := by
  obtain ⟨hi1, hi2⟩ := List.getElem?_eq_some_iff.1 hi; obtain ⟨hj1, hj2⟩ := List.getElem?_eq_some_iff.1 hj; rcases Nat.lt_trichotomy i j with h' | h' | h'
  · have := List.pairwise_iff_getElem.1 h i j hi1 hj1 h'; rw [hi2, hj2] at this; omega
  · exact h'
  · have := List.pairwise_iff_getElem.1 h j i hj1 hi1 h'; rw [hi2, hj2] at this; omega
theorem RelG.lk {g : Gr} {vs : List Int} {es : List EdgeV} (h : RelG g vs es) {x : EdgeV} (hx : x ∈ es) : Go.Proofs.YtagibmgbjhemkaaGreat.lk g.ps x.1 = some x := by
  obtain ⟨i, hi⟩ := (h.mem x).1 hx; rw [(h.edge i x hi).1]; exact lk_yes hi
def WAns (ps : List (EdgeV × Bool)) (w : World) (from_ : Int) (v : Value) (w' : World) : Prop := ∃ l d, Way ps from_ l d ∧ l.length ≤ 60 ∧ BRow w.heap.size w' v l ∧ Below w.heap.size w w'
def WL (ps : List (EdgeV × Bool)) (wb : World) (from_ at_ : Int) (v : Value) (i : Nat) (W : World) : Prop := ∃ l d, Way ps from_ l d ∧ at_ = endOf from_ d ∧ l.length ≤ i ∧ BRow wb.heap.size W v l ∧ Below wb.heap.size wb W
set_option maxHeartbeats 2000000 in
set_option maxRecDepth 100000 in
theorem wanderS {w : World} {vv ev : Value} {rd wr0 : Int} {es : List EdgeV} {ps : List (EdgeV × Bool)} (from_ : Int) {pv : Value} {pks : List Int} (h : GRow 0 w ev es) (hl : es.length ≤ 1024) (hre : Recs es) (hk : ∀ x ∈ es, lk ps x.1 = some x) (hp : SRow w pv pks) :
    Calls Tryz.prog 20 #[.agg #[vv, ev, .int .i64 rd, .int .i64 wr0], .int .i64 from_, pv] w fun e w' => ∃ a n c, e = .returned (.slice a n c) ∧ Hid (WAns ps w from_ (.slice a n c) w') := by
  have hb := below_new w (oG vv ev rd wr0); have hs0 : (w.alloc (oG vv ev rd wr0)).heap.size = w.heap.size + 1 := by simp
  have HW : Hid (∀ W, Below (w.alloc (oG vv ev rd wr0)).heap.size (w.alloc (oG vv ev rd wr0)) W → (W.cell? ⟨w.heap.size, 0, none⟩ = some vv ∧ W.cell? ⟨w.heap.size, 1, none⟩ = some ev ∧ W.cell? ⟨w.heap.size, 2, none⟩ = some (.int .i64 rd) ∧ W.cell? ⟨w.heap.size, 3, none⟩ = some (.int .i64 wr0)) ∧ GRow 0 W ev es ∧ SRow W pv pks) := fun W hW => by
    obtain ⟨c0, c1, c2, c3, -⟩ := cellsG ((hW.block w.heap.size (by omega)).trans (heap_alloc_new w (oG vv ev rd wr0)))
    exact ⟨⟨c0, c1, c2, c3⟩, grow_below (grow_below h hb) hW, (hp.below hb).below hW⟩
  have HB : Hid (Below w.heap.size w (w.alloc (oG vv ev rd wr0)) ∧ (w.alloc (oG vv ev rd wr0)).heap.size = w.heap.size + 1) := ⟨hb, hs0⟩; obtain ⟨pa, pc, rfl, -⟩ := hp; obtain ⟨plen, hplen⟩ : ∃ plen, plen = pks.length := ⟨_, rfl⟩; have HPL := hide hplen; rw [← hplen]; obtain ⟨ea, en, ec, hev⟩ := grow_shape h; have HEN : Hid (en = es.length) := by
    rcases h.2 with ⟨e, h0⟩ | ⟨g, cap, cur, e, -⟩
    · rw [hev] at e; cases e; exact h0.symm
    · rw [hev] at e; cases e; rfl
  subst hev; have HL := hide hl; have HK := hide hk; have HRE := hide hre; clear h hb hl hk hs0 hplen hre
  go_enter Tryz.func20, Tryz.ntmps20
  go_upto_region 1 with fail
  change Code.wp _ _ _ _ (w.alloc (oG vv (.slice ea en ec) rd wr0)); obtain ⟨bb, hbb⟩ : ∃ bb, bb = w.heap.size := ⟨_, rfl⟩; have HBB := hide hbb; rw [← hbb]; rw [← hbb] at HW; clear hbb; generalize w.alloc (oG vv (.slice ea en ec) rd wr0) = wb at *
  go_wp2_with fail
  go_loopw [7, 8, 9] (fun sa st si wr => ∃ (i : Nat) (at_ : Int) (a : Option Addr) (n c : Nat), si = .int .i64 i ∧ st = .int .i64 at_ ∧ sa = .slice a n c ∧ i ≤ 60 ∧ i ≤ plen ∧ Hid (WL ps wb from_ at_ (.slice a n c) i wr)) (fun _ _ si _ => 60 - (intOf si).toNat)
  case atStart => exact ⟨0, from_, none, 0, 0, rfl, rfl, rfl, Nat.zero_le _, Nat.zero_le _, [], [], rfl, rfl, Nat.zero_le _, ⟨rfl, .inl ⟨rfl, rfl⟩⟩, Below.refl _ _⟩
  case round =>
    obtain ⟨i, at_, a, n, c, rfl, rfl, rfl, hi1, hi2, hS⟩ := hrel; have HEND : Hid (∀ W, WL ps wb from_ at_ (.slice a n c) i W → WAns ps w from_ (.slice a n c) W) := by
      rintro W ⟨l, d, h1, h2, h3, h4, h5⟩
      obtain ⟨q1, q2⟩ := unhide HB; exact ⟨l, d, h1, by omega, ⟨h4.1, h4.2.imp id (fun ⟨g, cap, cur, e, hb', r⟩ => ⟨g, cap, cur, e, by omega, r⟩)⟩, q1.trans (h5.mono (by omega))⟩
    by_cases hgo : i < plen ∧ i < 60
    · obtain ⟨g1, g2⟩ := hgo; have hz1 : (i : Int) < (plen : Int) := by omega
      have hz2 : (i : Int) < 60 := by omega
      obtain ⟨l, d, s1, s2, s3, s4, s5⟩ := unhide hS; obtain ⟨⟨c0, c1, c2, c3⟩, hg, -⟩ := unhide HW wr s5; have CO := hide (refOut (vv := vv) (rd := rd) (wr := wr0) at_ hg (by have := unhide HL; omega))
      have HST : Hid (WL ps wb from_ at_ (.slice a n c) i wr) := ⟨l, d, s1, s2, s3, s4, s5⟩; clear hS s1 s2 s3 s4 s5 hg
      go_wp2_with fail
      refine (unhide CO).mono ?_
      rintro r w1 ⟨v1, rfl, h1⟩
      obtain ⟨n1, b1⟩ := unhide h1; obtain ⟨oa, oc, hov, -⟩ := brow_shape n1; subst hov; obtain ⟨on, hon⟩ : ∃ on, on = (eOut es at_).length := ⟨_, rfl⟩; have HON := hide hon; rw [← hon]; obtain ⟨l, d, s1, s2, s3, s4, s5⟩ := unhide HST; have k4 : BRow wb.heap.size w1 (.slice a n c) l := brow_kept s4 (fun b e => b1.block b (s4.lt b e).2)
      have k5 : Below wb.heap.size wb w1 := s5.trans (b1.mono s5.size); have hS1 : WL ps wb from_ at_ (.slice a n c) i w1 := ⟨l, d, s1, s2, s3, k4, k5⟩
      by_cases h0 : on = 0
      · have hz : (on : Int) = 0 := by omega
        have HS1 := hide (unhide HEND w1 hS1); rw [h0]; clear HST s1 s2 s3 s4 s5 n1 b1 h1 CO c0 c1 c2 c3 hS1 hon hz h0 k4 k5
        go_wp2_with fail
        go_ret
        exact ⟨a, n, c, rfl, HS1⟩
      · have hz : ((on : Int) == 0) = false := by simp; omega
        have hz3 : ¬ (on : Int) = 0 := by omega
        have hu : IntKind.u64.wrap (on : Int) = (on : Int) := by
          have h1 := len_eOut es at_; have h2 := unhide HL; rw [← hon] at h1; unfold IntKind.wrap; simp [IntKind.signed, IntKind.bits]; omega
        obtain ⟨⟨e0, e1, e2, e3⟩, hg, hp⟩ := unhide HW w1 k5; obtain ⟨pk, hpk⟩ : ∃ pk, pks[i]? = some pk := ⟨_, List.getElem?_eq_getElem (by have := unhide HPL; omega)⟩
        obtain ⟨pa', pc', hpe, hpc⟩ := hp; injection hpe with hpe1 hpe2 hpe3
        subst hpe1; obtain ⟨pg, po, rfl, hcp⟩ := hpc i pk hpk; obtain ⟨k, hkz, hkl⟩ := pick8 pk on (by omega) (by have h1 := len_eOut es at_; have := unhide HL; omega)
        obtain ⟨ee, hee⟩ : ∃ ee, (eOut es at_)[k]? = some ee := ⟨_, List.getElem?_eq_getElem (by omega)⟩
        obtain ⟨og, rfl⟩ := brow_some n1 (by omega)
        have hce : w1.cell? ⟨og, k, none⟩ = some (.int .i64 ee) := brow_at n1 hee; have hkz2 : (k : Int) < (on : Int) := by omega
        -- the record of the edge that is picked
        obtain ⟨x, hxm, hxu, hxe⟩ : ∃ x ∈ es, x.2.1 = at_ ∧ x.1 = ee := by
          have hm := List.mem_of_getElem? hee; unfold eOut at hm; obtain ⟨x, hx1, hx2⟩ := List.mem_map.1 hm; obtain ⟨hx3, hx4⟩ := List.mem_filter.1 hx1; exact ⟨x, hx3, of_decide_eq_true hx4, hx2⟩
        have hlk : lk ps ee = some x := by rw [← hxe]; exact unhide HK x hxm
        obtain ⟨a', n', c', w2, hr, r1, r2, -⟩ := run_app8 ee k4 k5.size (by omega)
        have r5 : Below wb.heap.size wb w2 := k5.trans (r2.below k5.size (fun b e => (k4.lt b e).1))
        have HR := hide hr; obtain ⟨⟨f0, f1, f2, f3⟩, hg2, -⟩ := unhide HW w2 r5; obtain ⟨j, hj⟩ := List.mem_iff_getElem?.1 hxm; have hjl : j < en := by have := (List.getElem?_eq_some_iff.1 hj).1; have := unhide HEN; omega
        obtain ⟨eg, ec', heg, hec⟩ := grow_at hg2 (by have := unhide HEN; omega)
        injection heg with heg1 heg2 heg3
        subst heg1; obtain ⟨-, -, q3, -⟩ := hec j x hj; have CA : Hid (∀ W, Below w2.heap.size w2 W → Calls Tryz.prog 38 #[.agg #[vv, .slice (some ⟨eg, 0, none⟩) en ec, .int .i64 rd, .int .i64 wr0], .int .i64 ee] W fun e w' => e = .returned (.int .i64 (j : Int)) ∧ ((w'.cell? ⟨bb, 0, none⟩ = some vv ∧ w'.cell? ⟨bb, 1, none⟩ = some (.slice (some ⟨eg, 0, none⟩) en ec) ∧ w'.cell? ⟨bb, 2, none⟩ = some (.int .i64 rd) ∧ w'.cell? ⟨bb, 3, none⟩ = some (.int .i64 wr0)) ∧ w'.cell? ⟨eg, j * 4 + 2, none⟩ = some (.int .i64 x.2.2.1)) ∧ Hid (WL ps wb from_ x.2.2.1 (.slice a' n' c') (i + 1) w')) := fun W hbW => by
          have hgW := grow_below hg2 hbW; refine (refAt (vv := vv) (rd := rd) (wr := wr0) ee hgW (by have := unhide HL; omega)).mono ?_
          rintro e w' ⟨r, rfl, hh⟩
          obtain ⟨hat, hb'⟩ := unhide hh; have hb2 : Below w2.heap.size w2 w' := hbW.trans (hb'.mono hbW.size); have hb3 : Below wb.heap.size wb w' := r5.trans (hb2.mono r5.size); obtain ⟨cc, hg3, -⟩ := unhide HW w' hb3; obtain ⟨eg2, ec2, he2, hec2⟩ := grow_at hg3 (by have := unhide HEN; omega)
          injection he2 with he21 he22 he23
          injection he21 with he21
          injection he21 with he21
          rcases hat with ⟨i', y, rfl, hy1, hy2, hy3⟩ | ⟨-, hno⟩
          · have e1 : some y = some x := by
              have := unhide HK y (List.mem_of_getElem? hy1); rw [hy2, hlk] at this; exact this.symm
            injection e1 with e1
            subst e1; obtain rfl : i' = j := (unhide HRE).idx hy1 hj rfl; obtain ⟨-, -, q3', -⟩ := hec2 i' y hy1; exact ⟨rfl, ⟨cc, by rw [he21]; exact q3'⟩, l ++ [ee], d ++ [y], s1.snoc hlk (hxu.trans s2), (endOf_snoc _ _ _).symm, by simp; omega, brow_kept r1 (fun b e => hb2.block b (r1.lt b e).2), hb3⟩
          · exact absurd hxe (hno j x hj)
        have hjz : (j : Int) < (en : Int) := by omega
        have hwi : wrap64 ((i : Int) + 1) = ((i + 1 : Nat) : Int) := by unfold wrap64; omega
        have HWI := hide hwi; clear HST s1 s2 s3 s4 s5 n1 b1 h1 CO c0 c1 c2 c3 hS1 hon k4 k5 hr r1 r2 r5 hg hpc hpk hee hxm hlk hg2 hj hjl hec hxu hxe h0 hkl hwi; clear heg2 heg3 hpe2 hpe3
        go_upto_region 10 with fail
        clear hce hcp hkz hkz2 hz hz3 hu
        go_upto_region 11 with (at_builtin; refine Lib.wpList_append_run _ rfl _ _ 25 25 rfl _ _ rfl rfl _ _ (unhide HR _) ?_)
        clear HR e0 e1 e2 e3; refine wp_region_noPanic ?_; refine regionL [] (fun y => y.cell? ⟨bb, 0, none⟩ = some vv ∧ y.cell? ⟨bb, 1, none⟩ = some (.slice (some ⟨eg, 0, none⟩) en ec) ∧ y.cell? ⟨bb, 2, none⟩ = some (.int .i64 rd) ∧ y.cell? ⟨bb, 3, none⟩ = some (.int .i64 wr0) ∧ y.cell? ⟨eg, j * 4 + 2, none⟩ = some (.int .i64 x.2.2.1)) (by kernel_rfl) ⟨f0, f1, f2, f3, q3⟩ (fun hHeld => ?_)
        refine takeN 0 47 rfl ?_
        (try simp only [sl])
        refine takeN 1 48 rfl ?_
        (try simp only [sl])
        refine takeN 2 49 rfl ?_
        (try simp only [sl])
        refine takeN 3 50 rfl ?_
        (try simp only [sl])
        refine readyL (i := 4) (by kernel_rfl) rfl (fun K hK => ?_)
        go_simp
        refine (unhide CA _ (by exact (Below.refl _ _).drew)).mono ?_
        rintro e w4 ⟨rfl, ⟨⟨d0, d1, d2, d3⟩, hcx⟩, hw4⟩
        (try dsimp only)
        refine hK.out _ _ (fun _ => (And.intro d0 (And.intro d1 (And.intro d2 (And.intro d3 hcx))))) ?_
        clear hK K
        (try simp only [sl])
        have hH4 := (And.intro d0 (And.intro d1 (And.intro d2 (And.intro d3 hcx)))); refine takeN 5 52 rfl ?_
        (try simp only [sl])
        refine takeN 6 53 rfl ?_
        (try simp only [sl])
        refine takeN 7 54 rfl ?_
        (try simp only [sl])
        refine takeN 8 8 rfl ?_
        (try simp only [sl])
        refine doneL (by kernel_rfl) ?_ _
        refine NoPanic.normal ?_
        go_wp2_with fail
        (try rw [unhide HWI])
        exact ⟨⟨i + 1, x.2.2.1, a', n', c', rfl, rfl, rfl, by omega, by omega, hw4⟩, by simp [intOf]; omega⟩
    · have hgo2 : ¬ ((i : Int) < (plen : Int) ∧ (i : Int) < 60) := by omega
      have HS1 := hide (unhide HEND wr (unhide hS))
      by_cases hg1 : i < plen
      · have hz1 : (i : Int) < (plen : Int) := by omega
        have hz2 : ¬ (i : Int) < 60 := by omega
        clear hgo hgo2 hS
        go_wp2_with fail
        go_ret
        exact ⟨a, n, c, rfl, HS1⟩
      · have hz1 : ¬ (i : Int) < (plen : Int) := by omega
        clear hgo hgo2 hS
        go_wp2_with fail
        go_ret
        exact ⟨a, n, c, rfl, HS1⟩
end

section
open Go.RowKit Go.Maps
set_option maxHeartbeats 2000000 in
set_option maxRecDepth 100000 in
theorem refAddENoU {w : World} {vv ev : Value} {rd wr_0 : Int} {vs : List Int} {es : List EdgeV} (u v n : Int) (h : NRow w vv vs) (hE : GRow 0 w ev es) (hlv : vs.length ≤ 1000000) (hl : es.length ≤ 1000000) (hu : u ∉ vs) :
    Calls Tryz.prog 68 #[.agg #[vv, ev, .int .i64 rd, .int .i64 wr_0], .int .i64 u, .int .i64 v, .int .u32 n] w fun e w' => Hid (AnsGI w vv ev vs es rd wr_0 0 5 e w') := by
  have HF : Hid (∀ W, Below w.heap.size w W → NRow W vv vs ∧ GRow 0 W ev es) := fun W hW => ⟨nrow_below h hW, grow_below hE hW⟩
  have CH : Hid (∀ W, AFit w vv ev rd wr_0 W → ∀ k, Calls Tryz.prog 19 #[.agg #[vv, ev, .int .i64 rd, .int .i64 wr_0], .int .i64 k] W fun e w' => e = .returned (.bool (decide (k ∈ vs))) ∧ Hid (AFit w vv ev rd wr_0 w')) := fun W hW k => by
    refine (refHas k (nrow_below h hW.2.2.1) hlv).mono ?_
    rintro e w' ⟨rfl, g⟩
    exact ⟨rfl, hW.step g⟩
  have CA : Hid (∀ n W, Calls Tryz.prog 99 #[.int .u32 n] W fun e w' => e = .returned (ansK (kept n)) ∧ w' = W) := fun n W => refAdmit n W
  obtain ⟨va, vc, hvv, -⟩ := brow_shape h; obtain ⟨vn, hvv'⟩ : ∃ vn, vv = .slice va vn vc := ⟨_, hvv⟩; obtain ⟨ea, en, ec, hev⟩ := grow_shape hE; have CT : Hid (∀ W, AFit w vv ev rd wr_0 W → Calls Tryz.prog 58 #[.agg #[vv, ev, .int .i64 rd, .int .i64 wr_0]] W fun e w' => ∃ r, e = .returned (.int .i64 r) ∧ Hid (RFree es r ∧ AFit w vv ev rd wr_0 w')) := fun W hW => by
    refine (refFree (grow_below hE hW.2.2.1) hl ⟨_, _, _, hvv'⟩).mono ?_
    rintro e w' ⟨r, rfl, g⟩
    exact ⟨r, rfl, (unhide g).1, hW.step (unhide g).2⟩
  have HP := hide (afit_new w vv ev rd wr_0); clear h hE hvv hl hlv; subst hvv' hev
  go_enter Tryz.func68, Tryz.ntmps68
  go_upto_region 1 with fail
  change Code.wp _ _ _ _ ((w.alloc (oG (.slice va vn vc) (.slice ea en ec) rd wr_0)).alloc oZ); generalize (w.alloc (oG (.slice va vn vc) (.slice ea en ec) rd wr_0)).alloc oZ = wb at *; have n1 : ¬ w.heap.size = w.heap.size + 1 := by omega
  have n2 : ¬ w.heap.size + 1 = w.heap.size := by omega
  have HCwb := unhide HP; obtain ⟨c0, c1, c2, c3, cf⟩ := cellsG HCwb.1; obtain ⟨d0, d1, d2, d3, df⟩ := cellsG (vv := .slice none 0 0) (ev := .slice none 0 0) (rd := 0) (wr := 0) HCwb.2.1; clear HCwb
  go_wp2_with fail
  refine (unhide CH _ (unhide HP) _).mono ?_
  rintro e w2 ⟨rfl, H2⟩
  rw [decide_eq_false hu]; clear c0 c1 c2 c3 cf d0 d1 d2 d3 df; have HCw2 := unhide H2; obtain ⟨c0, c1, c2, c3, cf⟩ := cellsG HCw2.1; obtain ⟨d0, d1, d2, d3, df⟩ := cellsG (vv := .slice none 0 0) (ev := .slice none 0 0) (rd := 0) (wr := 0) HCw2.2.1; clear HCw2
  go_wp2_with fail
  (try simp only [Exit.inBlock, Exit.then])
  change bodyPost _ _ _ _ _ (set4 w2 (w.heap.size + 1) _ _ _ _); refine bodyPost_ret (results_cell_tmp_tmp rfl _ _ _ ⟨w.heap.size + 1, 0, none⟩ _ rfl (loadG _ _ _ _ _ _ (set4G_at (unhide H2).2.1 _ _ _ _))) rfl ?_; have hB := set4_below (unhide H2).2.2.1 (by omega : w.heap.size ≤ w.heap.size + 1) (.slice va vn vc) (.slice ea en ec) (.int .i64 rd) (.int .i64 wr_0)
  exact ⟨_, _, rfl, (unhide HF _ hB).1, (unhide HF _ hB).2, hB, Apt.refl _ _, Apt.refl _ _⟩
end

section
open Go.RowKit Go.Maps
set_option maxHeartbeats 2000000 in
set_option maxRecDepth 100000 in
theorem refAddENoV {w : World} {vv ev : Value} {rd wr_0 : Int} {vs : List Int} {es : List EdgeV} (u v n : Int) (h : NRow w vv vs) (hE : GRow 0 w ev es) (hlv : vs.length ≤ 1000000) (hl : es.length ≤ 1000000) (hu : u ∈ vs) (hv : v ∉ vs) :
    Calls Tryz.prog 68 #[.agg #[vv, ev, .int .i64 rd, .int .i64 wr_0], .int .i64 u, .int .i64 v, .int .u32 n] w fun e w' => Hid (AnsGI w vv ev vs es rd wr_0 0 5 e w') := by
  have HF : Hid (∀ W, Below w.heap.size w W → NRow W vv vs ∧ GRow 0 W ev es) := fun W hW => ⟨nrow_below h hW, grow_below hE hW⟩
  have CH : Hid (∀ W, AFit w vv ev rd wr_0 W → ∀ k, Calls Tryz.prog 19 #[.agg #[vv, ev, .int .i64 rd, .int .i64 wr_0], .int .i64 k] W fun e w' => e = .returned (.bool (decide (k ∈ vs))) ∧ Hid (AFit w vv ev rd wr_0 w')) := fun W hW k => by
    refine (refHas k (nrow_below h hW.2.2.1) hlv).mono ?_
    rintro e w' ⟨rfl, g⟩
    exact ⟨rfl, hW.step g⟩
  have CA : Hid (∀ n W, Calls Tryz.prog 99 #[.int .u32 n] W fun e w' => e = .returned (ansK (kept n)) ∧ w' = W) := fun n W => refAdmit n W
  obtain ⟨va, vc, hvv, -⟩ := brow_shape h; obtain ⟨vn, hvv'⟩ : ∃ vn, vv = .slice va vn vc := ⟨_, hvv⟩; obtain ⟨ea, en, ec, hev⟩ := grow_shape hE; have CT : Hid (∀ W, AFit w vv ev rd wr_0 W → Calls Tryz.prog 58 #[.agg #[vv, ev, .int .i64 rd, .int .i64 wr_0]] W fun e w' => ∃ r, e = .returned (.int .i64 r) ∧ Hid (RFree es r ∧ AFit w vv ev rd wr_0 w')) := fun W hW => by
    refine (refFree (grow_below hE hW.2.2.1) hl ⟨_, _, _, hvv'⟩).mono ?_
    rintro e w' ⟨r, rfl, g⟩
    exact ⟨r, rfl, (unhide g).1, hW.step (unhide g).2⟩
  have HP := hide (afit_new w vv ev rd wr_0); clear h hE hvv hl hlv; subst hvv' hev
  go_enter Tryz.func68, Tryz.ntmps68
  go_upto_region 1 with fail
  change Code.wp _ _ _ _ ((w.alloc (oG (.slice va vn vc) (.slice ea en ec) rd wr_0)).alloc oZ); generalize (w.alloc (oG (.slice va vn vc) (.slice ea en ec) rd wr_0)).alloc oZ = wb at *; have n1 : ¬ w.heap.size = w.heap.size + 1 := by omega
  have n2 : ¬ w.heap.size + 1 = w.heap.size := by omega
  have HCwb := unhide HP; obtain ⟨c0, c1, c2, c3, cf⟩ := cellsG HCwb.1; obtain ⟨d0, d1, d2, d3, df⟩ := cellsG (vv := .slice none 0 0) (ev := .slice none 0 0) (rd := 0) (wr := 0) HCwb.2.1; clear HCwb
  go_wp2_with fail
  refine (unhide CH _ (unhide HP) _).mono ?_
  rintro e w2 ⟨rfl, H2⟩
  rw [decide_eq_true hu]; clear c0 c1 c2 c3 cf d0 d1 d2 d3 df; have HCw2 := unhide H2; obtain ⟨c0, c1, c2, c3, cf⟩ := cellsG HCw2.1; obtain ⟨d0, d1, d2, d3, df⟩ := cellsG (vv := .slice none 0 0) (ev := .slice none 0 0) (rd := 0) (wr := 0) HCw2.2.1; clear HCw2
  go_wp2_with fail
  refine (unhide CH _ (unhide H2) _).mono ?_
  rintro e w3 ⟨rfl, H3⟩
  rw [decide_eq_false hv]; clear c0 c1 c2 c3 cf d0 d1 d2 d3 df; have HCw3 := unhide H3; obtain ⟨c0, c1, c2, c3, cf⟩ := cellsG HCw3.1; obtain ⟨d0, d1, d2, d3, df⟩ := cellsG (vv := .slice none 0 0) (ev := .slice none 0 0) (rd := 0) (wr := 0) HCw3.2.1; clear HCw3
  go_wp2_with fail
  (try simp only [Exit.inBlock, Exit.then])
  change bodyPost _ _ _ _ _ (set4 w3 (w.heap.size + 1) _ _ _ _); refine bodyPost_ret (results_cell_tmp_tmp rfl _ _ _ ⟨w.heap.size + 1, 0, none⟩ _ rfl (loadG _ _ _ _ _ _ (set4G_at (unhide H3).2.1 _ _ _ _))) rfl ?_; have hB := set4_below (unhide H3).2.2.1 (by omega : w.heap.size ≤ w.heap.size + 1) (.slice va vn vc) (.slice ea en ec) (.int .i64 rd) (.int .i64 wr_0)
  exact ⟨_, _, rfl, (unhide HF _ hB).1, (unhide HF _ hB).2, hB, Apt.refl _ _, Apt.refl _ _⟩
end

section
open Go.RowKit Go.Maps
set_option maxHeartbeats 2000000 in
set_option maxRecDepth 100000 in
theorem refAddEBad {w : World} {vv ev : Value} {rd wr_0 : Int} {vs : List Int} {es : List EdgeV} (u v n : Int) (h : NRow w vv vs) (hE : GRow 0 w ev es) (hlv : vs.length ≤ 1000000) (hl : es.length ≤ 1000000) (hu : u ∈ vs) (hv : v ∈ vs) (hk : kept n = none) :
    Calls Tryz.prog 68 #[.agg #[vv, ev, .int .i64 rd, .int .i64 wr_0], .int .i64 u, .int .i64 v, .int .u32 n] w fun e w' => Hid (AnsGI w vv ev vs es rd wr_0 0 7 e w') := by
  have HF : Hid (∀ W, Below w.heap.size w W → NRow W vv vs ∧ GRow 0 W ev es) := fun W hW => ⟨nrow_below h hW, grow_below hE hW⟩
  have CH : Hid (∀ W, AFit w vv ev rd wr_0 W → ∀ k, Calls Tryz.prog 19 #[.agg #[vv, ev, .int .i64 rd, .int .i64 wr_0], .int .i64 k] W fun e w' => e = .returned (.bool (decide (k ∈ vs))) ∧ Hid (AFit w vv ev rd wr_0 w')) := fun W hW k => by
    refine (refHas k (nrow_below h hW.2.2.1) hlv).mono ?_
    rintro e w' ⟨rfl, g⟩
    exact ⟨rfl, hW.step g⟩
  have CA : Hid (∀ n W, Calls Tryz.prog 99 #[.int .u32 n] W fun e w' => e = .returned (ansK (kept n)) ∧ w' = W) := fun n W => refAdmit n W
  obtain ⟨va, vc, hvv, -⟩ := brow_shape h; obtain ⟨vn, hvv'⟩ : ∃ vn, vv = .slice va vn vc := ⟨_, hvv⟩; obtain ⟨ea, en, ec, hev⟩ := grow_shape hE; have CT : Hid (∀ W, AFit w vv ev rd wr_0 W → Calls Tryz.prog 58 #[.agg #[vv, ev, .int .i64 rd, .int .i64 wr_0]] W fun e w' => ∃ r, e = .returned (.int .i64 r) ∧ Hid (RFree es r ∧ AFit w vv ev rd wr_0 w')) := fun W hW => by
    refine (refFree (grow_below hE hW.2.2.1) hl ⟨_, _, _, hvv'⟩).mono ?_
    rintro e w' ⟨r, rfl, g⟩
    exact ⟨r, rfl, (unhide g).1, hW.step (unhide g).2⟩
  have HP := hide (afit_new w vv ev rd wr_0); clear h hE hvv hl hlv; subst hvv' hev
  go_enter Tryz.func68, Tryz.ntmps68
  go_upto_region 1 with fail
  change Code.wp _ _ _ _ ((w.alloc (oG (.slice va vn vc) (.slice ea en ec) rd wr_0)).alloc oZ); generalize (w.alloc (oG (.slice va vn vc) (.slice ea en ec) rd wr_0)).alloc oZ = wb at *; have n1 : ¬ w.heap.size = w.heap.size + 1 := by omega
  have n2 : ¬ w.heap.size + 1 = w.heap.size := by omega
  have HCwb := unhide HP; obtain ⟨c0, c1, c2, c3, cf⟩ := cellsG HCwb.1; obtain ⟨d0, d1, d2, d3, df⟩ := cellsG (vv := .slice none 0 0) (ev := .slice none 0 0) (rd := 0) (wr := 0) HCwb.2.1; clear HCwb
  go_wp2_with fail
  refine (unhide CH _ (unhide HP) _).mono ?_
  rintro e w2 ⟨rfl, H2⟩
  rw [decide_eq_true hu]; clear c0 c1 c2 c3 cf d0 d1 d2 d3 df; have HCw2 := unhide H2; obtain ⟨c0, c1, c2, c3, cf⟩ := cellsG HCw2.1; obtain ⟨d0, d1, d2, d3, df⟩ := cellsG (vv := .slice none 0 0) (ev := .slice none 0 0) (rd := 0) (wr := 0) HCw2.2.1; clear HCw2
  go_wp2_with fail
  refine (unhide CH _ (unhide H2) _).mono ?_
  rintro e w3 ⟨rfl, H3⟩
  rw [decide_eq_true hv]; clear c0 c1 c2 c3 cf d0 d1 d2 d3 df; have HCw3 := unhide H3; obtain ⟨c0, c1, c2, c3, cf⟩ := cellsG HCw3.1; obtain ⟨d0, d1, d2, d3, df⟩ := cellsG (vv := .slice none 0 0) (ev := .slice none 0 0) (rd := 0) (wr := 0) HCw3.2.1; clear HCw3
  go_wp2_with fail
  refine (unhide CA _ _).mono ?_
  rintro e w4 ⟨rfl, rfl⟩
  rw [hk]; unfold ansK
  go_wp2_with fail
  (try simp only [Exit.inBlock, Exit.then])
  change bodyPost _ _ _ _ _ (set4 w4 (w.heap.size + 1) _ _ _ _); refine bodyPost_ret (results_cell_tmp_tmp rfl _ _ _ ⟨w.heap.size + 1, 0, none⟩ _ rfl (loadG _ _ _ _ _ _ (set4G_at (unhide H3).2.1 _ _ _ _))) rfl ?_; have hB := set4_below (unhide H3).2.2.1 (by omega : w.heap.size ≤ w.heap.size + 1) (.slice va vn vc) (.slice ea en ec) (.int .i64 rd) (.int .i64 wr_0)
  exact ⟨_, _, rfl, (unhide HF _ hB).1, (unhide HF _ hB).2, hB, Apt.refl _ _, Apt.refl _ _⟩
end

section
open Go.RowKit Go.Maps
set_option maxHeartbeats 2000000 in
set_option maxRecDepth 100000 in
theorem refAddEMany {w : World} {vv ev : Value} {rd wr_0 : Int} {vs : List Int} {es : List EdgeV} (u v n : Int) (h : NRow w vv vs) (hE : GRow 0 w ev es) (hlv : vs.length ≤ 1000000) (hl : es.length ≤ 1000000) (hu : u ∈ vs) (hv : v ∈ vs) {b : Int} (hk : kept n = some b) (ht : ∀ i : Nat, i < 1024 → HasNo es ((i : Int) + 1)) :
    Calls Tryz.prog 68 #[.agg #[vv, ev, .int .i64 rd, .int .i64 wr_0], .int .i64 u, .int .i64 v, .int .u32 n] w fun e w' => Hid (AnsGI w vv ev vs es rd wr_0 0 8 e w') := by
  have HF : Hid (∀ W, Below w.heap.size w W → NRow W vv vs ∧ GRow 0 W ev es) := fun W hW => ⟨nrow_below h hW, grow_below hE hW⟩
  have CH : Hid (∀ W, AFit w vv ev rd wr_0 W → ∀ k, Calls Tryz.prog 19 #[.agg #[vv, ev, .int .i64 rd, .int .i64 wr_0], .int .i64 k] W fun e w' => e = .returned (.bool (decide (k ∈ vs))) ∧ Hid (AFit w vv ev rd wr_0 w')) := fun W hW k => by
    refine (refHas k (nrow_below h hW.2.2.1) hlv).mono ?_
    rintro e w' ⟨rfl, g⟩
    exact ⟨rfl, hW.step g⟩
  have CA : Hid (∀ n W, Calls Tryz.prog 99 #[.int .u32 n] W fun e w' => e = .returned (ansK (kept n)) ∧ w' = W) := fun n W => refAdmit n W
  obtain ⟨va, vc, hvv, -⟩ := brow_shape h; obtain ⟨vn, hvv'⟩ : ∃ vn, vv = .slice va vn vc := ⟨_, hvv⟩; obtain ⟨ea, en, ec, hev⟩ := grow_shape hE; have CT : Hid (∀ W, AFit w vv ev rd wr_0 W → Calls Tryz.prog 58 #[.agg #[vv, ev, .int .i64 rd, .int .i64 wr_0]] W fun e w' => ∃ r, e = .returned (.int .i64 r) ∧ Hid (RFree es r ∧ AFit w vv ev rd wr_0 w')) := fun W hW => by
    refine (refFree (grow_below hE hW.2.2.1) hl ⟨_, _, _, hvv'⟩).mono ?_
    rintro e w' ⟨r, rfl, g⟩
    exact ⟨r, rfl, (unhide g).1, hW.step (unhide g).2⟩
  have HP := hide (afit_new w vv ev rd wr_0); clear h hE hvv hl hlv; subst hvv' hev
  go_enter Tryz.func68, Tryz.ntmps68
  go_upto_region 1 with fail
  change Code.wp _ _ _ _ ((w.alloc (oG (.slice va vn vc) (.slice ea en ec) rd wr_0)).alloc oZ); generalize (w.alloc (oG (.slice va vn vc) (.slice ea en ec) rd wr_0)).alloc oZ = wb at *; have n1 : ¬ w.heap.size = w.heap.size + 1 := by omega
  have n2 : ¬ w.heap.size + 1 = w.heap.size := by omega
  have HT := hide ht; clear ht; have HCwb := unhide HP; obtain ⟨c0, c1, c2, c3, cf⟩ := cellsG HCwb.1; obtain ⟨d0, d1, d2, d3, df⟩ := cellsG (vv := .slice none 0 0) (ev := .slice none 0 0) (rd := 0) (wr := 0) HCwb.2.1; clear HCwb
  go_wp2_with fail
  refine (unhide CH _ (unhide HP) _).mono ?_
  rintro e w2 ⟨rfl, H2⟩
  rw [decide_eq_true hu]; clear c0 c1 c2 c3 cf d0 d1 d2 d3 df; have HCw2 := unhide H2; obtain ⟨c0, c1, c2, c3, cf⟩ := cellsG HCw2.1; obtain ⟨d0, d1, d2, d3, df⟩ := cellsG (vv := .slice none 0 0) (ev := .slice none 0 0) (rd := 0) (wr := 0) HCw2.2.1; clear HCw2
  go_wp2_with fail
  refine (unhide CH _ (unhide H2) _).mono ?_
  rintro e w3 ⟨rfl, H3⟩
  rw [decide_eq_true hv]; clear c0 c1 c2 c3 cf d0 d1 d2 d3 df; have HCw3 := unhide H3; obtain ⟨c0, c1, c2, c3, cf⟩ := cellsG HCw3.1; obtain ⟨d0, d1, d2, d3, df⟩ := cellsG (vv := .slice none 0 0) (ev := .slice none 0 0) (rd := 0) (wr := 0) HCw3.2.1; clear HCw3
  go_wp2_with fail
  refine (unhide CA _ _).mono ?_
  rintro e w4 ⟨rfl, rfl⟩
  rw [hk]; unfold ansK
  go_wp2_with fail
  refine (unhide CT _ (unhide H3)).mono ?_
  rintro e w5 ⟨r, rfl, H5'⟩
  have hr : r = 0 := by
    rcases (unhide H5').1 with ⟨j, hj, -, -, h⟩ | ⟨h, -⟩
    · exact absurd (unhide HT j hj) h
    · exact h
  subst hr; have H5 := hide (unhide H5').2; clear H5'; clear c0 c1 c2 c3 cf d0 d1 d2 d3 df; have HCw5 := unhide H5; obtain ⟨c0, c1, c2, c3, cf⟩ := cellsG HCw5.1; obtain ⟨d0, d1, d2, d3, df⟩ := cellsG (vv := .slice none 0 0) (ev := .slice none 0 0) (rd := 0) (wr := 0) HCw5.2.1; clear HCw5
  go_wp2_with fail
  (try simp only [Exit.inBlock, Exit.then])
  change bodyPost _ _ _ _ _ (set4 w5 (w.heap.size + 1) _ _ _ _); refine bodyPost_ret (results_cell_tmp_tmp rfl _ _ _ ⟨w.heap.size + 1, 0, none⟩ _ rfl (loadG _ _ _ _ _ _ (set4G_at (unhide H5).2.1 _ _ _ _))) rfl ?_; have hB := set4_below (unhide H5).2.2.1 (by omega : w.heap.size ≤ w.heap.size + 1) (.slice va vn vc) (.slice ea en ec) (.int .i64 rd) (.int .i64 wr_0)
  exact ⟨_, _, rfl, (unhide HF _ hB).1, (unhide HF _ hB).2, hB, Apt.refl _ _, Apt.refl _ _⟩
end

section
open Go.RowKit Go.Maps
set_option maxHeartbeats 2000000 in
set_option maxRecDepth 100000 in
theorem refPutERange {w : World} {vv ev : Value} {rd wr_0 : Int} {vs : List Int} {es : List EdgeV} (x : EdgeV) (h : NRow w vv vs) (hE : GRow 0 w ev es) (hlv : vs.length ≤ 1000000) (hl : es.length ≤ 1000000) (hx : x.1 < 1 ∨ 1024 < x.1) :
    Calls Tryz.prog 69 #[.agg #[vv, ev, .int .i64 rd, .int .i64 wr_0], .agg #[.int .i64 x.1, .int .i64 x.2.1, .int .i64 x.2.2.1, .int .u32 x.2.2.2]] w fun e w' => Hid (AnsG w vv ev vs es rd wr_0 1 e w') := by
  have HF : Hid (∀ W, Below w.heap.size w W → NRow W vv vs ∧ GRow 0 W ev es) := fun W hW => ⟨nrow_below h hW, grow_below hE hW⟩
  have CH : Hid (∀ W, PFit w vv ev rd wr_0 x W → ∀ k, Calls Tryz.prog 19 #[.agg #[vv, ev, .int .i64 rd, .int .i64 wr_0], .int .i64 k] W fun e w' => e = .returned (.bool (decide (k ∈ vs))) ∧ Hid (PFit w vv ev rd wr_0 x w')) := fun W hW k => by
    refine (refHas k (nrow_below h hW.2.2.2.1) hlv).mono ?_
    rintro e w' ⟨rfl, g⟩
    exact ⟨rfl, hW.step g⟩
  have CT : Hid (∀ W, PFit w vv ev rd wr_0 x W → ∀ k, HasNo es k → Calls Tryz.prog 38 #[.agg #[vv, ev, .int .i64 rd, .int .i64 wr_0], .int .i64 k] W fun e w' => ∃ i : Nat, e = .returned (.int .i64 (i : Int)) ∧ Hid (PFit w vv ev rd wr_0 x w')) := fun W hW k hk => by
    refine (refAt k (grow_below hE hW.2.2.2.1) hl).mono ?_
    rintro e w' ⟨r, rfl, g⟩
    obtain ⟨g1, g2⟩ := unhide g; rcases g1 with ⟨i, a, rfl, -, -⟩ | ⟨-, h1⟩
    · exact ⟨i, rfl, hW.step g2⟩
    · obtain ⟨j, b, hb, e⟩ := hk; exact absurd e (h1 j b hb)
  have CA : Hid (∀ n W, Calls Tryz.prog 99 #[.int .u32 n] W fun e w' => e = .returned (ansK (kept n)) ∧ w' = W) := fun n W => refAdmit n W
  obtain ⟨va, vc, hvv, -⟩ := brow_shape h; obtain ⟨vn, hvv'⟩ : ∃ vn, vv = .slice va vn vc := ⟨_, hvv⟩; obtain ⟨ea, en, ec, hev⟩ := grow_shape hE; have HP := hide (pfit_new w vv ev rd wr_0 x); clear h hE hvv hl hlv; subst hvv' hev
  go_enter Tryz.func69, Tryz.ntmps69
  go_upto_region 1 with fail
  change Code.wp _ _ _ _ (((w.alloc (oG (.slice va vn vc) (.slice ea en ec) rd wr_0)).alloc (oX x)).alloc oZ); generalize ((w.alloc (oG (.slice va vn vc) (.slice ea en ec) rd wr_0)).alloc (oX x)).alloc oZ = wb at *; have HZ : Hid (∃ b1 b2, b1 = w.heap.size + 1 ∧ b2 = w.heap.size + 2) := ⟨_, _, rfl, rfl⟩; have n1 : ¬ w.heap.size = w.heap.size + 1 := by omega
  have n2 : ¬ w.heap.size + 1 = w.heap.size := by omega
  have n3 : ¬ w.heap.size = w.heap.size + 2 := by omega
  have n4 : ¬ w.heap.size + 2 = w.heap.size := by omega
  have n5 : ¬ w.heap.size + 1 = w.heap.size + 2 := by omega
  have n6 : ¬ w.heap.size + 2 = w.heap.size + 1 := by omega
  clear HZ; have HCwb := unhide HP; obtain ⟨c0, c1, c2, c3, cf⟩ := cellsG HCwb.1; obtain ⟨x0, x1, x2, x3, xf⟩ := cellsX HCwb.2.1; obtain ⟨d0, d1, d2, d3, df⟩ := cellsG (vv := .slice none 0 0) (ev := .slice none 0 0) (rd := 0) (wr := 0) HCwb.2.2.1; clear HCwb
  by_cases hx1 : x.1 < 1
  · go_wp2_with fail
    (try simp only [Exit.inBlock, Exit.then])
    change bodyPost _ _ _ _ _ (set4 wb (w.heap.size + 2) _ _ _ _); refine bodyPost_ret (resG rfl _ _ (w.heap.size + 2) _ _ _ _ rfl (set4G_at (unhide HP).2.2.1 _ _ _ _)) rfl ?_; have hB := set4_below (unhide HP).2.2.2.1 (by omega : w.heap.size ≤ w.heap.size + 2) (.slice va vn vc) (.slice ea en ec) (.int .i64 rd) (.int .i64 wr_0)
    exact ⟨_, _, rfl, (unhide HF _ hB).1, (unhide HF _ hB).2, hB, Apt.refl _ _, Apt.refl _ _⟩
  · have hx2 : 1024 < x.1 := by omega
    go_wp2_with fail
    (try simp only [Exit.inBlock, Exit.then])
    change bodyPost _ _ _ _ _ (set4 wb (w.heap.size + 2) _ _ _ _); refine bodyPost_ret (resG rfl _ _ (w.heap.size + 2) _ _ _ _ rfl (set4G_at (unhide HP).2.2.1 _ _ _ _)) rfl ?_; have hB := set4_below (unhide HP).2.2.2.1 (by omega : w.heap.size ≤ w.heap.size + 2) (.slice va vn vc) (.slice ea en ec) (.int .i64 rd) (.int .i64 wr_0)
    exact ⟨_, _, rfl, (unhide HF _ hB).1, (unhide HF _ hB).2, hB, Apt.refl _ _, Apt.refl _ _⟩
end

section
open Go.RowKit Go.Maps
set_option maxHeartbeats 2000000 in
set_option maxRecDepth 100000 in
theorem refPutENoU {w : World} {vv ev : Value} {rd wr_0 : Int} {vs : List Int} {es : List EdgeV} (x : EdgeV) (h : NRow w vv vs) (hE : GRow 0 w ev es) (hlv : vs.length ≤ 1000000) (hl : es.length ≤ 1000000) (hx1 : ¬ x.1 < 1) (hx2 : ¬ 1024 < x.1) (hu : x.2.1 ∉ vs) :
    Calls Tryz.prog 69 #[.agg #[vv, ev, .int .i64 rd, .int .i64 wr_0], .agg #[.int .i64 x.1, .int .i64 x.2.1, .int .i64 x.2.2.1, .int .u32 x.2.2.2]] w fun e w' => Hid (AnsG w vv ev vs es rd wr_0 5 e w') := by
  have HF : Hid (∀ W, Below w.heap.size w W → NRow W vv vs ∧ GRow 0 W ev es) := fun W hW => ⟨nrow_below h hW, grow_below hE hW⟩
  have CH : Hid (∀ W, PFit w vv ev rd wr_0 x W → ∀ k, Calls Tryz.prog 19 #[.agg #[vv, ev, .int .i64 rd, .int .i64 wr_0], .int .i64 k] W fun e w' => e = .returned (.bool (decide (k ∈ vs))) ∧ Hid (PFit w vv ev rd wr_0 x w')) := fun W hW k => by
    refine (refHas k (nrow_below h hW.2.2.2.1) hlv).mono ?_
    rintro e w' ⟨rfl, g⟩
    exact ⟨rfl, hW.step g⟩
  have CT : Hid (∀ W, PFit w vv ev rd wr_0 x W → ∀ k, HasNo es k → Calls Tryz.prog 38 #[.agg #[vv, ev, .int .i64 rd, .int .i64 wr_0], .int .i64 k] W fun e w' => ∃ i : Nat, e = .returned (.int .i64 (i : Int)) ∧ Hid (PFit w vv ev rd wr_0 x w')) := fun W hW k hk => by
    refine (refAt k (grow_below hE hW.2.2.2.1) hl).mono ?_
    rintro e w' ⟨r, rfl, g⟩
    obtain ⟨g1, g2⟩ := unhide g; rcases g1 with ⟨i, a, rfl, -, -⟩ | ⟨-, h1⟩
    · exact ⟨i, rfl, hW.step g2⟩
    · obtain ⟨j, b, hb, e⟩ := hk; exact absurd e (h1 j b hb)
  have CA : Hid (∀ n W, Calls Tryz.prog 99 #[.int .u32 n] W fun e w' => e = .returned (ansK (kept n)) ∧ w' = W) := fun n W => refAdmit n W
  obtain ⟨va, vc, hvv, -⟩ := brow_shape h; obtain ⟨vn, hvv'⟩ : ∃ vn, vv = .slice va vn vc := ⟨_, hvv⟩; obtain ⟨ea, en, ec, hev⟩ := grow_shape hE; have HP := hide (pfit_new w vv ev rd wr_0 x); clear h hE hvv hl hlv; subst hvv' hev
  go_enter Tryz.func69, Tryz.ntmps69
  go_upto_region 1 with fail
  change Code.wp _ _ _ _ (((w.alloc (oG (.slice va vn vc) (.slice ea en ec) rd wr_0)).alloc (oX x)).alloc oZ); generalize ((w.alloc (oG (.slice va vn vc) (.slice ea en ec) rd wr_0)).alloc (oX x)).alloc oZ = wb at *; have HZ : Hid (∃ b1 b2, b1 = w.heap.size + 1 ∧ b2 = w.heap.size + 2) := ⟨_, _, rfl, rfl⟩; have n1 : ¬ w.heap.size = w.heap.size + 1 := by omega
  have n2 : ¬ w.heap.size + 1 = w.heap.size := by omega
  have n3 : ¬ w.heap.size = w.heap.size + 2 := by omega
  have n4 : ¬ w.heap.size + 2 = w.heap.size := by omega
  have n5 : ¬ w.heap.size + 1 = w.heap.size + 2 := by omega
  have n6 : ¬ w.heap.size + 2 = w.heap.size + 1 := by omega
  clear HZ; have HCwb := unhide HP; obtain ⟨c0, c1, c2, c3, cf⟩ := cellsG HCwb.1; obtain ⟨x0, x1, x2, x3, xf⟩ := cellsX HCwb.2.1; obtain ⟨d0, d1, d2, d3, df⟩ := cellsG (vv := .slice none 0 0) (ev := .slice none 0 0) (rd := 0) (wr := 0) HCwb.2.2.1; clear HCwb
  go_wp2_with fail
  refine (unhide CH _ (unhide HP) _).mono ?_
  rintro e w2 ⟨rfl, H2⟩
  rw [decide_eq_false hu]; clear c0 c1 c2 c3 cf x0 x1 x2 x3 xf d0 d1 d2 d3 df; have HCw2 := unhide H2; obtain ⟨c0, c1, c2, c3, cf⟩ := cellsG HCw2.1; obtain ⟨x0, x1, x2, x3, xf⟩ := cellsX HCw2.2.1; obtain ⟨d0, d1, d2, d3, df⟩ := cellsG (vv := .slice none 0 0) (ev := .slice none 0 0) (rd := 0) (wr := 0) HCw2.2.2.1; clear HCw2
  go_wp2_with fail
  (try simp only [Exit.inBlock, Exit.then])
  change bodyPost _ _ _ _ _ (set4 w2 (w.heap.size + 2) _ _ _ _); refine bodyPost_ret (resG rfl _ _ (w.heap.size + 2) _ _ _ _ rfl (set4G_at (unhide H2).2.2.1 _ _ _ _)) rfl ?_; have hB := set4_below (unhide H2).2.2.2.1 (by omega : w.heap.size ≤ w.heap.size + 2) (.slice va vn vc) (.slice ea en ec) (.int .i64 rd) (.int .i64 wr_0)
  exact ⟨_, _, rfl, (unhide HF _ hB).1, (unhide HF _ hB).2, hB, Apt.refl _ _, Apt.refl _ _⟩
end

section
open Go.RowKit Go.Maps
set_option maxHeartbeats 2000000 in
set_option maxRecDepth 100000 in
theorem refPutENoV {w : World} {vv ev : Value} {rd wr_0 : Int} {vs : List Int} {es : List EdgeV} (x : EdgeV) (h : NRow w vv vs) (hE : GRow 0 w ev es) (hlv : vs.length ≤ 1000000) (hl : es.length ≤ 1000000) (hx1 : ¬ x.1 < 1) (hx2 : ¬ 1024 < x.1) (hu : x.2.1 ∈ vs) (hv : x.2.2.1 ∉ vs) :
    Calls Tryz.prog 69 #[.agg #[vv, ev, .int .i64 rd, .int .i64 wr_0], .agg #[.int .i64 x.1, .int .i64 x.2.1, .int .i64 x.2.2.1, .int .u32 x.2.2.2]] w fun e w' => Hid (AnsG w vv ev vs es rd wr_0 5 e w') := by
  have HF : Hid (∀ W, Below w.heap.size w W → NRow W vv vs ∧ GRow 0 W ev es) := fun W hW => ⟨nrow_below h hW, grow_below hE hW⟩
  have CH : Hid (∀ W, PFit w vv ev rd wr_0 x W → ∀ k, Calls Tryz.prog 19 #[.agg #[vv, ev, .int .i64 rd, .int .i64 wr_0], .int .i64 k] W fun e w' => e = .returned (.bool (decide (k ∈ vs))) ∧ Hid (PFit w vv ev rd wr_0 x w')) := fun W hW k => by
    refine (refHas k (nrow_below h hW.2.2.2.1) hlv).mono ?_
    rintro e w' ⟨rfl, g⟩
    exact ⟨rfl, hW.step g⟩
  have CT : Hid (∀ W, PFit w vv ev rd wr_0 x W → ∀ k, HasNo es k → Calls Tryz.prog 38 #[.agg #[vv, ev, .int .i64 rd, .int .i64 wr_0], .int .i64 k] W fun e w' => ∃ i : Nat, e = .returned (.int .i64 (i : Int)) ∧ Hid (PFit w vv ev rd wr_0 x w')) := fun W hW k hk => by
    refine (refAt k (grow_below hE hW.2.2.2.1) hl).mono ?_
    rintro e w' ⟨r, rfl, g⟩
    obtain ⟨g1, g2⟩ := unhide g; rcases g1 with ⟨i, a, rfl, -, -⟩ | ⟨-, h1⟩
    · exact ⟨i, rfl, hW.step g2⟩
    · obtain ⟨j, b, hb, e⟩ := hk; exact absurd e (h1 j b hb)
  have CA : Hid (∀ n W, Calls Tryz.prog 99 #[.int .u32 n] W fun e w' => e = .returned (ansK (kept n)) ∧ w' = W) := fun n W => refAdmit n W
  obtain ⟨va, vc, hvv, -⟩ := brow_shape h; obtain ⟨vn, hvv'⟩ : ∃ vn, vv = .slice va vn vc := ⟨_, hvv⟩; obtain ⟨ea, en, ec, hev⟩ := grow_shape hE; have HP := hide (pfit_new w vv ev rd wr_0 x); clear h hE hvv hl hlv; subst hvv' hev
  go_enter Tryz.func69, Tryz.ntmps69
  go_upto_region 1 with fail
  change Code.wp _ _ _ _ (((w.alloc (oG (.slice va vn vc) (.slice ea en ec) rd wr_0)).alloc (oX x)).alloc oZ); generalize ((w.alloc (oG (.slice va vn vc) (.slice ea en ec) rd wr_0)).alloc (oX x)).alloc oZ = wb at *; have HZ : Hid (∃ b1 b2, b1 = w.heap.size + 1 ∧ b2 = w.heap.size + 2) := ⟨_, _, rfl, rfl⟩; have n1 : ¬ w.heap.size = w.heap.size + 1 := by omega
  have n2 : ¬ w.heap.size + 1 = w.heap.size := by omega
  have n3 : ¬ w.heap.size = w.heap.size + 2 := by omega
  have n4 : ¬ w.heap.size + 2 = w.heap.size := by omega
  have n5 : ¬ w.heap.size + 1 = w.heap.size + 2 := by omega
  have n6 : ¬ w.heap.size + 2 = w.heap.size + 1 := by omega
  clear HZ; have HCwb := unhide HP; obtain ⟨c0, c1, c2, c3, cf⟩ := cellsG HCwb.1; obtain ⟨x0, x1, x2, x3, xf⟩ := cellsX HCwb.2.1; obtain ⟨d0, d1, d2, d3, df⟩ := cellsG (vv := .slice none 0 0) (ev := .slice none 0 0) (rd := 0) (wr := 0) HCwb.2.2.1; clear HCwb
  go_wp2_with fail
  refine (unhide CH _ (unhide HP) _).mono ?_
  rintro e w2 ⟨rfl, H2⟩
  rw [decide_eq_true hu]; clear c0 c1 c2 c3 cf x0 x1 x2 x3 xf d0 d1 d2 d3 df; have HCw2 := unhide H2; obtain ⟨c0, c1, c2, c3, cf⟩ := cellsG HCw2.1; obtain ⟨x0, x1, x2, x3, xf⟩ := cellsX HCw2.2.1; obtain ⟨d0, d1, d2, d3, df⟩ := cellsG (vv := .slice none 0 0) (ev := .slice none 0 0) (rd := 0) (wr := 0) HCw2.2.2.1; clear HCw2
  go_wp2_with fail
  refine (unhide CH _ (unhide H2) _).mono ?_
  rintro e w3 ⟨rfl, H3⟩
  rw [decide_eq_false hv]; clear c0 c1 c2 c3 cf x0 x1 x2 x3 xf d0 d1 d2 d3 df; have HCw3 := unhide H3; obtain ⟨c0, c1, c2, c3, cf⟩ := cellsG HCw3.1; obtain ⟨x0, x1, x2, x3, xf⟩ := cellsX HCw3.2.1; obtain ⟨d0, d1, d2, d3, df⟩ := cellsG (vv := .slice none 0 0) (ev := .slice none 0 0) (rd := 0) (wr := 0) HCw3.2.2.1; clear HCw3
  go_wp2_with fail
  (try simp only [Exit.inBlock, Exit.then])
  change bodyPost _ _ _ _ _ (set4 w3 (w.heap.size + 2) _ _ _ _); refine bodyPost_ret (resG rfl _ _ (w.heap.size + 2) _ _ _ _ rfl (set4G_at (unhide H3).2.2.1 _ _ _ _)) rfl ?_; have hB := set4_below (unhide H3).2.2.2.1 (by omega : w.heap.size ≤ w.heap.size + 2) (.slice va vn vc) (.slice ea en ec) (.int .i64 rd) (.int .i64 wr_0)
  exact ⟨_, _, rfl, (unhide HF _ hB).1, (unhide HF _ hB).2, hB, Apt.refl _ _, Apt.refl _ _⟩
end

section
open Go.RowKit Go.Maps
set_option maxHeartbeats 2000000 in
set_option maxRecDepth 100000 in
theorem refPutEBad {w : World} {vv ev : Value} {rd wr_0 : Int} {vs : List Int} {es : List EdgeV} (x : EdgeV) (h : NRow w vv vs) (hE : GRow 0 w ev es) (hlv : vs.length ≤ 1000000) (hl : es.length ≤ 1000000) (hx1 : ¬ x.1 < 1) (hx2 : ¬ 1024 < x.1) (hu : x.2.1 ∈ vs) (hv : x.2.2.1 ∈ vs) (hk : kept x.2.2.2 = none) :
    Calls Tryz.prog 69 #[.agg #[vv, ev, .int .i64 rd, .int .i64 wr_0], .agg #[.int .i64 x.1, .int .i64 x.2.1, .int .i64 x.2.2.1, .int .u32 x.2.2.2]] w fun e w' => Hid (AnsG w vv ev vs es rd wr_0 7 e w') := by
  have HF : Hid (∀ W, Below w.heap.size w W → NRow W vv vs ∧ GRow 0 W ev es) := fun W hW => ⟨nrow_below h hW, grow_below hE hW⟩
  have CH : Hid (∀ W, PFit w vv ev rd wr_0 x W → ∀ k, Calls Tryz.prog 19 #[.agg #[vv, ev, .int .i64 rd, .int .i64 wr_0], .int .i64 k] W fun e w' => e = .returned (.bool (decide (k ∈ vs))) ∧ Hid (PFit w vv ev rd wr_0 x w')) := fun W hW k => by
    refine (refHas k (nrow_below h hW.2.2.2.1) hlv).mono ?_
    rintro e w' ⟨rfl, g⟩
    exact ⟨rfl, hW.step g⟩
  have CT : Hid (∀ W, PFit w vv ev rd wr_0 x W → ∀ k, HasNo es k → Calls Tryz.prog 38 #[.agg #[vv, ev, .int .i64 rd, .int .i64 wr_0], .int .i64 k] W fun e w' => ∃ i : Nat, e = .returned (.int .i64 (i : Int)) ∧ Hid (PFit w vv ev rd wr_0 x w')) := fun W hW k hk => by
    refine (refAt k (grow_below hE hW.2.2.2.1) hl).mono ?_
    rintro e w' ⟨r, rfl, g⟩
    obtain ⟨g1, g2⟩ := unhide g; rcases g1 with ⟨i, a, rfl, -, -⟩ | ⟨-, h1⟩
    · exact ⟨i, rfl, hW.step g2⟩
    · obtain ⟨j, b, hb, e⟩ := hk; exact absurd e (h1 j b hb)
  have CA : Hid (∀ n W, Calls Tryz.prog 99 #[.int .u32 n] W fun e w' => e = .returned (ansK (kept n)) ∧ w' = W) := fun n W => refAdmit n W
  obtain ⟨va, vc, hvv, -⟩ := brow_shape h; obtain ⟨vn, hvv'⟩ : ∃ vn, vv = .slice va vn vc := ⟨_, hvv⟩; obtain ⟨ea, en, ec, hev⟩ := grow_shape hE; have HP := hide (pfit_new w vv ev rd wr_0 x); clear h hE hvv hl hlv; subst hvv' hev
  go_enter Tryz.func69, Tryz.ntmps69
  go_upto_region 1 with fail
  change Code.wp _ _ _ _ (((w.alloc (oG (.slice va vn vc) (.slice ea en ec) rd wr_0)).alloc (oX x)).alloc oZ); generalize ((w.alloc (oG (.slice va vn vc) (.slice ea en ec) rd wr_0)).alloc (oX x)).alloc oZ = wb at *; have HZ : Hid (∃ b1 b2, b1 = w.heap.size + 1 ∧ b2 = w.heap.size + 2) := ⟨_, _, rfl, rfl⟩; have n1 : ¬ w.heap.size = w.heap.size + 1 := by omega
  have n2 : ¬ w.heap.size + 1 = w.heap.size := by omega
  have n3 : ¬ w.heap.size = w.heap.size + 2 := by omega
  have n4 : ¬ w.heap.size + 2 = w.heap.size := by omega
  have n5 : ¬ w.heap.size + 1 = w.heap.size + 2 := by omega
  have n6 : ¬ w.heap.size + 2 = w.heap.size + 1 := by omega
  clear HZ; have HCwb := unhide HP; obtain ⟨c0, c1, c2, c3, cf⟩ := cellsG HCwb.1; obtain ⟨x0, x1, x2, x3, xf⟩ := cellsX HCwb.2.1; obtain ⟨d0, d1, d2, d3, df⟩ := cellsG (vv := .slice none 0 0) (ev := .slice none 0 0) (rd := 0) (wr := 0) HCwb.2.2.1; clear HCwb
  go_wp2_with fail
  refine (unhide CH _ (unhide HP) _).mono ?_
  rintro e w2 ⟨rfl, H2⟩
  rw [decide_eq_true hu]; clear c0 c1 c2 c3 cf x0 x1 x2 x3 xf d0 d1 d2 d3 df; have HCw2 := unhide H2; obtain ⟨c0, c1, c2, c3, cf⟩ := cellsG HCw2.1; obtain ⟨x0, x1, x2, x3, xf⟩ := cellsX HCw2.2.1; obtain ⟨d0, d1, d2, d3, df⟩ := cellsG (vv := .slice none 0 0) (ev := .slice none 0 0) (rd := 0) (wr := 0) HCw2.2.2.1; clear HCw2
  go_wp2_with fail
  refine (unhide CH _ (unhide H2) _).mono ?_
  rintro e w3 ⟨rfl, H3⟩
  rw [decide_eq_true hv]; clear c0 c1 c2 c3 cf x0 x1 x2 x3 xf d0 d1 d2 d3 df; have HCw3 := unhide H3; obtain ⟨c0, c1, c2, c3, cf⟩ := cellsG HCw3.1; obtain ⟨x0, x1, x2, x3, xf⟩ := cellsX HCw3.2.1; obtain ⟨d0, d1, d2, d3, df⟩ := cellsG (vv := .slice none 0 0) (ev := .slice none 0 0) (rd := 0) (wr := 0) HCw3.2.2.1; clear HCw3
  go_wp2_with fail
  refine (unhide CA _ _).mono ?_
  rintro e w4 ⟨rfl, rfl⟩
  rw [hk]; unfold ansK
  go_wp2_with fail
  (try simp only [Exit.inBlock, Exit.then])
  change bodyPost _ _ _ _ _ (set4 w4 (w.heap.size + 2) _ _ _ _); refine bodyPost_ret (resG rfl _ _ (w.heap.size + 2) _ _ _ _ rfl (set4G_at (unhide H3).2.2.1 _ _ _ _)) rfl ?_; have hB := set4_below (unhide H3).2.2.2.1 (by omega : w.heap.size ≤ w.heap.size + 2) (.slice va vn vc) (.slice ea en ec) (.int .i64 rd) (.int .i64 wr_0)
  exact ⟨_, _, rfl, (unhide HF _ hB).1, (unhide HF _ hB).2, hB, Apt.refl _ _, Apt.refl _ _⟩
end

end Go.Proofs.YtagibmgbjhemkaaGreat
