/- The reference's Cost. -/
import Derived.Test.YtagibmgbjhemkaaGreatWkGame
namespace Go.Proofs.YtagibmgbjhemkaaGreat

section
open Go.RowKit Go.Maps
structure GR8 (ps : List (EdgeV × Bool)) (es : List EdgeV) : Prop where
  len : es.length ≤ 1024
  re : Recs es
  lk : ∀ x ∈ es, Go.Proofs.YtagibmgbjhemkaaGreat.lk ps x.1 = some x
  mem : ∀ e x, Go.Proofs.YtagibmgbjhemkaaGreat.lk ps e = some x → x ∈ es ∧ x.1 = e
theorem GR8.at_none {ps : List (EdgeV × Bool)} {es : List EdgeV} (h : GR8 ps es) {e r : Int} (hk : Go.Proofs.YtagibmgbjhemkaaGreat.lk ps e = none) (ha : AtIs es e r) : r = -1 := by
  rcases ha with ⟨i, y, rfl, h1, h2, -⟩ | ⟨h1, -⟩
  · have := h.lk y (List.mem_of_getElem? h1); rw [h2, hk] at this; cases this
  · exact h1
theorem GR8.at_some {ps : List (EdgeV × Bool)} {es : List EdgeV} (h : GR8 ps es) {e r : Int} {x : EdgeV} {j : Nat} (hk : Go.Proofs.YtagibmgbjhemkaaGreat.lk ps e = some x) (hj : es[j]? = some x) (ha : AtIs es e r) : r = (j : Int) := by
  have hx := (h.mem e x hk).2; rcases ha with ⟨i, y, rfl, h1, h2, -⟩ | ⟨-, h1⟩
  · rw [h.re.idx h1 hj (h2.trans hx.symm)]
  · exact absurd hx (h1 j x hj)
theorem stops_at8 (a : Int) (d1 d2 : List EdgeV) (m : Nat) (h : d1.length = m) : (stopsOf a (d1 ++ d2))[m]? = some (endOf a d1) := by
  subst h
  induction d1 generalizing a with
  | nil => rfl
  | cons x d1 ih =>
    have := ih x.2.2.1; simpa [stopsOf, endOf] using this
theorem stops_end (a : Int) (d : List EdgeV) : (stopsOf a d)[d.length]? = some (endOf a d) := by
  have := stops_at8 a d [] d.length rfl
  rwa [List.append_nil] at this
def RTAns (from_ : Int) (t : List EdgeV × Option Int) (w : World) (e : Ending) (w' : World) : Prop := ∃ sa sn sc, e = .returned (.tuple #[.slice sa sn sc, .int .i64 (tPlace t), .int .i64 (tCode t)]) ∧ BRow w.heap.size w' (.slice sa sn sc) (if t.2 = none then stopsOf from_ t.1 else []) ∧ Below w.heap.size w w'
def RTL (ps : List (EdgeV × Bool)) (wb : World) (from_ : Int) (ks : List Int) (v : Value) (i : Nat) (d : List EdgeV) (W : World) : Prop := Way ps from_ (ks.take i) d ∧ BRow wb.heap.size W v (stopsOf from_ d) ∧ Below wb.heap.size wb W
set_option maxHeartbeats 4000000 in
set_option maxRecDepth 100000 in
theorem refThroughS {w : World} {vv ev : Value} {rd wr0 : Int} {es : List EdgeV} {ps : List (EdgeV × Bool)} (from_ : Int) {kv : Value} {ks : List Int} (h : GRow 0 w ev es) (hG : GR8 ps es) (hr : SRow w kv ks) (hkl : ks.length ≤ 2000) :
    Calls Tryz.prog 24 #[.agg #[vv, ev, .int .i64 rd, .int .i64 wr0], .int .i64 from_, kv] w fun e w' => Hid (RTAns from_ (trip ps from_ ks) w e w') := by
  have hb := below_new w (oG vv ev rd wr0); have hs0 : (w.alloc (oG vv ev rd wr0)).heap.size = w.heap.size + 1 := by simp
  have HW : Hid (∀ W, Below (w.alloc (oG vv ev rd wr0)).heap.size (w.alloc (oG vv ev rd wr0)) W → (W.cell? ⟨w.heap.size, 0, none⟩ = some vv ∧ W.cell? ⟨w.heap.size, 1, none⟩ = some ev ∧ W.cell? ⟨w.heap.size, 2, none⟩ = some (.int .i64 rd) ∧ W.cell? ⟨w.heap.size, 3, none⟩ = some (.int .i64 wr0)) ∧ GRow 0 W ev es ∧ SRow W kv ks) := fun W hW => by
    obtain ⟨c0, c1, c2, c3, -⟩ := cellsG ((hW.block w.heap.size (by omega)).trans (heap_alloc_new w (oG vv ev rd wr0)))
    exact ⟨⟨c0, c1, c2, c3⟩, grow_below (grow_below h hb) hW, (hr.below hb).below hW⟩
  have HB : Hid (Below w.heap.size w (w.alloc (oG vv ev rd wr0)) ∧ (w.alloc (oG vv ev rd wr0)).heap.size = w.heap.size + 1) := ⟨hb, hs0⟩; obtain ⟨ka, kc, rfl, -⟩ := hr; obtain ⟨kn, hkn⟩ : ∃ kn, kn = ks.length := ⟨_, rfl⟩; have HKN : Hid (kn = ks.length ∧ kn ≤ 2000) := ⟨hkn, by omega⟩
  rw [← hkn]; obtain ⟨ea, en, ec, hev⟩ := grow_shape h; have HEN : Hid (en = es.length) := by
    rcases h.2 with ⟨e, h0⟩ | ⟨g, cap, cur, e, -⟩
    · rw [hev] at e; cases e; exact h0.symm
    · rw [hev] at e; cases e; rfl
  subst hev; have HG := hide hG; have HS0 : Hid (RTL ps (w.alloc (oG vv (.slice ea en ec) rd wr0)) from_ ks (.slice (some ⟨w.heap.size + 1, 0, none⟩) 1 1) 0 [] ((w.alloc (oG vv (.slice ea en ec) rd wr0)).alloc (.cells #[.int .i64 from_] 3))) := by
    refine ⟨rfl, ⟨rfl, .inr ⟨w.heap.size + 1, 1, #[.int .i64 from_], rfl, by omega, ?_, Nat.le_refl _, by unfold maxLen; omega, rfl, rfl⟩⟩, below_new _ _⟩
    rw [← hs0]; exact heap_alloc_new _ _
  have HEND : Hid (∀ (v : Value) (d : List EdgeV) (W : World), RTL ps (w.alloc (oG vv (.slice ea en ec) rd wr0)) from_ ks v kn d W → trip ps from_ ks = (d, none) ∧ BRow w.heap.size W v (stopsOf from_ d) ∧ Below w.heap.size w W) := by
    rintro v d W ⟨h1, h2, h3⟩
    obtain ⟨q1, q2⟩ := unhide HB; rw [List.take_of_length_le (by have := (unhide HKN).1; omega)] at h1
    exact ⟨h1.all, ⟨h2.1, h2.2.imp id (fun ⟨g, cap, cur, e, hb', r⟩ => ⟨g, cap, cur, e, by omega, r⟩)⟩, q1.trans (h3.mono (by omega))⟩
  have HOUT : Hid (∀ W, Below (w.alloc (oG vv (.slice ea en ec) rd wr0)).heap.size (w.alloc (oG vv (.slice ea en ec) rd wr0)) W → Below w.heap.size w W) := fun W hW => (unhide HB).1.trans (hW.mono (by have := (unhide HB).2; omega))
  clear h hb hkl hG hs0 hkn
  go_enter Tryz.func24, Tryz.ntmps24
  go_upto_region 2 with fail
  change Code.wp _ _ _ _ ((w.alloc (oG vv (.slice ea en ec) rd wr0)).alloc (.cells #[.int .i64 from_] 3)); obtain ⟨bb, hbb⟩ : ∃ bb, bb = w.heap.size := ⟨_, rfl⟩; have HBB := hide hbb; rw [← hbb]; rw [← hbb] at HW HS0; clear hbb; generalize (w.alloc (oG vv (.slice ea en ec) rd wr0)).alloc (.cells #[.int .i64 from_] 3) = w0 at *; generalize w.alloc (oG vv (.slice ea en ec) rd wr0) = wb at *
  go_wp2_with fail
  go_loopw [9, 10, 11] (fun s9 s10 s11 wr => ∃ (i : Nat) (a : Option Addr) (n c : Nat) (d : List EdgeV), s10 = .int .i64 i ∧ s9 = .slice a n c ∧ i ≤ kn ∧ Hid (RTL ps wb from_ ks (.slice a n c) i d wr)) (fun _ s10 _ _ => kn - (intOf s10).toNat)
  case atStart => exact ⟨0, _, _, _, [], rfl, rfl, Nat.zero_le _, HS0⟩
  case round =>
    obtain ⟨i, a, n, c, d, rfl, rfl, hi, hS⟩ := hrel; clear HS0
    by_cases hlt : i < kn
    · have hz : (i : Int) < (kn : Int) := by omega
      obtain ⟨s1, s2, s3⟩ := unhide hS; obtain ⟨⟨c0, c1, c2, c3⟩, hg, hp⟩ := unhide HW wr s3; obtain ⟨e, he⟩ : ∃ e, ks[i]? = some e := ⟨_, List.getElem?_eq_getElem (by have := unhide HKN; omega)⟩
      obtain ⟨ka', kc', hke, hkc⟩ := hp; injection hke with hk1 hk2 hk3
      subst hk1; obtain ⟨kg, ko, rfl, hce⟩ := hkc i e he; have hdl : d.length = i := by
        have h1 := s1.len; rw [List.length_take] at h1; have := unhide HKN; omega
      have hsd : ks.drop i = e :: ks.drop (i + 1) := by
        obtain ⟨h1, h2⟩ := List.getElem?_eq_some_iff.1 he; rw [List.drop_eq_getElem_cons h1, h2]
      have htr : trip ps from_ ks = (d ++ (trip ps (endOf from_ d) (e :: ks.drop (i + 1))).1, (trip ps (endOf from_ d) (e :: ks.drop (i + 1))).2) := by
        have h1 := Way.trip (ks.drop i) s1; rw [List.take_append_drop, hsd] at h1; exact h1
      have HTR := hide htr; have hwi : wrap64 ((i : Int) + 1) = ((i + 1 : Nat) : Int) := by have := unhide HKN; unfold wrap64; omega
      have HWI := hide hwi; have HAT : Hid (∀ W, Below wr.heap.size wr W → Calls Tryz.prog 38 #[.agg #[vv, .slice ea en ec, .int .i64 rd, .int .i64 wr0], .int .i64 e] W fun e' w' => ∃ r, e' = .returned (.int .i64 r) ∧ Hid (AtIs es e r ∧ Below wr.heap.size wr w')) := fun W hW => by
        refine (refAt (vv := vv) (rd := rd) (wr := wr0) e (grow_below hg hW) (by have := (unhide HG).len; omega)).mono ?_
        rintro e' w' ⟨r, rfl, hh⟩
        exact ⟨r, rfl, (unhide hh).1, hW.trans ((unhide hh).2.mono hW.size)⟩
      cases hk : lk ps e with
      | none =>
        have CA : Hid (∀ W, Below wr.heap.size wr W → Calls Tryz.prog 38 #[.agg #[vv, .slice ea en ec, .int .i64 rd, .int .i64 wr0], .int .i64 e] W fun e' w' => e' = .returned (.int .i64 (-1)) ∧ (w'.cell? ⟨bb, 0, none⟩ = some vv ∧ w'.cell? ⟨bb, 1, none⟩ = some (.slice ea en ec) ∧ w'.cell? ⟨bb, 2, none⟩ = some (.int .i64 rd) ∧ w'.cell? ⟨bb, 3, none⟩ = some (.int .i64 wr0) ∧ w'.cell? ⟨kg, ko + i, none⟩ = some (.int .i64 e)) ∧ Hid (Below w.heap.size w w')) := fun W hW => by
          refine (unhide HAT W hW).mono ?_
          rintro e' w' ⟨r, rfl, hh⟩
          obtain ⟨h1, h2⟩ := unhide hh; obtain rfl := (unhide HG).at_none hk h1; have h3 : Below wb.heap.size wb w' := s3.trans (h2.mono s3.size); obtain ⟨⟨d0, d1, d2, d3⟩, -⟩ := unhide HW w' h3; exact ⟨rfl, ⟨d0, d1, d2, d3, (cell_of_heap (x := ⟨kg, ko + i, none⟩) (h2.block kg (World.block_lt_of_cell? _ _ hce))).trans hce⟩, unhide HOUT w' h3⟩
        have HRES : Hid (trip ps from_ ks = (d, some 6) ∧ d.length = i) := by
          refine ⟨?_, hdl⟩; rw [htr, trip, hk]; simp
        clear hS s1 s2 s3 hg hkc he hdl hsd htr hwi HAT hk hk3
        go_upto_region 5 with fail
        refine wp_region_noPanic ?_; refine regionL [] (fun y => y.cell? ⟨bb, 0, none⟩ = some vv ∧ y.cell? ⟨bb, 1, none⟩ = some (.slice ea en ec) ∧ y.cell? ⟨bb, 2, none⟩ = some (.int .i64 rd) ∧ y.cell? ⟨bb, 3, none⟩ = some (.int .i64 wr0) ∧ y.cell? ⟨kg, ko + i, none⟩ = some (.int .i64 e)) (by kernel_rfl) ⟨c0, c1, c2, c3, hce⟩ (fun hHeld => ?_)
        refine takeN 0 20 rfl ?_
        (try simp only [sl])
        refine takeN 1 21 rfl ?_
        (try simp only [sl])
        refine takeN 2 22 rfl ?_
        (try simp only [sl])
        refine takeN 3 23 rfl ?_
        (try simp only [sl])
        refine takeN 4 24 rfl ?_
        (try simp only [sl])
        refine readyL (i := 5) (by kernel_rfl) rfl (fun K hK => ?_)
        go_simp
        refine (unhide CA _ (by exact (Below.refl _ _).drew)).mono ?_
        rintro e' w4 ⟨rfl, hc4, hw4⟩
        (try dsimp only)
        refine hK.out _ _ (fun _ => hc4) ?_
        clear hK K
        (try simp only [sl])
        have hH4 := hc4; refine takeN 6 11 rfl ?_
        (try simp only [sl])
        refine doneL (by kernel_rfl) ?_ _
        refine NoPanic.normal ?_
        go_wp2_with fail
        go_ret3
        obtain ⟨q1, q2⟩ := unhide HRES; rw [q1]; exact ⟨none, 0, 0, by simp [tPlace, tCode, q2], ⟨rfl, .inl ⟨rfl, rfl⟩⟩, unhide hw4⟩
      | some x =>
        obtain ⟨hxm, hxe⟩ := (unhide HG).mem e x hk; obtain ⟨j, hj⟩ := List.mem_iff_getElem?.1 hxm; have hjl : j < es.length := (List.getElem?_eq_some_iff.1 hj).1; obtain ⟨eg, ec', heg, -⟩ := grow_at hg (by omega)
        injection heg with heg1 heg2 heg3
        subst heg1; obtain ⟨on, oc, ho, -⟩ := brow_shape s2; injection ho with ho1 ho2 ho3
        obtain ⟨og, hog⟩ := brow_some s2 (by rw [stopsOf_len]; omega)
        obtain ⟨at_, hat⟩ : ∃ at_, at_ = endOf from_ d := ⟨_, rfl⟩; rw [← hat] at htr; have hn1 : n = i + 1 := by rw [ho2, stopsOf_len, hdl]
        have hin : (i : Int) < (n : Int) := by omega
        have hjz : (j : Int) < (en : Int) := by have := unhide HEN; omega
        have hj0 : ¬ (j : Int) < 0 := by omega
        have HCELL : Hid (∀ W, Below wr.heap.size wr W → (W.cell? ⟨bb, 0, none⟩ = some vv ∧ W.cell? ⟨bb, 1, none⟩ = some (.slice (some ⟨eg, 0, none⟩) en ec) ∧ W.cell? ⟨bb, 2, none⟩ = some (.int .i64 rd) ∧ W.cell? ⟨bb, 3, none⟩ = some (.int .i64 wr0) ∧ W.cell? ⟨kg, ko + i, none⟩ = some (.int .i64 e)) ∧ W.cell? ⟨eg, j * 4 + 1, none⟩ = some (.int .i64 x.2.1) ∧ W.cell? ⟨eg, j * 4 + 2, none⟩ = some (.int .i64 x.2.2.1) ∧ W.cell? ⟨og, i, none⟩ = some (.int .i64 at_) ∧ Below w.heap.size w W ∧ RTL ps wb from_ ks (.slice (some ⟨og, 0, none⟩) n c) i d W) := fun W h2 => by
          have h3 : Below wb.heap.size wb W := s3.trans (h2.mono s3.size); obtain ⟨⟨d0, d1, d2, d3⟩, hg3, -⟩ := unhide HW W h3; obtain ⟨eg2, ec2, he2, hec2⟩ := grow_at hg3 (by omega)
          injection he2 with he21 he22 he23
          injection he21 with he21
          injection he21 with he21
          obtain ⟨-, q2, q3, -⟩ := hec2 j x hj; rw [← he21] at q2 q3; have s2' : BRow wb.heap.size W (.slice (some ⟨og, 0, none⟩) n c) (stopsOf from_ d) := by rw [← hog]; exact brow_kept s2 (fun b eb => h2.block b (s2.lt b eb).2)
          refine ⟨⟨d0, d1, d2, d3, (cell_of_heap (x := ⟨kg, ko + i, none⟩) (h2.block kg (World.block_lt_of_cell? _ _ hce))).trans hce⟩, q2, q3, brow_at s2' ?_, unhide HOUT W h3, s1, s2', h3⟩; rw [hat, ← hdl]; exact stops_end from_ d
        have CA : Hid (∀ W, Below wr.heap.size wr W → Calls Tryz.prog 38 #[.agg #[vv, .slice (some ⟨eg, 0, none⟩) en ec, .int .i64 rd, .int .i64 wr0], .int .i64 e] W fun e' w' => e' = .returned (.int .i64 (j : Int)) ∧ (w'.cell? ⟨bb, 0, none⟩ = some vv ∧ w'.cell? ⟨bb, 1, none⟩ = some (.slice (some ⟨eg, 0, none⟩) en ec) ∧ w'.cell? ⟨bb, 2, none⟩ = some (.int .i64 rd) ∧ w'.cell? ⟨bb, 3, none⟩ = some (.int .i64 wr0) ∧ w'.cell? ⟨kg, ko + i, none⟩ = some (.int .i64 e)) ∧ Hid (Below wr.heap.size wr w')) := fun W hW => by
          refine (unhide HAT W hW).mono ?_
          rintro e' w' ⟨r, rfl, hh⟩
          obtain ⟨h1, h2⟩ := unhide hh; obtain rfl := (unhide HG).at_some hk hj h1; exact ⟨rfl, (unhide HCELL w' h2).1, h2⟩
        have HX : Hid (lk ps e = some x ∧ at_ = endOf from_ d ∧ ks[i]? = some e ∧ d.length = i) := ⟨hk, hat, he, hdl⟩; subst hog; clear hS s1 s2 s3 hg hkc he hdl hsd htr hwi HAT hk hk3 hxm hxe hj hjl heg2 heg3 ho1 ho2 ho3 hat hn1
        go_upto_region 5 with fail
        refine wp_region_noPanic ?_; refine regionL [] (fun y => y.cell? ⟨bb, 0, none⟩ = some vv ∧ y.cell? ⟨bb, 1, none⟩ = some (.slice (some ⟨eg, 0, none⟩) en ec) ∧ y.cell? ⟨bb, 2, none⟩ = some (.int .i64 rd) ∧ y.cell? ⟨bb, 3, none⟩ = some (.int .i64 wr0) ∧ y.cell? ⟨kg, ko + i, none⟩ = some (.int .i64 e)) (by kernel_rfl) ⟨c0, c1, c2, c3, hce⟩ (fun hHeld => ?_)
        refine takeN 0 20 rfl ?_
        (try simp only [sl])
        refine takeN 1 21 rfl ?_
        (try simp only [sl])
        refine takeN 2 22 rfl ?_
        (try simp only [sl])
        refine takeN 3 23 rfl ?_
        (try simp only [sl])
        refine takeN 4 24 rfl ?_
        (try simp only [sl])
        refine readyL (i := 5) (by kernel_rfl) rfl (fun K hK => ?_)
        go_simp
        refine (unhide CA _ (by exact (Below.refl _ _).drew)).mono ?_
        rintro e' w4 ⟨rfl, hc4, hw4⟩
        (try dsimp only)
        refine hK.out _ _ (fun _ => hc4) ?_
        clear hK K
        (try simp only [sl])
        have hH10 := hc4; refine takeN 6 11 rfl ?_
        (try simp only [sl])
        refine doneL (by kernel_rfl) ?_ _
        refine NoPanic.normal ?_; obtain ⟨⟨d0, d1, d2, d3, -⟩, q2, q3, q4, -⟩ := unhide HCELL w4 (unhide hw4); clear CA hHeld c0 c1 c2 c3 hce hc4
        by_cases hu : x.2.1 = at_
        · obtain ⟨-, -, -, -, -, k1, k2, k3⟩ := unhide HCELL (w4.drewN 1) (below_drewN (unhide hw4) 1); rw [hu] at q2
          go_upto_region 8 with fail
          go_quiet (fail)
          obtain ⟨⟨f0, f1, f2, f3, -⟩, r2, r3, r4, -, g1, g2, g3⟩ := unhide HCELL (w4.drewN nq) (below_drewN (unhide hw4) nq); obtain ⟨a', n', c', w5, hr5, b1, b2, -⟩ := run_app8 x.2.2.1 g2 g3.size (by rw [stopsOf_len]; have := (unhide HX).2.2.2; have := unhide HKN; omega)
          have HR5 := hide hr5; have HT5 : Hid (RTL ps wb from_ ks (.slice a' n' c') (i + 1) (d ++ [x]) w5) := by
            obtain ⟨x1, x2, x3, x4⟩ := unhide HX; refine ⟨?_, by rw [stopsOf_snoc]; exact b1, g3.trans (b2.below g3.size (fun b e => (g2.lt b e).1))⟩
            rw [take_succ_of x3]; exact g1.snoc x1 (hu.trans x2)
          clear hr5 b1 b2 g1 g2 g3 k1 k2 k3 q2 q3 q4 d0 d1 d2 d3 hu r2 r4
          go_wp2_with (at_builtin; refine Lib.wpList_append_run _ rfl _ _ 25 25 rfl _ _ rfl rfl _ _ (unhide HR5 _) ?_)
          (try rw [unhide HWI])
          exact ⟨⟨i + 1, a', n', c', d ++ [x], rfl, rfl, by omega, HT5⟩, by simp [intOf]; omega⟩
        · have hu2 : (x.2.1 == at_) = false := by simp [hu]
          have HRES : Hid (trip ps from_ ks = (d, some 80) ∧ d.length = i) := by
            obtain ⟨x1, x2, x3, x4⟩ := unhide HX; refine ⟨?_, x4⟩; rw [unhide HTR, trip, x1]; simp only; rw [if_neg (by rw [← x2]; exact hu)]
            simp
          go_upto_region 8 with fail
          go_quiet (fail)
          have HOW := hide (unhide HCELL (w4.drewN nq) (below_drewN (unhide hw4) nq)).2.2.2.2.1; clear q2 q3 q4 d0 d1 d2 d3 hu
          go_wp2_with fail
          go_ret3
          obtain ⟨z1, z2⟩ := unhide HRES; rw [z1]; exact ⟨none, 0, 0, by simp [tPlace, tCode, z2], ⟨rfl, .inl ⟨rfl, rfl⟩⟩, unhide HOW⟩
    · have hz : ¬ (i : Int) < (kn : Int) := by omega
      obtain rfl : i = kn := by omega
      have HF := hide (unhide HEND _ _ _ (unhide hS)); clear hS
      go_wp2_with fail
      go_ret3
      obtain ⟨q1, q2, q3⟩ := unhide HF; rw [q1]; exact ⟨a, n, c, by simp [tPlace, tCode], q2, q3⟩
end

section
open Go.RowKit Go.Maps
theorem readyL2 {P : Program} {ops : Array Oper} {Q : Exit → Act → World → Prop} {md : Region.Mode} {S : World → Prop} {T : List Nat} {i k : Nat} {o o2 : Oper} {fuel : Nat} {listed : Array Bool} {a : Act} {w : World} (hr : Region.ready md ops listed = [i, k]) (ho : ops[i]? = some o) (ho2 : ops[k]? = some o2)
    (h : ∀ K' : Act → World → Prop, Shut (∀ a w, (T.contains i = false → S w) → wpAnyL P md ops Q S T fuel (listed.setIfInBounds i true) a w → K' a w) → if Region.wanted o (yielded ops a.tmps) = true then Oper.wp P o a w K' Q else K' (a.put o.dst undef) w)
    (h2 : ∀ K' : Act → World → Prop, Shut (∀ a w, (T.contains k = false → S w) → wpAnyL P md ops Q S T fuel (listed.setIfInBounds k true) a w → K' a w) → if Region.wanted o2 (yielded ops a.tmps) = true then Oper.wp P o2 a w K' Q else K' (a.put o2.dst undef) w) :
    wpAnyL P md ops Q S T (fuel + 1) listed a w := by
  refine ⟨fun h0 => (by rw [hr] at h0; cases h0), fun j hj => ?_⟩
  rw [hr] at hj; rcases List.mem_cons.1 hj with e | e
  · subst e; exact wpOp_step ho (fun K' hK => h K' (fun a w hS hW => hK a w ⟨hS, hW⟩))
  · obtain rfl : j = k := by simpa using e
    exact wpOp_step ho2 (fun K' hK => h2 K' (fun a w hS hW => hK a w ⟨hS, hW⟩))
theorem way_lk8 {ps : List (EdgeV × Bool)} : ∀ {es : List Int} {a e : Int} {d : List EdgeV} {k : Nat}, Way ps a es d → es[k]? = some e → ∃ x, lk ps e = some x
  | [], a, e, d, k, _, hk => by cases hk
  | e' :: es, a, e, d, k, h, hk => by
    obtain ⟨x, d', rfl, h2, h3, h4⟩ := h
    match k, hk with
    | 0, hk => exact ⟨x, by rw [← show e' = e by simpa using hk]; exact h2⟩
    | k + 1, hk => exact way_lk8 h4 (k := k) (by simpa using hk)
def RCL (ps : List (EdgeV × Bool)) (wb : World) (from_ : Int) (ks : List Int) (cst : Nat) (i : Nat) (d : List EdgeV) (W : World) : Prop := Way ps from_ (ks.take i) d ∧ cst = costOf d ∧ Below wb.heap.size wb W
set_option maxHeartbeats 4000000 in
set_option maxRecDepth 100000 in
theorem refCostS {w : World} {vv ev : Value} {rd wr0 : Int} {es : List EdgeV} {ps : List (EdgeV × Bool)} (from_ : Int) {kv : Value} {ks : List Int} {dd : List EdgeV} (h : GRow 0 w ev es) (hG : GR8 ps es) (hr : SRow w kv ks) (hkl : ks.length ≤ 2000) (hW : Way ps from_ ks dd) (hwt : ∀ x ∈ es, Wt x) :
    Calls Tryz.prog 25 #[.agg #[vv, ev, .int .i64 rd, .int .i64 wr0], kv] w fun e w' => e = .returned (.int .u32 (costOf dd)) ∧ Hid (Below w.heap.size w w') := by
  have hb := below_new w (oG vv ev rd wr0); have hs0 : (w.alloc (oG vv ev rd wr0)).heap.size = w.heap.size + 1 := by simp
  have HW : Hid (∀ W, Below (w.alloc (oG vv ev rd wr0)).heap.size (w.alloc (oG vv ev rd wr0)) W → (W.cell? ⟨w.heap.size, 0, none⟩ = some vv ∧ W.cell? ⟨w.heap.size, 1, none⟩ = some ev ∧ W.cell? ⟨w.heap.size, 2, none⟩ = some (.int .i64 rd) ∧ W.cell? ⟨w.heap.size, 3, none⟩ = some (.int .i64 wr0)) ∧ GRow 0 W ev es ∧ SRow W kv ks) := fun W hW => by
    obtain ⟨c0, c1, c2, c3, -⟩ := cellsG ((hW.block w.heap.size (by omega)).trans (heap_alloc_new w (oG vv ev rd wr0)))
    exact ⟨⟨c0, c1, c2, c3⟩, grow_below (grow_below h hb) hW, (hr.below hb).below hW⟩
  obtain ⟨ka, kc, rfl, -⟩ := hr; obtain ⟨kn, hkn⟩ : ∃ kn, kn = ks.length := ⟨_, rfl⟩; have HKN : Hid (kn = ks.length ∧ kn ≤ 2000) := ⟨hkn, by omega⟩
  rw [← hkn]; obtain ⟨ea, en, ec, hev⟩ := grow_shape h; have HEN : Hid (en = es.length) := by
    rcases h.2 with ⟨e, h0⟩ | ⟨g, cap, cur, e, -⟩
    · rw [hev] at e; cases e; exact h0.symm
    · rw [hev] at e; cases e; rfl
  subst hev; have HG := hide hG; have HWT := hide hwt; have HWY := hide hW; have HOUT : Hid (∀ W, Below (w.alloc (oG vv (.slice ea en ec) rd wr0)).heap.size (w.alloc (oG vv (.slice ea en ec) rd wr0)) W → Below w.heap.size w W) := fun W hW => hb.trans (hW.mono (by omega))
  clear h hb hkl hG hs0 hkn hwt hW
  go_enter Tryz.func25, Tryz.ntmps25
  go_upto_region 1 with fail
  change Code.wp _ _ _ _ (w.alloc (oG vv (.slice ea en ec) rd wr0)); obtain ⟨bb, hbb⟩ : ∃ bb, bb = w.heap.size := ⟨_, rfl⟩; have HBB := hide hbb; rw [← hbb]; rw [← hbb] at HW; clear hbb; generalize w.alloc (oG vv (.slice ea en ec) rd wr0) = wb at *
  go_wp2_with fail
  go_loopw [5, 6, 7] (fun s5 s6 s7 wr => ∃ (i cst : Nat) (d : List EdgeV), s6 = .int .i64 i ∧ s5 = .int .u32 cst ∧ i ≤ kn ∧ Hid (RCL ps wb from_ ks cst i d wr)) (fun _ s6 _ _ => kn - (intOf s6).toNat)
  case atStart => exact ⟨0, 0, [], rfl, rfl, Nat.zero_le _, rfl, rfl, Below.refl _ _⟩
  case round =>
    obtain ⟨i, cst, d, rfl, rfl, hi, hS⟩ := hrel
    by_cases hlt : i < kn
    · have hz : (i : Int) < (kn : Int) := by omega
      obtain ⟨s1, s2, s3⟩ := unhide hS; obtain ⟨⟨c0, c1, c2, c3⟩, hg, hp⟩ := unhide HW wr s3; obtain ⟨e, he⟩ : ∃ e, ks[i]? = some e := ⟨_, List.getElem?_eq_getElem (by have := unhide HKN; omega)⟩
      obtain ⟨ka', kc', hke, hkc⟩ := hp; injection hke with hk1 hk2 hk3
      subst hk1; obtain ⟨kg, ko, rfl, hce⟩ := hkc i e he; obtain ⟨x, hk⟩ := way_lk8 (unhide HWY) he; obtain ⟨hxm, hxe⟩ := (unhide HG).mem e x hk; obtain ⟨j, hj⟩ := List.mem_iff_getElem?.1 hxm; have hjl : j < es.length := (List.getElem?_eq_some_iff.1 hj).1; obtain ⟨eg, ec', heg, -⟩ := grow_at hg (by omega)
      injection heg with heg1 heg2 heg3
      subst heg1; have hwt := unhide HWT x hxm; have hx4 : x.2.2.2 = ((x.2.2.2.toNat : Nat) : Int) := by have := hwt.1; omega
      have hwd : Way ps from_ (ks.take (i + 1)) (d ++ [x]) := by
        have h1 := unhide HWY; rw [← List.take_append_drop (i + 1) ks, take_succ_of he] at h1; obtain ⟨d1, d2, -, h2, -⟩ := Way.split h1; obtain ⟨d3, d4, rfl, h3, h4⟩ := Way.split h2; obtain ⟨y, d5, rfl, h5, h6, h7⟩ := h4; have h7' : d5 = [] := h7; subst h7'; have e3 := h3.all.symm.trans s1.all; injection e3 with e3
        subst e3; rw [hk] at h5; injection h5 with h5
        subst h5; rw [take_succ_of he]; exact h2
      have hwi : wrap64 ((i : Int) + 1) = ((i + 1 : Nat) : Int) := by have := unhide HKN; unfold wrap64; omega
      have HWI := hide hwi; have hjz : (j : Int) < (en : Int) := by have := unhide HEN; omega
      obtain ⟨xe, xu, xv, xb⟩ := x; simp only at hx4; have HCELL : Hid (∀ W, Below wr.heap.size wr W → (W.cell? ⟨bb, 0, none⟩ = some vv ∧ W.cell? ⟨bb, 1, none⟩ = some (.slice (some ⟨eg, 0, none⟩) en ec) ∧ W.cell? ⟨bb, 2, none⟩ = some (.int .i64 rd) ∧ W.cell? ⟨bb, 3, none⟩ = some (.int .i64 wr0) ∧ W.cell? ⟨kg, ko + i, none⟩ = some (.int .i64 e) ∧ W.cell? ⟨eg, j * 4, none⟩ = some (.int .i64 xe) ∧ W.cell? ⟨eg, j * 4 + 1, none⟩ = some (.int .i64 xu) ∧ W.cell? ⟨eg, j * 4 + 2, none⟩ = some (.int .i64 xv) ∧ W.cell? ⟨eg, j * 4 + 3, none⟩ = some (.int .u32 xb))) := fun W h2 => by
        have h3 : Below wb.heap.size wb W := s3.trans (h2.mono s3.size); obtain ⟨⟨d0, d1, d2, d3⟩, hg3, -⟩ := unhide HW W h3; obtain ⟨eg2, ec2, he2, hec2⟩ := grow_at hg3 (by omega)
        injection he2 with he21 he22 he23
        injection he21 with he21
        injection he21 with he21
        obtain ⟨q1, q2, q3, q4⟩ := hec2 j _ hj; rw [← he21] at q1 q2 q3 q4; exact ⟨d0, d1, d2, d3, (cell_of_heap (x := ⟨kg, ko + i, none⟩) (h2.block kg (World.block_lt_of_cell? _ _ hce))).trans hce, q1, q2, q3, q4⟩
      have CA : Hid (∀ W, Below wr.heap.size wr W → Calls Tryz.prog 38 #[.agg #[vv, .slice (some ⟨eg, 0, none⟩) en ec, .int .i64 rd, .int .i64 wr0], .int .i64 e] W fun e' w' => e' = .returned (.int .i64 (j : Int)) ∧ Hid (Below wr.heap.size wr w' ∧ Below W.heap.size W w')) := fun W hW => by
        refine (refAt (vv := vv) (rd := rd) (wr := wr0) e (grow_below hg hW) (by have := (unhide HG).len; omega)).mono ?_
        rintro e' w' ⟨r, rfl, hh⟩
        obtain ⟨h1, h2⟩ := unhide hh; obtain rfl := (unhide HG).at_some hk hj h1; exact ⟨rfl, hW.trans (h2.mono hW.size), h2⟩
      have CS : Hid (∀ W, Calls Tryz.prog 50 #[.int .u32 (cst : Int), .int .u32 xb] W fun e w' => e = .returned (.int .u32 ((costOf (d ++ [(xe, xu, xv, xb)]) : Nat) : Int)) ∧ ∃ nq, w' = W.drewN nq) := fun W => by
        rw [hx4, costOf_snoc, s2]; simp only; rw [← hx4]; have := refFold_step (c := costOf d) xb.toNat (costOf_le d) W; rw [← hx4] at this; exact this
      have HWD : Hid (Way ps from_ (ks.take (i + 1)) (d ++ [(xe, xu, xv, xb)]) ∧ Below wb.heap.size wb wr) := ⟨hwd, s3⟩; have HC0 := hide (unhide HCELL wr (Below.refl _ _)); clear hS s1 s2 s3 hg hkc he hwi hk hk3 hxm hxe hj hjl heg2 heg3 hwt hwd c0 c1 c2 c3 hce hx4
      go_upto_region 5 with fail
      have hc0 := unhide HC0; refine wp_region_noPanic ?_; refine regionL [11] (fun y => y.cell? ⟨bb, 0, none⟩ = some vv ∧ y.cell? ⟨bb, 1, none⟩ = some (.slice (some ⟨eg, 0, none⟩) en ec) ∧ y.cell? ⟨bb, 2, none⟩ = some (.int .i64 rd) ∧ y.cell? ⟨bb, 3, none⟩ = some (.int .i64 wr0) ∧ y.cell? ⟨kg, ko + i, none⟩ = some (.int .i64 e) ∧ y.cell? ⟨eg, j * 4, none⟩ = some (.int .i64 xe) ∧ y.cell? ⟨eg, j * 4 + 1, none⟩ = some (.int .i64 xu) ∧ y.cell? ⟨eg, j * 4 + 2, none⟩ = some (.int .i64 xv) ∧ y.cell? ⟨eg, j * 4 + 3, none⟩ = some (.int .u32 xb)) (by kernel_rfl) hc0 (fun hHeld => ?_)
      refine takeN 0 14 rfl ?_
      (try simp only [sl])
      refine takeN 1 15 rfl ?_
      (try simp only [sl])
      refine takeN 2 16 rfl ?_
      (try simp only [sl])
      refine takeN 3 17 rfl ?_
      (try simp only [sl])
      refine takeN 4 18 rfl ?_
      (try simp only [sl])
      refine takeN 5 19 rfl ?_
      (try simp only [sl])
      refine takeN 6 20 rfl ?_
      (try simp only [sl])
      refine readyL2 (i := 7) (k := 10) (by kernel_rfl) rfl rfl (fun K hK => ?_) (fun K hK => ?_)
      · go_simp
        refine (unhide CA _ (by exact (Below.refl _ _).drew)).mono ?_
        rintro e' w4 ⟨rfl, hw4⟩
        have hc4 := unhide HCELL w4 (unhide hw4).1
        (try dsimp only)
        refine hK.out _ _ (fun _ => hc4) ?_
        clear hK K
        (try simp only [sl])
        have hH3 := hc4; refine takeN 8 22 rfl ?_
        (try simp only [sl])
        refine takeN 9 23 rfl ?_
        (try simp only [sl])
        refine readyL (i := 10) (by kernel_rfl) rfl (fun K hK => ?_)
        go_simp
        have hc5 := unhide HCELL (w4.alloc o34) ((unhide hw4).1.alloc (by have := (unhide hw4).1.size; omega) _)
        refine hK.out _ _ (fun _ => hc5) ?_
        clear hK K
        (try simp only [sl])
        have hH6 := hc5; refine readyL (i := 11) (by kernel_rfl) rfl (fun K hK => ?_)
        go_simp
        refine hK.out _ _ (fun h => by cases h) ?_
        clear hK K
        (try simp only [sl])
        refine doneL (by kernel_rfl) ?_ _
        refine NoPanic.normal ?_; change Exit.then _ _ _ _ (w4.alloc (oE (xe, xu, xv, xb))); obtain ⟨-, -, -, x3, -⟩ := box_cells (heap_alloc_new w4 (oE (xe, xu, xv, xb))); simp only at x3; have HB5 : Hid (Below wb.heap.size wb (w4.alloc (oE (xe, xu, xv, xb)))) := ((unhide HWD).2.trans ((unhide hw4).1.mono (unhide HWD).2.size)).alloc (by have := (unhide HWD).2.size; have := (unhide hw4).1.size; omega) _
        generalize w4.alloc (oE (xe, xu, xv, xb)) = w5 at *; generalize w4.heap.size = bx at *; clear HCELL CA hc0 hc4 hc5 hHeld HC0
        go_wp2_with fail
        refine (unhide CS _).mono ?_
        rintro e' w6 ⟨rfl, nq, rfl⟩
        clear CS
        go_wp2_with fail
        (try rw [unhide HWI])
        exact ⟨⟨i + 1, _, d ++ [(xe, xu, xv, xb)], rfl, rfl, by omega, (unhide HWD).1, rfl, below_drewN (unhide HB5) nq⟩, by simp [intOf]; omega⟩
      · go_simp
        have hc4 := unhide HCELL (wr.drew.alloc o34) (((Below.refl _ _).drew).alloc (Nat.le_refl _) _); refine hK.out _ _ (fun _ => hc4) ?_
        clear hK K
        (try simp only [sl])
        have hH10 := hc4; refine readyL (i := 7) (by kernel_rfl) rfl (fun K hK => ?_)
        go_simp
        refine (unhide CA _ (by exact ((Below.refl _ _).drew).alloc (Nat.le_refl _) _)).mono ?_
        rintro e' w4 ⟨rfl, hw4⟩
        have hc5 := unhide HCELL w4 (unhide hw4).1; obtain ⟨g0, g1, g2, g3, gf⟩ := cells34 (w := w4) (g := wr.heap.size) ((unhide hw4).2.block _ (by simp) |>.trans (heap_alloc_new _ _))
        (try dsimp only)
        refine hK.out _ _ (fun _ => hc5) ?_
        clear hK K
        (try simp only [sl])
        have hH12 := hc5; refine takeN 8 22 rfl ?_
        (try simp only [sl])
        refine takeN 9 23 rfl ?_
        (try simp only [sl])
        refine readyL (i := 11) (by kernel_rfl) rfl (fun K hK => ?_)
        go_simp
        refine hK.out _ _ (fun h => by cases h) ?_
        clear hK K
        (try simp only [sl])
        refine doneL (by kernel_rfl) ?_ _
        refine NoPanic.normal ?_; change Exit.then _ _ _ _ (set4 w4 wr.heap.size (.int .i64 xe) (.int .i64 xu) (.int .i64 xv) (.int .u32 xb)); have hbx : w4.heap[wr.heap.size]? = some o34 := ((unhide hw4).2.block _ (by simp)).trans (heap_alloc_new _ _)
        obtain ⟨-, -, -, x3, -⟩ := cells34 (set4_at hbx (.int .i64 xe) (.int .i64 xu) (.int .i64 xv) (.int .u32 xb)); have HB5 : Hid (Below wb.heap.size wb (set4 w4 wr.heap.size (.int .i64 xe) (.int .i64 xu) (.int .i64 xv) (.int .u32 xb))) := (unhide HWD).2.trans ((set4_below (unhide hw4).1 (Nat.le_refl _) _ _ _ _).mono (unhide HWD).2.size); clear hbx g0 g1 g2 g3 gf; generalize set4 w4 wr.heap.size (.int .i64 xe) (.int .i64 xu) (.int .i64 xv) (.int .u32 xb) = w5 at *; generalize wr.heap.size = bx at *; clear HCELL CA hc0 hc4 hc5 hHeld HC0
        go_wp2_with fail
        refine (unhide CS _).mono ?_
        rintro e' w6 ⟨rfl, nq, rfl⟩
        clear CS
        go_wp2_with fail
        (try rw [unhide HWI])
        exact ⟨⟨i + 1, _, d ++ [(xe, xu, xv, xb)], rfl, rfl, by omega, (unhide HWD).1, rfl, below_drewN (unhide HB5) nq⟩, by simp [intOf]; omega⟩
    · have hz : ¬ (i : Int) < (kn : Int) := by omega
      obtain rfl : i = kn := by omega
      have HF : Hid (cst = costOf dd ∧ Below w.heap.size w wr) := by
        obtain ⟨s1, s2, s3⟩ := unhide hS; rw [List.take_of_length_le (by have := (unhide HKN).1; omega)] at s1
        have e3 := s1.all.symm.trans (unhide HWY).all; injection e3 with e3
        exact ⟨by rw [s2, e3], unhide HOUT wr s3⟩
      clear hS
      go_wp2_with fail
      go_ret
      exact ⟨by rw [(unhide HF).1]; rfl, (unhide HF).2⟩
end

end Go.Proofs.YtagibmgbjhemkaaGreat
