/- WitnessOwn: the law's walk. -/
import Derived.Test.YtffdpfkcfohbiaaOb16
namespace Go.Proofs.Ytffdpfkcfohbiaa
open Go.RowKit Go.Maps
/-- A list copied into new memory, and one number more. -/
theorem newN1 {W : World} {v : Value} {ys : List Int} (x : Int) (h : Lies i64v W v ys) (hl : ys.length * 8 ≤ 140737488351232) :
    ∃ a' n' c' w', (∀ ty, (Builtin.append_ #[23, 23] ty #[.slice (some ⟨W.heap.size, 0, none⟩) 0 0, v]).run Try.prog (W.alloc (.cells #[] 3)) = .ok (.slice a' n' c') w') ∧
    ∃ g n2 c2 w2, (∀ ty, (Builtin.append_ #[23, 23] ty #[.slice a' n' c', .slice (some ⟨w'.heap.size, 0, none⟩) 1 1]).run Try.prog (w'.alloc (.cells #[.int .i64 x] 3)) = .ok (.slice (some ⟨g, 0, none⟩) n2 c2) w2) ∧ NRow W.heap.size w2 (.slice (some ⟨g, 0, none⟩) n2 c2) (ys ++ [x]) ∧ Below W.heap.size W w2 := by
  obtain ⟨a', n', c', w', r, g1, g2⟩ := newN h (by omega)
  refine ⟨a', n', c', w', r, ?_⟩
  have hb := below_new w' (.cells #[.int .i64 x] 3)
  have hx : Lies i64v (w'.alloc (.cells #[.int .i64 x] 3)) (.slice (some ⟨w'.heap.size, 0, none⟩) 1 1) [x] := ⟨_, 1, rfl, by simp, fun e => (by cases e), .inr ⟨w'.heap.size, 0, rfl, fun i y hy => by
    rw [cell_of_row _ _ _ _ _ (0, 0) (heap_alloc_new w' (.cells #[.int .i64 x] 3)), Nat.zero_add]
    match i, hy with
    | 0, hy => injection hy with hy; subst hy; rfl⟩⟩
  obtain ⟨a2, n2, c2, w2, r2, h1, h2, h3⟩ := run_appNs (rrow_below g1 hb) (Nat.le_trans g2.size hb.size) hx (by simp; omega)
  obtain ⟨g, rfl⟩ := rrow_some h1 (by simp)
  exact ⟨g, n2, c2, w2, r2, h1, (g2.trans (hb.mono g2.size)).trans (h2.below (Nat.le_trans g2.size hb.size) (fun k e => (g1.lt k e).1))⟩
theorem newB1 {W : World} {v : Value} {ys : List Nat} (x : Nat) (h : Lies u8v W v ys) (hl : ys.length ≤ 140737488351232) :
    ∃ a' n' c' w', (∀ ty, (Builtin.append_ #[27, 27] ty #[.slice (some ⟨W.heap.size, 0, none⟩) 0 0, v]).run Try.prog (W.alloc (.cells #[] 5)) = .ok (.slice a' n' c') w') ∧
    ∃ g n2 c2 w2, (∀ ty, (Builtin.append_ #[27, 27] ty #[.slice a' n' c', .slice (some ⟨w'.heap.size, 0, none⟩) 1 1]).run Try.prog (w'.alloc (.cells #[.int .u8 (x : Nat)] 5)) = .ok (.slice (some ⟨g, 0, none⟩) n2 c2) w2) ∧ ByRow W.heap.size w2 (.slice (some ⟨g, 0, none⟩) n2 c2) (ys ++ [x]) ∧ Below W.heap.size W w2 := by
  obtain ⟨a', n', c', w', r, g1, g2⟩ := newB h (by omega)
  refine ⟨a', n', c', w', r, ?_⟩
  have hb := below_new w' (.cells #[.int .u8 (x : Nat)] 5)
  have hx : Lies u8v (w'.alloc (.cells #[.int .u8 (x : Nat)] 5)) (.slice (some ⟨w'.heap.size, 0, none⟩) 1 1) [x] := ⟨_, 1, rfl, by simp, fun e => (by cases e), .inr ⟨w'.heap.size, 0, rfl, fun i y hy => by
    rw [cell_of_row _ _ _ _ _ (0, 0) (heap_alloc_new w' (.cells #[.int .u8 (x : Nat)] 5)), Nat.zero_add]
    match i, hy with
    | 0, hy => injection hy with hy; subst hy; rfl⟩⟩
  obtain ⟨a2, n2, c2, w2, r2, h1, h2, h3⟩ := run_appBs (rrow_below g1 hb) (Nat.le_trans g2.size hb.size) hx (by simp; omega)
  obtain ⟨g, rfl⟩ := rrow_some h1 (by simp)
  exact ⟨g, n2, c2, w2, r2, h1, (g2.trans (hb.mono g2.size)).trans (h2.below (Nat.le_trans g2.size hb.size) (fun k e => (g1.lt k e).1))⟩
/-- The law's picture: the witness's box, the box of its copy with the longer list, that list. -/
def OwA (w : World) (b1 b4 g : Nat) (F T : Int) (u : Nat) (ev : Value) (n cc : Nat) (es : List Int) (W : World) : Prop :=
  InBox w.heap.size W b1 (F, T, u, es) ev ∧ W.heap[b4]? = some (oV F T u (.slice (some ⟨g, 0, none⟩) n cc)) ∧ NRow w.heap.size W (.slice (some ⟨g, 0, none⟩) (n + 1) cc) (es ++ [7]) ∧ Below w.heap.size w W
theorem OwA.below {w W W' : World} {b1 b4 g : Nat} {F T : Int} {u : Nat} {ev : Value} {n cc : Nat} {es : List Int} (h : OwA w b1 b4 g F T u ev n cc es W) (hb : Below W.heap.size W W') : OwA w b1 b4 g F T u ev n cc es W' :=
  ⟨h.1.below hb, (hb.block _ (heap_lt h.2.1)).trans h.2.1, rrow_below h.2.2.1 hb, h.2.2.2.trans (hb.mono h.2.2.2.size)⟩
theorem owA_start {w w3 : World} {b1 g : Nat} {F T : Int} {u : Nat} {ev : Value} {n cc : Nat} {es : List Int} (h1 : InBox w.heap.size w3 b1 (F, T, u, es) ev) (h2 : Below w.heap.size w w3) (h3 : NRow w.heap.size w3 (.slice (some ⟨g, 0, none⟩) (n + 1) cc) (es ++ [7])) :
    (w3.alloc (oV F T u ev)).cell? ⟨b1, 3, none⟩ = some ev ∧ OwA w b1 w3.heap.size g F T u ev n cc es (w3.alloc (oV F T u (.slice (some ⟨g, 0, none⟩) n cc))) := by
  have hb := below_new w3 (oV F T u ev)
  have h4 := h1.below hb
  have hb5 := below_new w3 (oV F T u (.slice (some ⟨g, 0, none⟩) n cc))
  exact ⟨(oV_cells h4.1).2.2.2, h1.below hb5, heap_alloc_new _ _, rrow_below h3 hb5, h2.trans (hb5.mono h2.size)⟩
theorem OwA.take {w W : World} {b1 b4 g : Nat} {F T : Int} {u : Nat} {ev : Value} {n cc : Nat} {es : List Int} (h : OwA w b1 b4 g F T u ev n cc es W) (hn : n = es.length) : Lies i64v W (.slice (some ⟨g, 0, none⟩) n cc) es ∧ W.cell? ⟨g, n, none⟩ = some (.int .i64 7) := by
  have h1 := lies_take (nrow_lies h.2.2.1) (show n ≤ n + 1 by omega)
  have e : (es ++ [7]).take n = es := by rw [hn, List.take_left']; rfl
  rw [e] at h1
  refine ⟨h1, ?_⟩
  have := rrow_at kitN h.2.2.1 (i := n) (x := 7) (by rw [hn]; simp) (j := 0) rfl
  rwa [Nat.mul_one, Nat.add_zero] at this
set_option maxHeartbeats 16000000 in
set_option maxRecDepth 100000 in
theorem ownW (w : World) {ev : Value} {es : List Int} (F T : Int) (u : Nat) (h : Lies i64v w ev es) (hu : u < 4294967296) (hl : es.length * 8 ≤ 140737488351232) :
    Calls Try.prog 6 #[.agg #[.int .i64 F, .int .i64 T, .int .u32 (u : Nat), ev]] w fun e w' => e = .returned (.bool true) ∧ Hid (Below w.heap.size w w') := by
  obtain ⟨a, c, he⟩ := lies_shape h
  obtain ⟨n, hn⟩ : ∃ n, n = es.length := ⟨_, rfl⟩
  rw [← hn] at he
  subst he
  have HQ := hide (And.intro (inBox_new (x := (F, T, u, es)) (Below.refl _ w) h).1 (below_new w (oV F T u (.slice a n c))))
  have CA : Hid (∀ W : World, Calls Try.prog 7 #[] W fun e w' => e = .returned (.bool true) ∧ Hid (Below W.heap.size W w')) := fun W => awakeS W
  have HN : Hid (n = es.length ∧ es.length * 8 ≤ 140737488351232) := ⟨hn, hl⟩
  have HL := hide h
  have HL0 := hide h
  have HU := hide hu
  clear h hu hl hn
  unfold oV at HQ
  go_enter Try.func6, Try.ntmps6
  go_wp2_with fail
  refine (unhide CA _).mono ?_
  rintro e w1 ⟨rfl, hb1⟩
  have HQ1 : Hid (InBox w.heap.size w1 w.heap.size (F, T, u, es) (.slice a n c) ∧ Below w.heap.size w w1) := ⟨(unhide HQ).1.below (unhide hb1), (unhide HQ).2.trans ((unhide hb1).mono (unhide HQ).2.size)⟩
  obtain ⟨c0, c1, c2, c3⟩ := oV_cells (unhide HQ1).1.1
  obtain ⟨b1, hb1'⟩ : ∃ b1, b1 = w.heap.size := ⟨_, rfl⟩
  rw [← hb1'] at c0 c1 c2 c3 ⊢
  have HB1 := hide hb1'
  clear hb1 HQ CA hb1'
  simp only at c0 c1 c2 c3
  have q3 : (w1.alloc (.cells #[] 3)).cell? ⟨b1, 3, none⟩ = some (.slice a n c) := (cell_of_heap ((below_new w1 (.cells #[] 3)).block b1 (cell_lt c3))).trans c3
  obtain ⟨a2, n2, cc2, w2, hr2, g, n3, cc3, w3, hr3, g1, g2⟩ := newN1 7 (lies_below (unhide HL) (unhide HQ1).2) (unhide HN).2
  have HR2 := hide hr2
  have HR3 := hide hr3
  have hn3 : n3 = n + 1 := by rw [rrow_len g1, (unhide HN).1]; simp
  subst hn3
  have HQ3 : Hid (InBox w.heap.size w3 w.heap.size (F, T, u, es) (.slice a n c) ∧ Below w.heap.size w w3 ∧ NRow w.heap.size w3 (.slice (some ⟨g, 0, none⟩) (n + 1) cc3) (es ++ [7])) := ⟨(unhide HQ1).1.below g2, (unhide HQ1).2.trans (g2.mono (unhide HQ1).2.size), rrow_low g1 (unhide HQ1).2.size⟩
  clear hr2 hr3 g1 g2 HQ1
  go_upto_region 4 with (at_builtin; first | (have h := HR2; clear HR2; refine Lib.wpList_append_run _ rfl _ _ 23 23 rfl _ _ rfl rfl _ _ (unhide h _) ?_; clear h) | (have h := HR3; clear HR3; refine Lib.wpList_append_run _ rfl _ _ 23 23 rfl _ _ rfl rfl _ _ (unhide h _) ?_; clear h))
  clear c0 c1 c2 c3 q3
  obtain ⟨c0, c1, c2, c3⟩ := oV_cells (unhide HQ3).1.1
  rw [← unhide HB1] at c0 c1 c2 c3
  simp only at c0 c1 c2 c3
  have z0 : n ≤ cc3 := by have := (lies_len (nrow_lies (unhide HQ3).2.2)).2; omega
  have z1 : (n : Int) ≤ (cc3 : Int) := by omega
  obtain ⟨q3, hA⟩ := owA_start (unhide HQ3).1 (unhide HQ3).2.1 (unhide HQ3).2.2
  rw [← unhide HB1] at q3 hA
  have HA := hide hA
  clear hA
  unfold oV at q3 HA
  go_upto_region 6 with fail
  generalize w3.alloc (Obj.cells #[Value.int .i64 F, Value.int .i64 T, Value.int .u32 (u : Nat), Value.slice (some ⟨g, 0, none⟩) n cc3] 25) = w5 at *
  generalize w3.heap.size = b4 at *
  clear c0 c1 c2 c3 q3 HQ3
  have CE := hide (encodeS F T u ((unhide HA).take (unhide HN).1).1 (unhide HU))
  obtain ⟨c0, c1, c2, c3⟩ := oV_cells (unhide HA).2.1
  go_wp2_with fail
  refine (unhide CE).mono ?_
  intro e w6 HE
  obtain ⟨bv, rfl, g1, g2⟩ := unhide HE
  have HA6 := hide ((unhide HA).below g2)
  have HB6 := hide g1
  have HS6 : Hid (w.heap.size ≤ w5.heap.size ∧ b1 < w5.heap.size) := ⟨(unhide HA).2.2.2.size, heap_lt (unhide HA).1.1⟩
  clear HE g1 g2 CE HA c0 c1 c2 c3
  go_upto_region 7 with fail
  have CE := hide (encodeS F T u ((unhide HA6).take (unhide HN).1).1 (unhide HU))
  obtain ⟨c0, c1, c2, c3⟩ := oV_cells (unhide HA6).2.1
  go_wp2_with fail
  refine (unhide CE).mono ?_
  intro e w7 HE
  obtain ⟨cv, rfl, g1, g2⟩ := unhide HE
  have HA7 := hide ((unhide HA6).below g2)
  have HB7 := hide (rrow_below (unhide HB6) g2)
  have HC7 := hide g1
  have HS7 : Hid (∀ k, bv.ownBlock = some k → w5.heap.size ≤ k ∧ k < w6.heap.size) := fun k e => (unhide HB6).lt k e
  clear HE g1 g2 CE HA6 HB6 c0 c1 c2 c3
  go_upto_region 8 with fail
  have CS := hide (sameR F T F T u u ((unhide HA7).take (unhide HN).1).1 (unhide HA7).1.2.1 (by have := (unhide HN).2; omega))
  obtain ⟨c0, c1, c2, c3⟩ := oV_cells (unhide HA7).2.1
  obtain ⟨d0, d1, d2, d3⟩ := oV_cells (unhide HA7).1.1
  simp only [decide_true] at d0 d1 d2 d3 CS
  go_wp2_with fail
  refine (unhide CS).mono ?_
  rintro e w8 ⟨rfl, hb8⟩
  have HA8 := hide ((unhide HA7).below (unhide hb8))
  have HB8 := hide (rrow_below (unhide HB7) (unhide hb8))
  have HC8 := hide (rrow_below (unhide HC7) (unhide hb8))
  clear CS HA7 HB7 HC7 hb8 c0 c1 c2 c3 d0 d1 d2 d3
  obtain ⟨d0, d1, d2, d3⟩ := oV_cells (unhide HA8).1.1
  obtain ⟨-, k7⟩ := (unhide HA8).take (unhide HN).1
  simp only at d0 d1 d2 d3
  have z2 : (n : Int) < (n : Int) + 1 := by omega
  by_cases hE : errC (F, T, u, es) = 0
  · have hgood := good_of hE (unhide HU)
    have hev : encV (F, T, u, es) = encWt (F, T, u, es) := by unfold encV; rw [if_pos hE]
    rw [hev] at HB8 HC8
    rw [hE]
    have hF := hgood.2.1
    have hT := hgood.2.2.1
    simp only at hF hT
    have HGD := hide hgood
    clear hE hgood hev
    obtain ⟨f, rfl⟩ := Int.eq_ofNat_of_zero_le hF.1
    obtain ⟨t, rfl⟩ := Int.eq_ofNat_of_zero_le hT.1
    clear hF hT
    obtain ⟨m, hm⟩ : ∃ m, m = (encWt (((f : Nat) : Int), ((t : Nat) : Int), u, es)).length := ⟨_, rfl⟩
    have HM : Hid (m = (encWt (((f : Nat) : Int), ((t : Nat) : Int), u, es)).length ∧ 0 < m ∧ m ≤ 4000) := ⟨hm, by rw [hm]; exact enc_pos _, by rw [hm]; exact enc_len (unhide HGD)⟩
    obtain ⟨gb, cb, hbv⟩ : ∃ gb cb, bv = .slice (some ⟨gb, 0, none⟩) m cb := by
      obtain ⟨ba, bc, e⟩ := rrow_shape (unhide HB8)
      rw [e] at HB8
      obtain ⟨g, rfl⟩ := rrow_some (unhide HB8) (enc_pos _)
      exact ⟨g, bc, by rw [e, hm]⟩
    obtain ⟨gc, cc, hcv⟩ : ∃ gc cc, cv = .slice (some ⟨gc, 0, none⟩) m cc := by
      obtain ⟨ba, bc, e⟩ := rrow_shape (unhide HC8)
      rw [e] at HC8
      obtain ⟨g, rfl⟩ := rrow_some (unhide HC8) (enc_pos _)
      exact ⟨g, bc, by rw [e, hm]⟩
    subst hbv hcv
    clear hm
    have z3 : (0 : Int) < (m : Int) := by have := (unhide HM).2.1; omega
    have HR8 : Hid (RwB w8 (fun k => (Value.slice (some ⟨gb, 0, none⟩) m cb).ownBlock = some k) w8 (.slice (some ⟨gb, 0, none⟩) m cb) m) := by
      have := rw_start (S := fun k => (Value.slice (some ⟨gb, 0, none⟩) m cb).ownBlock = some k) (unhide HB8) (fun k e => e)
      rw [← (unhide HM).1] at this; exact this
    have HFB : Hid (∀ W, Turned (fun k => (Value.slice (some ⟨gb, 0, none⟩) m cb).ownBlock = some k) w8 W → FB w b1 (f : Nat) (t : Nat) u (.slice a n c) (.slice (some ⟨gc, 0, none⟩) m cc) (encWt (((f : Nat) : Int), ((t : Nat) : Int), u, es)) W) := fun W hW => by
      have h8 : FB w b1 (f : Nat) (t : Nat) u (.slice a n c) (.slice (some ⟨gc, 0, none⟩) m cc) (encWt (((f : Nat) : Int), ((t : Nat) : Int), u, es)) w8 := ⟨(unhide HA8).1.1, byrow_lies (unhide HC8), (unhide HA8).2.2.2⟩
      refine h8.turned hW (fun e => ?_) (fun k e e2 => ?_) (fun k e => ?_)
      · have := unhide HS7 _ e; have := unhide HS6; omega
      · have h1 := unhide HS7 _ e2; have h2 := ((unhide HC8).lt _ e).1; omega
      · have := unhide HS7 _ e; have := unhide HS6; omega
    clear HA8 HB8 HC8 HS6 HS7 HL
    go_wp2_with fail
    clear d0 d1 d2 d3 k7
    -- b is written over
    go_loopw [64] (fun s64 wr => ∃ i : Nat, s64 = .int .i64 (i : Nat) ∧ Hid (i ≤ m ∧ RwB w8 (fun k => (Value.slice (some ⟨gb, 0, none⟩) m cb).ownBlock = some k) wr (.slice (some ⟨gb, 0, none⟩) m cb) m)) (fun s64 _ => m - (intOf s64).toNat)
    case atStart => exact ⟨0, rfl, Nat.zero_le _, unhide HR8⟩
    case round =>
      obtain ⟨i, rfl, HI⟩ := hrel
      obtain ⟨i1, i2⟩ := unhide HI
      by_cases hlt : i < m
      · obtain ⟨⟨x, e1⟩, e2, e3⟩ := Rw.set kitB (f := u8v) (fun _ => rfl) i2 hlt 0
        have z4 : (i : Int) < (m : Int) := by omega
        obtain ⟨j, hj⟩ : ∃ j, j = i + 1 := ⟨_, rfl⟩
        have zj : Hid (wrap64 ((i : Int) + 1) = (j : Int)) := by have := (unhide HM).2.2; show wrap64 ((i : Int) + 1) = (j : Int); unfold wrap64; omega
        have HJ : Hid ((j ≤ m ∧ m - j < m - i) ∧ RwB w8 (fun k => (Value.slice (some ⟨gb, 0, none⟩) m cb).ownBlock = some k) (wr.setCell ⟨gb, i, none⟩ (u8v 0)) (.slice (some ⟨gb, 0, none⟩) m cb) m) := ⟨⟨by omega, by omega⟩, e3⟩
        unfold u8v at e1 HJ
        clear HI i1 i2 hlt hj e3
        go_wp2_with fail
        exact ⟨⟨j, by (try rw [unhide zj]) <;> rfl, (unhide HJ).1.1, (unhide HJ).2⟩, by (try rw [unhide zj]); exact (unhide HJ).1.2⟩
      · have z4 : ¬ (i : Int) < (m : Int) := by omega
        have HI2 := hide i2
        clear HI i1 i2 hlt HR8
        go_wp2_with fail
        -- b grows
        go_loopw [5, 10] (fun s5 s10 wr => ∃ (j a' n' c' : _), s5 = .slice a' n' c' ∧ s10 = .int .i64 (j : Nat) ∧ Hid (j ≤ 20 ∧ RwB w8 (fun k => (Value.slice (some ⟨gb, 0, none⟩) m cb).ownBlock = some k) wr (.slice a' n' c') (m + j))) (fun _ s10 _ => 20 - (intOf s10).toNat)
        case atStart => exact ⟨0, _, _, _, rfl, rfl, Nat.zero_le _, unhide HI2⟩
        case round =>
          obtain ⟨j, a', n', c', rfl, rfl, HI⟩ := hrel
          obtain ⟨j1, j2⟩ := unhide HI
          by_cases hlt : j < 20
          · have z5 : (j : Int) < 20 := by omega
            obtain ⟨a2', n2', c2', w9, hr9, e9, -, -⟩ := Rw.push (ts := 27) kitB Try.underlying27 infoB rfl (by omega) 9 (cs := #[.int .u8 9]) rfl j2 (by have := (unhide HM).2.2; omega)
            have HR9 := hide hr9
            obtain ⟨k, hk⟩ : ∃ k, k = j + 1 := ⟨_, rfl⟩
            have zk : Hid ((j : Int) + 1 = (k : Int)) := by show (j : Int) + 1 = (k : Int); omega
            have HJ : Hid ((k ≤ 20 ∧ 20 - k < 20 - j) ∧ RwB w8 (fun k => (Value.slice (some ⟨gb, 0, none⟩) m cb).ownBlock = some k) w9 (.slice a2' n2' c2') (m + k)) := ⟨⟨by omega, by omega⟩, by rw [hk]; exact e9⟩
            clear HI j1 j2 hlt hk hr9 e9
            go_wp2_with (at_builtin; refine Lib.wpList_append_run _ rfl _ _ 27 27 rfl _ _ rfl rfl _ _ (unhide HR9 _) ?_)
            exact ⟨⟨k, a2', n2', c2', rfl, by rw [unhide zk], (unhide HJ).1.1, (unhide HJ).2⟩, by rw [unhide zk]; exact (unhide HJ).1.2⟩
          · have z5 : ¬ (j : Int) < 20 := by omega
            have HF := hide (unhide HFB _ j2.turned)
            clear HI j1 j2 hlt HI2 HFB
            -- room
            obtain ⟨a2', n2', c2', w10, hr10, gr, nr, cr, w11, hr11, g1, g2⟩ := newB1 8 (unhide HF).cb (by have := (unhide HM).1; have := (unhide HM).2.2; omega)
            have HR10 := hide hr10
            have HR11 := hide hr11
            have hnr : nr = m + 1 := by rw [rrow_len g1, (unhide HM).1]; simp
            subst hnr
            have HF11 := hide ((unhide HF).below g2)
            have HLO : Hid (wr.heap.size ≤ w11.heap.size ∧ b1 < wr.heap.size ∧ gc < wr.heap.size ∧ w.heap.size ≤ wr.heap.size) := ⟨g2.size, heap_lt (unhide HF).box, by
              obtain ⟨b, off, e, hc⟩ := lies_at (unhide HF).cb (i := 0) (x := (encWt (((f : Nat) : Int), ((t : Nat) : Int), u, es))[0]'(by have := (unhide HM).1; have := (unhide HM).2.1; omega)) (List.getElem?_eq_getElem _)
              injection e with e; injection e with e; subst e
              exact cell_lt hc, (unhide HF).bel.size⟩
            have HROOM := hide g1
            clear hr10 hr11 g1 g2 HF
            go_upto_region 22 with (at_builtin; first | (have h := HR10; clear HR10; refine Lib.wpList_append_run _ rfl _ _ 27 27 rfl _ _ rfl rfl _ _ (unhide h _) ?_; clear h) | (have h := HR11; clear HR11; refine Lib.wpList_append_run _ rfl _ _ 27 27 rfl _ _ rfl rfl _ _ (unhide h _) ?_; clear h))
            have y0 : m ≤ cr := by have := (lies_len (byrow_lies (unhide HROOM))).2; omega
            have y1 : (m : Int) ≤ (cr : Int) := by omega
            have htk : Hid ((encWt (((f : Nat) : Int), ((t : Nat) : Int), u, es) ++ [8]).take m = encWt (((f : Nat) : Int), ((t : Nat) : Int), u, es)) := by
              show _ = _
              rw [(unhide HM).1, List.take_left']; rfl
            have CD : Hid (∀ W v', ByRow 0 W (.slice (some ⟨gr, 0, none⟩) (m + 1) cr) (encWt (((f : Nat) : Int), ((t : Nat) : Int), u, es) ++ [8]) → v' = (.slice (some ⟨gr, 0, none⟩) m cr) → Calls Try.prog 12 #[v'] W fun e w2 => Hid (DecAns W ((((f : Nat) : Int), ((t : Nat) : Int), u, es), 0) e w2)) := fun W v' hr hv' => by
              subst hv'
              have hl := lies_take (byrow_lies hr) (show m ≤ m + 1 by omega)
              rw [unhide htk] at hl
              have := decodeS hl (enc_byte _) (by have := (unhide HM).1; have := (unhide HM).2.2; omega) (fun g e => (hr.lt g e).2)
              rw [decV_enc (unhide HGD)] at this
              exact this
            have C1 := hide (unhide CD w11 _ (rrow_low (unhide HROOM) (Nat.zero_le _)) rfl)
            go_wp2_with fail
            refine (unhide C1).mono ?_
            intro e w12 HE
            obtain ⟨ev12, rfl, g1, g2⟩ := unhide HE
            obtain ⟨ea12, ec12, hev⟩ := rrow_shape g1
            have hb12 := below_new w12 (oV (f : Nat) (t : Nat) u ev12)
            have HF13 := hide (((unhide HF11).below g2).below hb12)
            have HROOM13 := hide (rrow_below (rrow_below (unhide HROOM) g2) hb12)
            have HX13 : Hid ((w12.alloc (oV (f : Nat) (t : Nat) u ev12)).heap[w12.heap.size]? = some (oV (f : Nat) (t : Nat) u ev12) ∧ NRow w11.heap.size (w12.alloc (oV (f : Nat) (t : Nat) u ev12)) ev12 es ∧ w12.heap.size < (w12.alloc (oV (f : Nat) (t : Nat) u ev12)).heap.size ∧ w11.heap.size ≤ w12.heap.size ∧ (∀ k, ev12.ownBlock = some k → k < w12.heap.size)) := ⟨heap_alloc_new _ _, rrow_below g1 hb12, by simp, g2.size, fun k e => (g1.lt k e).2⟩
            have HRL : Hid (gr < w11.heap.size ∧ wr.heap.size ≤ gr) := ⟨((unhide HROOM).lt gr rfl).2, ((unhide HROOM).lt gr rfl).1⟩
            clear HE g1 g2 hb12 HF11 HROOM C1
            simp only at hev HX13 ⊢
            obtain ⟨en, hen⟩ : ∃ en, en = es.length := ⟨_, rfl⟩
            rw [← hen] at hev
            have HEN := hide hen
            clear hen
            subst hev
            unfold oV at HX13 HF13 HROOM13
            go_upto_region 23 with fail
            generalize w12.alloc (Obj.cells #[Value.int .i64 (f : Nat), Value.int .i64 (t : Nat), Value.int .u32 (u : Nat), Value.slice ea12 en ec12] 25) = w13 at *
            generalize w12.heap.size = b12 at *
            have C1 := hide (unhide CD w13 _ (rrow_low (unhide HROOM13) (Nat.zero_le _)) rfl)
            clear CD
            go_wp2_with fail
            refine (unhide C1).mono ?_
            intro e w14 HE
            obtain ⟨ev14, rfl, g1, g2⟩ := unhide HE
            obtain ⟨ea14, ec14, hev⟩ := rrow_shape g1
            have hb14 := below_new w14 (oV (f : Nat) (t : Nat) u ev14)
            have hbb : Below w13.heap.size w13 (w14.alloc (oV (f : Nat) (t : Nat) u ev14)) := g2.trans (hb14.mono g2.size)
            have HF15 := hide ((unhide HF13).below hbb)
            have HROOM15 := hide (rrow_below (unhide HROOM13) hbb)
            have HX15 : Hid ((w14.alloc (oV (f : Nat) (t : Nat) u ev14)).heap[b12]? = some (oV (f : Nat) (t : Nat) u (.slice ea12 en ec12)) ∧ NRow w11.heap.size (w14.alloc (oV (f : Nat) (t : Nat) u ev14)) (.slice ea12 en ec12) es) := ⟨(hbb.block _ (heap_lt (unhide HX13).1)).trans (unhide HX13).1, rrow_below (unhide HX13).2.1 hbb⟩
            have HY15 : Hid ((w14.alloc (oV (f : Nat) (t : Nat) u ev14)).heap[w14.heap.size]? = some (oV (f : Nat) (t : Nat) u ev14) ∧ NRow w13.heap.size (w14.alloc (oV (f : Nat) (t : Nat) u ev14)) ev14 es ∧ w13.heap.size ≤ w14.heap.size) := ⟨heap_alloc_new _ _, rrow_below g1 hb14, g2.size⟩
            have HZ15 : Hid (b12 < w13.heap.size ∧ w11.heap.size ≤ b12 ∧ ∀ k, (Value.slice ea12 en ec12).ownBlock = some k → k < b12 ∧ w11.heap.size ≤ k) := ⟨heap_lt (unhide HX13).1, (unhide HX13).2.2.2.1, fun k e => ⟨(unhide HX13).2.2.2.2 k e, ((unhide HX13).2.1.lt k e).1⟩⟩
            clear HE g1 g2 hb14 hbb HF13 HROOM13 C1 HX13
            simp only at hev HY15 ⊢
            rw [← unhide HEN] at hev
            subst hev
            unfold oV at HX15 HF15 HROOM15 HY15
            go_upto_region 24 with fail
            generalize w14.alloc (Obj.cells #[Value.int .i64 (f : Nat), Value.int .i64 (t : Nat), Value.int .u32 (u : Nat), Value.slice ea14 en ec14] 25) = w15 at *
            generalize w14.heap.size = b14 at *
            have hd : Below w15.heap.size w15 w15.drew := (Below.refl _ _).drew
            have HC16 : Hid (FC w b1 b14 (f : Nat) (t : Nat) u (.slice a n c) (.slice (some ⟨gc, 0, none⟩) m cc) (.slice ea14 en ec14) (encWt (((f : Nat) : Int), ((t : Nat) : Int), u, es)) es w15.drew) := FC.below ⟨unhide HF15, (unhide HY15).1, nrow_lies (unhide HY15).2.1⟩ hd
            have HROOM16 := hide (rrow_below (unhide HROOM15) hd)
            have HX16 : Hid (w15.drew.heap[b12]? = some (oV (f : Nat) (t : Nat) u (.slice ea12 en ec12)) ∧ NRow w11.heap.size w15.drew (.slice ea12 en ec12) es) := ⟨(hd.block _ (heap_lt (unhide HX15).1)).trans (unhide HX15).1, rrow_below (unhide HX15).2 hd⟩
            have HIN : Hid (b1 < gr ∧ gc < gr ∧ w.heap.size ≤ gr ∧ gr < b12 ∧ b12 < b14 ∧ (∀ k, (Value.slice ea12 en ec12).ownBlock = some k → gr < k ∧ k < b12) ∧ ∀ k, (Value.slice ea14 en ec14).ownBlock = some k → b12 < k) := by
              obtain ⟨l1, l2, l3, l4⟩ := unhide HLO
              obtain ⟨r1, r2⟩ := unhide HRL
              obtain ⟨t1, t2, t3⟩ := unhide HZ15
              have t4 := (unhide HY15).2.2
              exact ⟨by omega, by omega, by omega, by omega, by omega, fun k e => ⟨by have := (t3 k e).2; omega, (t3 k e).1⟩, fun k e => by have := ((unhide HY15).2.1.lt k e).1; omega⟩
            have k8 : w15.drew.cell? ⟨gr, m, none⟩ = some (.int .u8 8) := by
              have := rrow_at kitB (unhide HROOM16) (i := m) (x := 8) (by rw [(unhide HM).1]; simp) (j := 0) rfl
              rwa [Nat.mul_one, Nat.add_zero] at this
            have hs1 : (convert 27 9 (.slice (some ⟨gr, 0, none⟩) m cr)).run Try.prog w15.drew = .ok (.string (strB (encWt (((f : Nat) : Int), ((t : Nat) : Int), u, es)))) w15.drew := by
              have hl := lies_take (byrow_lies (unhide HROOM16)) (show m ≤ m + 1 by omega)
              rw [unhide htk] at hl
              exact convB hl (enc_byte _)
            have hs2 := convB (unhide HC16).fb.cb (enc_byte _)
            have HCV : Hid (∀ W V, Lies u8v W V (encWt (((f : Nat) : Int), ((t : Nat) : Int), u, es)) → (convert 27 9 V).run Try.prog W = .ok (.string (strB (encWt (((f : Nat) : Int), ((t : Nat) : Int), u, es)))) W) := fun W V hv => convB hv (enc_byte _)
            obtain ⟨s1, hs⟩ : ∃ s1, s1 = strB (encWt (((f : Nat) : Int), ((t : Nat) : Int), u, es)) := ⟨_, rfl⟩
            rw [← hs] at hs1 hs2 HCV
            clear hs hd HF15 HY15 HROOM15 HX15 HZ15 HLO HRL htk
            refine wp_region_noPanic ?_
            refine regionL [] (fun y => (convert 27 9 (.slice (some ⟨gr, 0, none⟩) m cr)).run Try.prog y = .ok (.string s1) y ∧ (convert 27 9 (.slice (some ⟨gc, 0, none⟩) m cc)).run Try.prog y = .ok (.string s1) y ∧ y.cell? ⟨gr, m, none⟩ = some (.int .u8 8)) (by kernel_rfl) ⟨hs1, hs2, k8⟩ (fun hHeld => ?_)
            clear hs1 hs2 k8
            generalize w15.drew = w16 at *
            have z6 : (m : Int) < (m : Int) + 1 := by omega
            refine takeL (i := 0) (v := ?t1v0) (some 99) rfl rfl (by kernel_rfl) (by kernel_rfl) (by kernel_rfl) (by kernel_rfl) (by kernel_rfl) (fun _ _ _ h => h) (Or.inl ⟨by rfl, ?t1h0⟩) (by assumption) ?t1r0
            case t1h0 => (intro y hSu; (try dsimp only at hSu); go_simp; first | done | with_reducible rfl)
            (try simp only [Act.put, List.setIfInBounds_toArray, List.set_cons_zero, List.set_cons_succ])
            refine takeL (i := 1) (v := ?t1v1) (some 100) rfl rfl (by kernel_rfl) (by kernel_rfl) (by kernel_rfl) (by kernel_rfl) (by kernel_rfl) (fun _ _ _ h => h) (Or.inl ⟨by rfl, ?t1h1⟩) (by assumption) ?t1r1
            case t1h1 => (intro y hSu; (try dsimp only at hSu); go_simp; first | done | with_reducible rfl)
            (try simp only [Act.put, List.setIfInBounds_toArray, List.set_cons_zero, List.set_cons_succ])
            refine takeL (i := 2) (v := ?t1v2) (some 101) rfl rfl (by kernel_rfl) (by kernel_rfl) (by kernel_rfl) (by kernel_rfl) (by kernel_rfl) (fun _ _ _ h => h) (Or.inl ⟨by rfl, ?t1h2⟩) (by assumption) ?t1r2
            case t1h2 => (intro y hSu; (try dsimp only at hSu); go_simp; first | done | with_reducible rfl)
            (try simp only [Act.put, List.setIfInBounds_toArray, List.set_cons_zero, List.set_cons_succ])
            refine takeL (i := 3) (v := ?t1v3) (some 102) rfl rfl (by kernel_rfl) (by kernel_rfl) (by kernel_rfl) (by kernel_rfl) (by kernel_rfl) (fun _ _ _ h => h) (Or.inl ⟨by rfl, ?t1h3⟩) (by assumption) ?t1r3
            case t1h3 => (intro y hSu; (try dsimp only at hSu); go_simp; first | done | with_reducible rfl)
            (try simp only [Act.put, List.setIfInBounds_toArray, List.set_cons_zero, List.set_cons_succ])
            refine takeL (i := 4) (v := ?t1v4) (some 103) rfl rfl (by kernel_rfl) (by kernel_rfl) (by kernel_rfl) (by kernel_rfl) (by kernel_rfl) (fun _ _ _ h => h) (Or.inl ⟨by rfl, ?t1h4⟩) (by assumption) ?t1r4
            case t1h4 => (intro y hSu; (try dsimp only at hSu); go_simp; first | done | with_reducible rfl)
            (try simp only [Act.put, List.setIfInBounds_toArray, List.set_cons_zero, List.set_cons_succ])
            refine takeL (i := 5) (v := ?t1v5) (some 104) rfl rfl (by kernel_rfl) (by kernel_rfl) (by kernel_rfl) (by kernel_rfl) (by kernel_rfl) (fun _ _ _ h => h) (Or.inl ⟨by rfl, ?t1h5⟩) (by assumption) ?t1r5
            case t1h5 => (intro y hSu; (try dsimp only at hSu); go_simp; first | done | with_reducible rfl)
            (try simp only [Act.put, List.setIfInBounds_toArray, List.set_cons_zero, List.set_cons_succ])
            refine takeL (i := 6) (v := ?t1v6) (some 105) rfl rfl (by kernel_rfl) (by kernel_rfl) (by kernel_rfl) (by kernel_rfl) (by kernel_rfl) (fun _ _ _ h => h) (Or.inl ⟨by rfl, ?t1h6⟩) (by assumption) ?t1r6
            case t1h6 => (intro y hSu; (try dsimp only at hSu); go_simp; first | done | with_reducible rfl)
            (try simp only [Act.put, List.setIfInBounds_toArray, List.set_cons_zero, List.set_cons_succ])
            refine takeL (i := 7) (v := ?t1v7) (some 106) rfl rfl (by kernel_rfl) (by kernel_rfl) (by kernel_rfl) (by kernel_rfl) (by kernel_rfl) (fun _ _ _ h => h) (Or.inl ⟨by rfl, ?t1h7⟩) (by assumption) ?t1r7
            case t1h7 => (intro y hSu; (try dsimp only at hSu); go_simp; first | done | with_reducible rfl)
            (try simp only [Act.put, List.setIfInBounds_toArray, List.set_cons_zero, List.set_cons_succ])
            refine takeL (i := 8) (v := ?t1v8) (some 107) rfl rfl (by kernel_rfl) (by kernel_rfl) (by kernel_rfl) (by kernel_rfl) (by kernel_rfl) (fun _ _ _ h => h) (Or.inl ⟨by rfl, ?t1h8⟩) (by assumption) ?t1r8
            case t1h8 => (intro y hSu; (try dsimp only at hSu); go_simp; first | done | with_reducible rfl)
            (try simp only [Act.put, List.setIfInBounds_toArray, List.set_cons_zero, List.set_cons_succ])
            refine takeL (i := 9) (v := ?t1v9) (some 108) rfl rfl (by kernel_rfl) (by kernel_rfl) (by kernel_rfl) (by kernel_rfl) (by kernel_rfl) (fun _ _ _ h => h) (Or.inl ⟨by rfl, ?t1h9⟩) (by assumption) ?t1r9
            case t1h9 => (intro y hSu; (try dsimp only at hSu); go_simp; first | done | with_reducible rfl)
            (try simp only [Act.put, List.setIfInBounds_toArray, List.set_cons_zero, List.set_cons_succ])
            refine takeL (i := 10) (v := ?t1v10) (some 109) rfl rfl (by kernel_rfl) (by kernel_rfl) (by kernel_rfl) (by kernel_rfl) (by kernel_rfl) (fun _ _ _ h => h) (Or.inl ⟨by rfl, ?t1h10⟩) (by assumption) ?t1r10
            case t1h10 => (intro y hSu; (try dsimp only at hSu); go_simp; first | done | with_reducible rfl)
            (try simp only [Act.put, List.setIfInBounds_toArray, List.set_cons_zero, List.set_cons_succ])
            refine takeL (i := 11) (v := ?t1v11) (some 110) rfl rfl (by kernel_rfl) (by kernel_rfl) (by kernel_rfl) (by kernel_rfl) (by kernel_rfl) (fun _ _ _ h => h) (Or.inl ⟨by rfl, ?t1h11⟩) (by assumption) ?t1r11
            case t1h11 => (intro y hSu; (try dsimp only at hSu); go_simp; first | done | with_reducible rfl)
            (try simp only [Act.put, List.setIfInBounds_toArray, List.set_cons_zero, List.set_cons_succ])
            refine takeL (i := 12) (v := ?t1v12) (some 111) rfl rfl (by kernel_rfl) (by kernel_rfl) (by kernel_rfl) (by kernel_rfl) (by kernel_rfl) (fun _ _ _ h => h) (Or.inl ⟨by rfl, ?t1h12⟩) (by assumption) ?t1r12
            case t1h12 => (intro y hSu; (try dsimp only at hSu); go_simp; first | done | with_reducible rfl)
            (try simp only [Act.put, List.setIfInBounds_toArray, List.set_cons_zero, List.set_cons_succ])
            refine takeL (i := 13) (v := ?t1v13) (some 112) rfl rfl (by kernel_rfl) (by kernel_rfl) (by kernel_rfl) (by kernel_rfl) (by kernel_rfl) (fun _ _ _ h => h) (Or.inl ⟨by rfl, ?t1h13⟩) (by assumption) ?t1r13
            case t1h13 => (intro y hSu; (try dsimp only at hSu); go_simp; first | done | with_reducible rfl)
            (try simp only [Act.put, List.setIfInBounds_toArray, List.set_cons_zero, List.set_cons_succ])
            refine takeL (i := 14) (v := ?t1v14) (some 113) rfl rfl (by kernel_rfl) (by kernel_rfl) (by kernel_rfl) (by kernel_rfl) (by kernel_rfl) (fun _ _ _ h => h) (Or.inl ⟨by rfl, ?t1h14⟩) (by assumption) ?t1r14
            case t1h14 => (intro y hSu; (try dsimp only at hSu); go_simp; first | done | with_reducible rfl)
            (try simp only [Act.put, List.setIfInBounds_toArray, List.set_cons_zero, List.set_cons_succ])
            refine takeL (i := 15) (v := ?t1v15) (some 114) rfl rfl (by kernel_rfl) (by kernel_rfl) (by kernel_rfl) (by kernel_rfl) (by kernel_rfl) (fun _ _ _ h => h) (Or.inl ⟨by rfl, ?t1h15⟩) (by assumption) ?t1r15
            case t1h15 => (intro y hSu; (try dsimp only at hSu); go_simp; first | done | with_reducible rfl)
            (try simp only [Act.put, List.setIfInBounds_toArray, List.set_cons_zero, List.set_cons_succ])
            refine doneL (by kernel_rfl) ?_ _
            refine NoPanic.normal ?_
            have HR16 : Hid (RwB w16 (fun k => (Value.slice (some ⟨gr, 0, none⟩) (m + 1) cr).ownBlock = some k) w16 (.slice (some ⟨gr, 0, none⟩) (m + 1) cr) (m + 1)) := by
              have := rw_start (S := fun k => (Value.slice (some ⟨gr, 0, none⟩) (m + 1) cr).ownBlock = some k) (unhide HROOM16) (fun k e => e)
              rw [List.length_append, ← (unhide HM).1] at this; exact this
            clear hHeld HROOM16
            go_wp2_with fail
            -- room is written over
            go_loopw [117] (fun s117 wq => ∃ i : Nat, s117 = .int .i64 (i : Nat) ∧ Hid (i ≤ m + 1 ∧ RwB w16 (fun k => (Value.slice (some ⟨gr, 0, none⟩) (m + 1) cr).ownBlock = some k) wq (.slice (some ⟨gr, 0, none⟩) (m + 1) cr) (m + 1))) (fun s117 _ => m + 1 - (intOf s117).toNat)
            case atStart => exact ⟨0, rfl, Nat.zero_le _, unhide HR16⟩
            case round =>
              obtain ⟨i, rfl, HI⟩ := hrel
              obtain ⟨i1, i2⟩ := unhide HI
              by_cases hlt : i < m + 1
              · obtain ⟨⟨x, e1⟩, e2, e3⟩ := Rw.set kitB (f := u8v) (fun _ => rfl) i2 hlt 255
                have z7 : (i : Int) < (m : Int) + 1 := by omega
                obtain ⟨j, hj⟩ : ∃ j, j = i + 1 := ⟨_, rfl⟩
                have zj : Hid (wrap64 ((i : Int) + 1) = (j : Int)) := by have := (unhide HM).2.2; show wrap64 ((i : Int) + 1) = (j : Int); unfold wrap64; omega
                have HJ : Hid ((j ≤ m + 1 ∧ m + 1 - j < m + 1 - i) ∧ RwB w16 (fun k => (Value.slice (some ⟨gr, 0, none⟩) (m + 1) cr).ownBlock = some k) (World.setCell _ ⟨gr, i, none⟩ (u8v 255)) (.slice (some ⟨gr, 0, none⟩) (m + 1) cr) (m + 1)) := ⟨⟨by omega, by omega⟩, e3⟩
                unfold u8v at e1 HJ
                clear HI i1 i2 hlt hj e3
                go_wp2_with fail
                exact ⟨⟨j, by (try rw [unhide zj]) <;> rfl, (unhide HJ).1.1, (unhide HJ).2⟩, by (try rw [unhide zj]); exact (unhide HJ).1.2⟩
              · have z7 : ¬ (i : Int) < (m : Int) + 1 := by omega
                obtain ⟨w17, hw17⟩ : ∃ w17, RwB w16 (fun k => (Value.slice (some ⟨gr, 0, none⟩) (m + 1) cr).ownBlock = some k) w17 (.slice (some ⟨gr, 0, none⟩) (m + 1) cr) (m + 1) ∧ w17 = wr := ⟨_, i2, rfl⟩
                obtain ⟨i3, hw17⟩ := hw17
                subst hw17
                have ht := i3.turned
                have HC17 : Hid (FC w b1 b14 (f : Nat) (t : Nat) u (.slice a n c) (.slice (some ⟨gc, 0, none⟩) m cc) (.slice ea14 en ec14) (encWt (((f : Nat) : Int), ((t : Nat) : Int), u, es)) es w17) := by
                  obtain ⟨n1, n2, n3, n4, n5, n6, n7⟩ := unhide HIN
                  refine (unhide HC16).turned ht (fun e => ?_) (fun k e e2 => ?_) (fun k e => ?_) (fun e => ?_) (fun k e e2 => ?_)
                  · have := own_eq e; omega
                  · have h1 := own_eq e2; have h2 := own_eq e; omega
                  · have := own_eq e; omega
                  · have := own_eq e; omega
                  · have h1 := own_eq e2; have h2 := n7 k e; omega
                have HX17 : Hid (Xw w17 b12 (Value.slice ea12 en ec12).ownBlock (f : Nat) (t : Nat) u w17 (.slice ea12 en ec12) en) := by
                  obtain ⟨n1, n2, n3, n4, n5, n6, n7⟩ := unhide HIN
                  obtain ⟨x1, x2⟩ := unhide HX16
                  have x3 : NRow w11.heap.size w17 (.slice ea12 en ec12) es := rrow_kept x2 (fun b e => ht.block b (x2.lt b e).2 (fun e2 => by have h1 := own_eq e2; have h2 := n6 b e; omega))
                  have x4 : w17.heap[b12]? = some (oV (f : Nat) (t : Nat) u (.slice ea12 en ec12)) := (ht.block _ (heap_lt x1) (fun e2 => by have h1 := own_eq e2; omega)).trans x1
                  have x5 := rw_start (S := fun k => (Value.slice ea12 en ec12).ownBlock = some k ∨ k = b12) x3 (fun k e => .inl e)
                  rw [← unhide HEN] at x5
                  exact ⟨x5, x4, fun e => by have := n6 _ e; omega, heap_lt x4⟩
                have HE4 : Hid (en ≤ 1024) := by
                  have h1 : es.length ≤ 1024 := (unhide HGD).1
                  show en ≤ 1024
                  rw [unhide HEN]; exact h1
                have c12 := (oV_cells (unhide HX17).2.1).2.2.2
                clear HI i1 i2 hlt i3 ht HC16 HX16 HR16
                go_wp2_with fail
                clear c12
                obtain ⟨o12, ho12⟩ : ∃ o12, o12 = (Value.slice ea12 en ec12).ownBlock := ⟨_, rfl⟩
                rw [← ho12] at HX17 HIN
                clear ho12
                -- the first answer's edges are written over
                go_loopw [127] (fun s127 wq => ∃ i : Nat, s127 = .int .i64 (i : Nat) ∧ Hid (i ≤ en ∧ Xw w17 b12 o12 (f : Nat) (t : Nat) u wq (.slice ea12 en ec12) en)) (fun s127 _ => en - (intOf s127).toNat)
                case atStart => exact ⟨0, rfl, Nat.zero_le _, unhide HX17⟩
                case round =>
                  obtain ⟨i, rfl, HI⟩ := hrel
                  obtain ⟨i1, i2⟩ := unhide HI
                  by_cases hlt : i < en
                  · obtain ⟨g12, rfl⟩ : ∃ g12, ea12 = some ⟨g12, 0, none⟩ := by
                      obtain ⟨xs, e1, e2, -⟩ := i2.1
                      exact rrow_some e2 (by omega)
                    obtain ⟨e0, ⟨x, e1⟩, e2, e3⟩ := i2.set hlt (-1)
                    have z8 : (i : Int) < (en : Int) := by omega
                    obtain ⟨j, hj⟩ : ∃ j, j = i + 1 := ⟨_, rfl⟩
                    have zj : Hid (wrap64 ((i : Int) + 1) = (j : Int)) := by have := unhide HE4; show wrap64 ((i : Int) + 1) = (j : Int); unfold wrap64; omega
                    have HJ : Hid ((j ≤ en ∧ en - j < en - i) ∧ Xw w17 b12 o12 (f : Nat) (t : Nat) u (World.setCell _ ⟨g12, i, none⟩ (.int .i64 (-1))) (.slice (some ⟨g12, 0, none⟩) en ec12) en) := ⟨⟨by omega, by omega⟩, e3⟩
                    clear HI i1 i2 hlt hj e3 HX17
                    go_wp2_with fail
                    exact ⟨⟨j, by (try rw [unhide zj]) <;> rfl, (unhide HJ).1.1, (unhide HJ).2⟩, by (try rw [unhide zj]); exact (unhide HJ).1.2⟩
                  · have z8 : ¬ (i : Int) < (en : Int) := by omega
                    have HX18 := hide i2
                    clear HI i1 i2 hlt HX17
                    go_wp2_with fail
                    -- and grow
                    go_loopw [18] (fun s18 wq => ∃ (j a' n' c' : _), s18 = .int .i64 (j : Nat) ∧ Hid (j ≤ 20 ∧ Xw w17 b12 o12 (f : Nat) (t : Nat) u wq (.slice a' n' c') (en + j))) (fun s18 _ => 20 - (intOf s18).toNat)
                    case atStart => exact ⟨0, _, _, _, rfl, Nat.zero_le _, unhide HX18⟩
                    case round =>
                      obtain ⟨j, a', n', c', rfl, HI⟩ := hrel
                      obtain ⟨j1, j2⟩ := unhide HI
                      by_cases hlt : j < 20
                      · have z9 : (j : Int) < 20 := by omega
                        obtain ⟨e0, a2', n2', c2', w19, hr9, e1, e2, e9⟩ := j2.push (-2) (by have := unhide HE4; omega)
                        have HR9 := hide hr9
                        obtain ⟨k, hk⟩ : ∃ k, k = j + 1 := ⟨_, rfl⟩
                        have zk : Hid ((j : Int) + 1 = (k : Int)) := by show (j : Int) + 1 = (k : Int); omega
                        have HJ : Hid ((k ≤ 20 ∧ 20 - k < 20 - j) ∧ Xw w17 b12 o12 (f : Nat) (t : Nat) u (w19.setCell ⟨b12, 3, none⟩ (.slice a2' n2' c2')) (.slice a2' n2' c2') (en + k)) := ⟨⟨by omega, by omega⟩, by rw [hk]; exact e9⟩
                        clear HI j1 j2 hlt hk hr9 e9 HX18
                        go_wp2_with (at_builtin; refine Lib.wpList_append_run _ rfl _ _ 23 23 rfl _ _ rfl rfl _ _ (unhide HR9 _) ?_)
                        exact ⟨⟨k, a2', n2', c2', by rw [unhide zk], (unhide HJ).1.1, (unhide HJ).2⟩, by rw [unhide zk]; exact (unhide HJ).1.2⟩
                      · have z9 : ¬ (j : Int) < 20 := by omega
                        obtain ⟨w18, hw18, hww⟩ : ∃ w18, Xw w17 b12 o12 (f : Nat) (t : Nat) u w18 (.slice a' n' c') (en + j) ∧ w18 = wr := ⟨_, j2, rfl⟩
                        subst hww
                        have ht := hw18.1.turned
                        have HC18 : Hid (FC w b1 b14 (f : Nat) (t : Nat) u (.slice a n c) (.slice (some ⟨gc, 0, none⟩) m cc) (.slice ea14 en ec14) (encWt (((f : Nat) : Int), ((t : Nat) : Int), u, es)) es w18) := by
                          obtain ⟨n1, n2, n3, n4, n5, n6, n7⟩ := unhide HIN
                          refine (unhide HC17).turned ht (fun e => ?_) (fun k e e2 => ?_) (fun k e => ?_) (fun e => ?_) (fun k e e2 => ?_)
                          · rcases e with e | e
                            · have := n6 _ e; omega
                            · omega
                          · have h1 := own_eq e
                            rcases e2 with e2 | e2
                            · have := n6 _ e2; omega
                            · omega
                          · rcases e with e | e
                            · have := n6 _ e; omega
                            · omega
                          · rcases e with e | e
                            · have := n6 _ e; omega
                            · omega
                          · have h1 := n7 k e
                            rcases e2 with e2 | e2
                            · have := n6 _ e2; omega
                            · omega
                        clear HI j1 j2 hlt hw18 ht HC17 HX18 HIN
                        go_upto_region 40 with fail
                        have HC19 : Hid (FC w b1 b14 (f : Nat) (t : Nat) u (.slice a n c) (.slice (some ⟨gc, 0, none⟩) m cc) (.slice ea14 en ec14) (encWt (((f : Nat) : Int), ((t : Nat) : Int), u, es)) es w18.drew) := (unhide HC18).below (Below.refl _ _).drew
                        have HSS : Hid (∀ W, FC w b1 b14 (f : Nat) (t : Nat) u (.slice a n c) (.slice (some ⟨gc, 0, none⟩) m cc) (.slice ea14 en ec14) (encWt (((f : Nat) : Int), ((t : Nat) : Int), u, es)) es W → ((W.cell? ⟨b1, 0, none⟩ = some (.int .i64 (f : Nat)) ∧ W.cell? ⟨b1, 1, none⟩ = some (.int .i64 (t : Nat)) ∧ W.cell? ⟨b1, 2, none⟩ = some (.int .u32 (u : Nat)) ∧ W.cell? ⟨b1, 3, none⟩ = some (.slice a n c)) ∧ (W.cell? ⟨b14, 0, none⟩ = some (.int .i64 (f : Nat)) ∧ W.cell? ⟨b14, 1, none⟩ = some (.int .i64 (t : Nat)) ∧ W.cell? ⟨b14, 2, none⟩ = some (.int .u32 (u : Nat)) ∧ W.cell? ⟨b14, 3, none⟩ = some (.slice ea14 en ec14))) ∧ (convert 27 9 (.slice (some ⟨gc, 0, none⟩) m cc)).run Try.prog W = .ok (.string s1) W) := fun W hW => ⟨⟨oV_cells hW.fb.box, oV_cells hW.box⟩, unhide HCV _ _ hW.fb.cb⟩
                        have hlie : Lies i64v w18.drew (.slice a n c) es := lies_below (unhide HL0) (unhide HC19).fb.bel
                        have CC := hide (encodeR f t u hlie (unhide HGD))
                        have e19 := unhide HSS _ (unhide HC19)
                        clear hlie HC18
                        refine wp_region_noPanic ?_
                        refine regionL [] (fun y => ((y.cell? ⟨b1, 0, none⟩ = some (.int .i64 (f : Nat)) ∧ y.cell? ⟨b1, 1, none⟩ = some (.int .i64 (t : Nat)) ∧ y.cell? ⟨b1, 2, none⟩ = some (.int .u32 (u : Nat)) ∧ y.cell? ⟨b1, 3, none⟩ = some (.slice a n c)) ∧ (y.cell? ⟨b14, 0, none⟩ = some (.int .i64 (f : Nat)) ∧ y.cell? ⟨b14, 1, none⟩ = some (.int .i64 (t : Nat)) ∧ y.cell? ⟨b14, 2, none⟩ = some (.int .u32 (u : Nat)) ∧ y.cell? ⟨b14, 3, none⟩ = some (.slice ea14 en ec14))) ∧ (convert 27 9 (.slice (some ⟨gc, 0, none⟩) m cc)).run Try.prog y = .ok (.string s1) y) (by kernel_rfl) e19 (fun hHeld => ?_)
                        clear e19
                        generalize w18.drew = w19 at *
                        refine takeL (i := 0) (v := ?t4v0) (some 144) rfl rfl (by kernel_rfl) (by kernel_rfl) (by kernel_rfl) (by kernel_rfl) (by kernel_rfl) (fun _ _ _ h => h) (Or.inl ⟨by rfl, ?t4h0⟩) (by assumption) ?t4r0
                        case t4h0 => (intro y hSu; (try dsimp only at hSu); go_simp; first | done | with_reducible rfl)
                        (try simp only [Act.put, List.setIfInBounds_toArray, List.set_cons_zero, List.set_cons_succ])
                        refine takeL (i := 1) (v := ?t4v1) (some 145) rfl rfl (by kernel_rfl) (by kernel_rfl) (by kernel_rfl) (by kernel_rfl) (by kernel_rfl) (fun _ _ _ h => h) (Or.inl ⟨by rfl, ?t4h1⟩) (by assumption) ?t4r1
                        case t4h1 => (intro y hSu; (try dsimp only at hSu); go_simp; first | done | with_reducible rfl)
                        (try simp only [Act.put, List.setIfInBounds_toArray, List.set_cons_zero, List.set_cons_succ])
                        refine takeL (i := 2) (v := ?t4v2) (some 146) rfl rfl (by kernel_rfl) (by kernel_rfl) (by kernel_rfl) (by kernel_rfl) (by kernel_rfl) (fun _ _ _ h => h) (Or.inl ⟨by rfl, ?t4h2⟩) (by assumption) ?t4r2
                        case t4h2 => (intro y hSu; (try dsimp only at hSu); go_simp; first | done | with_reducible rfl)
                        (try simp only [Act.put, List.setIfInBounds_toArray, List.set_cons_zero, List.set_cons_succ])
                        refine readyL (i := 3) (by kernel_rfl) rfl (fun K hK => ?_)
                        go_simp
                        refine (unhide CC).mono ?_
                        rintro e w20 ⟨v20, rfl, h20⟩
                        (try dsimp only)
                        have HC20 := hide ((unhide HC19).below (unhide h20).2)
                        have e20 := unhide HSS _ (unhide HC20)
                        have c20 := unhide HCV _ _ (byrow_lies (unhide h20).1)
                        have CS := hide (sameR (f : Nat) (t : Nat) (f : Nat) (t : Nat) u u (unhide HC20).es_ (lies_below (unhide HL0) (unhide HC20).fb.bel) (by have := (unhide HN).2; omega))
                        simp only [decide_true] at CS
                        clear h20 CC HC19 hHeld
                        refine hK.out _ _ (fun _ => e20) ?_
                        clear hK K
                        (try simp only [Act.put, List.setIfInBounds_toArray, List.set_cons_zero, List.set_cons_succ])
                        have hH6 := e20
                        refine readyL (i := 4) (by kernel_rfl) rfl (fun K hK => ?_)
                        go_simp
                        refine hK.out _ _ (fun _ => e20) ?_
                        clear hK K
                        (try simp only [Act.put, List.setIfInBounds_toArray, List.set_cons_zero, List.set_cons_succ])
                        have hH8 := e20
                        refine takeL (i := 5) (v := ?t9v5) (some 149) rfl rfl (by kernel_rfl) (by kernel_rfl) (by kernel_rfl) (by kernel_rfl) (by kernel_rfl) (fun _ _ _ h => h) (Or.inl ⟨by rfl, ?t9h5⟩) (by assumption) ?t9r5
                        case t9h5 => (intro y hSu; (try dsimp only at hSu); go_simp; first | done | with_reducible rfl)
                        (try simp only [Act.put, List.setIfInBounds_toArray, List.set_cons_zero, List.set_cons_succ])
                        refine takeL (i := 6) (v := ?t9v6) (some 150) rfl rfl (by kernel_rfl) (by kernel_rfl) (by kernel_rfl) (by kernel_rfl) (by kernel_rfl) (fun _ _ _ h => h) (Or.inl ⟨by rfl, ?t9h6⟩) (by assumption) ?t9r6
                        case t9h6 => (intro y hSu; (try dsimp only at hSu); go_simp; first | done | with_reducible rfl)
                        (try simp only [Act.put, List.setIfInBounds_toArray, List.set_cons_zero, List.set_cons_succ])
                        refine takeL (i := 7) (v := ?t9v7) (some 151) rfl rfl (by kernel_rfl) (by kernel_rfl) (by kernel_rfl) (by kernel_rfl) (by kernel_rfl) (fun _ _ _ h => h) (Or.inl ⟨by rfl, ?t9h7⟩) (by assumption) ?t9r7
                        case t9h7 => (intro y hSu; (try dsimp only at hSu); go_simp; first | done | with_reducible rfl)
                        (try simp only [Act.put, List.setIfInBounds_toArray, List.set_cons_zero, List.set_cons_succ])
                        refine takeL (i := 8) (v := ?t9v8) (some 152) rfl rfl (by kernel_rfl) (by kernel_rfl) (by kernel_rfl) (by kernel_rfl) (by kernel_rfl) (fun _ _ _ h => h) (Or.inl ⟨by rfl, ?t9h8⟩) (by assumption) ?t9r8
                        case t9h8 => (intro y hSu; (try dsimp only at hSu); go_simp; first | done | with_reducible rfl)
                        (try simp only [Act.put, List.setIfInBounds_toArray, List.set_cons_zero, List.set_cons_succ])
                        refine readyL (i := 9) (by kernel_rfl) rfl (fun K hK => ?_)
                        go_simp
                        refine (unhide CS).mono ?_
                        rintro e w21 ⟨rfl, hb21⟩
                        (try dsimp only)
                        have HC21 := hide ((unhide HC20).below (unhide hb21))
                        have e21 := unhide HSS _ (unhide HC21)
                        have HBF : Hid (Below w.heap.size w w21) := (unhide HC21).fb.bel
                        clear CS hb21 HC20 HC21
                        refine hK.out _ _ (fun _ => e21) ?_
                        clear hK K
                        (try simp only [Act.put, List.setIfInBounds_toArray, List.set_cons_zero, List.set_cons_succ])
                        have hH11 := e21
                        refine takeL (i := 10) (v := ?t12v10) (some 154) rfl rfl (by kernel_rfl) (by kernel_rfl) (by kernel_rfl) (by kernel_rfl) (by kernel_rfl) (fun _ _ _ h => h) (Or.inl ⟨by rfl, ?t12h10⟩) (by assumption) ?t12r10
                        case t12h10 => (intro y hSu; (try dsimp only at hSu); go_simp; first | done | with_reducible rfl)
                        (try simp only [Act.put, List.setIfInBounds_toArray, List.set_cons_zero, List.set_cons_succ])
                        refine takeL (i := 11) (v := ?t12v11) (some 2) rfl rfl (by kernel_rfl) (by kernel_rfl) (by kernel_rfl) (by kernel_rfl) (by kernel_rfl) (fun _ _ _ h => h) (Or.inl ⟨by rfl, ?t12h11⟩) (by assumption) ?t12r11
                        case t12h11 => (intro y hSu; (try dsimp only at hSu); go_simp; first | done | with_reducible rfl)
                        (try simp only [Act.put, List.setIfInBounds_toArray, List.set_cons_zero, List.set_cons_succ])
                        refine doneL (by kernel_rfl) ?_ _
                        refine NoPanic.normal ?_
                        clear e20 e21 c20
                        go_wp2_with fail
                        go_ret
                        exact ⟨by simp, HBF⟩
  · have he : encV (F, T, u, es) = [] := by unfold encV; rw [if_neg hE]
    have h8 := unhide HB8
    rw [he] at h8
    obtain ⟨ba, bc, rfl⟩ := rrow_shape h8
    generalize errC (F, T, u, es) = code at *
    have z5 : (code == 0) = false := by simpa using hE
    have z6 : (code != 0) = true := by simpa using hE
    have HB9 : Hid (Below w.heap.size w w8) := (unhide HA8).2.2.2
    clear he hE h8 HB8 HC8 HA8 HS6 HS7
    go_wp2_with fail
    go_ret
    exact ⟨by simp, HB9⟩
end Go.Proofs.Ytffdpfkcfohbiaa
