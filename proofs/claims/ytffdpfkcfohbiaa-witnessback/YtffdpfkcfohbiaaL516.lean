/- WitnessBack: the law's walk. -/
import Derived.Test.YtffdpfkcfohbiaaMb16
namespace Go.Proofs.Ytffdpfkcfohbiaa
open Go.RowKit Go.Maps
theorem readyL2 {P : Program} {ops : Array Oper} {Q : Exit → Act → World → Prop} {md : Region.Mode} {S : World → Prop} {T : List Nat} {i k : Nat} {o o2 : Oper} {fuel : Nat} {listed : Array Bool} {a : Act} {w : World} (hr : Region.ready md ops listed = [i, k]) (ho : ops[i]? = some o) (ho2 : ops[k]? = some o2)
    (h : ∀ K' : Act → World → Prop, Shut (∀ a w, (T.contains i = false → S w) → wpAnyL P md ops Q S T fuel (listed.setIfInBounds i true) a w → K' a w) → if Region.wanted o (yielded ops a.tmps) = true then Oper.wp P o a w K' Q else K' (a.put o.dst undef) w)
    (h2 : ∀ K' : Act → World → Prop, Shut (∀ a w, (T.contains k = false → S w) → wpAnyL P md ops Q S T fuel (listed.setIfInBounds k true) a w → K' a w) → if Region.wanted o2 (yielded ops a.tmps) = true then Oper.wp P o2 a w K' Q else K' (a.put o2.dst undef) w) :
    wpAnyL P md ops Q S T (fuel + 1) listed a w := by
  refine ⟨fun h0 => (by rw [hr] at h0; cases h0), fun j hj => ?_⟩
  rw [hr] at hj
  rcases List.mem_cons.1 hj with e | e
  · subst e
    exact wpOp_step ho (fun K' hK => h K' (fun a w hS hW => hK a w ⟨hS, hW⟩))
  · obtain rfl : j = k := by simpa using e
    exact wpOp_step ho2 (fun K' hK => h2 K' (fun a w hS hW => hK a w ⟨hS, hW⟩))
set_option maxHeartbeats 16000000 in
set_option maxRecDepth 100000 in
theorem backW (w : World) {ev v : Value} {es : List Int} {bs : List Nat} (F T : Int) (u : Nat) (cut : Int) (h : Lies i64v w ev es) (hu : u < 4294967296) (hl : es.length * 8 ≤ 140737488351232) (hv : Lies u8v w v bs) (hx : ∀ x ∈ bs, x < 256) (hbl : bs.length ≤ 140737488351232) :
    Calls Try.prog 5 #[.agg #[.int .i64 F, .int .i64 T, .int .u32 (u : Nat), ev], v, .int .i64 cut] w fun e w' => e = .returned (.bool true) ∧ Hid (Below w.heap.size w w') := by
  obtain ⟨a, c, he⟩ := lies_shape h
  obtain ⟨n, hn⟩ : ∃ n, n = es.length := ⟨_, rfl⟩
  rw [← hn] at he
  subst he
  obtain ⟨ba, bc, he⟩ := lies_shape hv
  obtain ⟨bn, hbn⟩ : ∃ bn, bn = bs.length := ⟨_, rfl⟩
  rw [← hbn] at he
  subst he
  have HQ := hide (And.intro (inBox_new (x := (F, T, u, es)) (Below.refl _ w) h).1 (below_new w (oV F T u (.slice a n c))))
  have CA : Hid (∀ W : World, Calls Try.prog 7 #[] W fun e w' => e = .returned (.bool true) ∧ Hid (Below W.heap.size W w')) := fun W => awakeS W
  have CO : Hid (∀ W : World, Below w.heap.size w W → Calls Try.prog 9 #[.agg #[.int .i64 F, .int .i64 T, .int .u32 (u : Nat), .slice a n c]] W fun e w' => ∃ ev', e = .returned (.agg #[.int .i64 F, .int .i64 T, .int .u32 (u : Nat), ev']) ∧ Hid (NRow W.heap.size w' ev' es ∧ Below W.heap.size W w')) := fun W hW => ownS F T u (lies_below h hW) (by omega)
  have HNew : Hid (∀ W : World, Below w.heap.size w W → ∃ a' n' c' w', (∀ ty, (Builtin.append_ #[27, 27] ty #[.slice (some ⟨W.heap.size, 0, none⟩) 0 0, .slice ba bn bc]).run Try.prog (W.alloc (.cells #[] 5)) = .ok (.slice a' n' c') w') ∧ Below W.heap.size W w' ∧ Hid (Calls Try.prog 12 #[.slice a' n' c'] w' fun e w2 => Hid (DecAns w' (decV bs) e w2))) := fun W hW => by
    obtain ⟨a', n', c', w', r, g1, g2⟩ := newB (lies_below hv hW) (by omega)
    exact ⟨a', n', c', w', r, g2, decodeS (byrow_lies g1) hx (by omega) (fun g e => (g1.lt g e).2)⟩
  have HV := hide (And.intro hv hx)
  have HBN : Hid (bn = bs.length ∧ bn ≤ 140737488351232) := ⟨hbn, by omega⟩
  have HU := hide hu
  clear h hu hl hn hv hx hbl hbn
  unfold oV at HQ
  go_enter Try.func5, Try.ntmps5
  go_wp2_with fail
  refine (unhide CA _).mono ?_
  rintro e w1 ⟨rfl, hb1⟩
  have HQ1 : Hid (InBox w.heap.size w1 w.heap.size (F, T, u, es) (.slice a n c) ∧ Below w.heap.size w w1) := ⟨(unhide HQ).1.below (unhide hb1), (unhide HQ).2.trans ((unhide hb1).mono (unhide HQ).2.size)⟩
  obtain ⟨c0, c1, c2, c3⟩ := oV_cells (unhide HQ1).1.1
  obtain ⟨b0, hb0⟩ : ∃ b0, b0 = w.heap.size := ⟨_, rfl⟩
  rw [← hb0] at c0 c1 c2 c3 ⊢
  have HB0 := hide hb0
  clear hb1 HQ CA hb0
  simp only at c0 c1 c2 c3
  go_wp2_with fail
  refine (unhide CO _ (unhide HQ1).2).mono ?_
  rintro e w2 ⟨ev2, rfl, h2⟩
  have CE := hide (encodeS F T u (nrow_lies (unhide h2).1) (unhide HU))
  have HQ2 : Hid (InBox w.heap.size w2 w.heap.size (F, T, u, es) (.slice a n c) ∧ Below w.heap.size w w2) := ⟨(unhide HQ1).1.below (unhide h2).2, (unhide HQ1).2.trans ((unhide h2).2.mono (unhide HQ1).2.size)⟩
  clear h2 HQ1 CO c0 c1 c2 c3
  go_wp2_with fail
  refine (unhide CE).mono ?_
  intro e w3 HA
  obtain ⟨bv, rfl, h3, hb3⟩ := unhide HA
  have HQ3 : Hid (InBox w.heap.size w3 w.heap.size (F, T, u, es) (.slice a n c) ∧ Below w.heap.size w w3) := ⟨(unhide HQ2).1.below hb3, (unhide HQ2).2.trans (hb3.mono (unhide HQ2).2.size)⟩
  have H3 := hide h3
  clear HA h3 hb3 CE HQ2
  go_upto_if 26 with fail
  go_cut [] from 7 to 81 (fun W => Hid (Below w.heap.size w W))
  case first =>
    by_cases hE : errC (F, T, u, es) = 0
    · have hgood := good_of hE (unhide HU)
      have hev : encV (F, T, u, es) = encWt (F, T, u, es) := by unfold encV; rw [if_pos hE]
      have h3 := unhide H3
      rw [hev] at h3
      obtain ⟨va, vc, hvv⟩ := rrow_shape h3
      obtain ⟨vn, hvn⟩ : ∃ vn, vn = (encWt (F, T, u, es)).length := ⟨_, rfl⟩
      rw [← hvn] at hvv
      subst hvv
      have CD := hide (decodeS (byrow_lies h3) (enc_byte _) (by have := enc_len hgood; omega) (fun g e => (h3.lt g e).2))
      rw [decV_enc hgood] at CD
      have HVN : Hid (vn = (encWt (F, T, u, es)).length ∧ 0 < vn ∧ vn ≤ 4000) := ⟨hvn, by rw [hvn]; exact enc_pos _, by rw [hvn]; exact enc_len hgood⟩
      have HGD := hide hgood
      have HX3 := hide h3
      rw [hE]
      clear hE hgood hev h3 H3 hvn HNew
      go_wp2_with fail
      refine (unhide CD).mono ?_
      intro e w4 HA
      obtain ⟨ev4, rfl, g1, g2⟩ := unhide HA
      obtain ⟨ea, ec, hev⟩ := rrow_shape g1
      have hB4 : Hid (Below w.heap.size w w4) := (unhide HQ3).2.trans (g2.mono (unhide HQ3).2.size)
      obtain ⟨q1, q2⟩ := inBox_new (x := (F, T, u, es)) (unhide hB4) (nrow_lies g1)
      have hq6 := (InBox.below (unhide HQ3).1 g2).below q2
      have HX5 := hide (rrow_below (rrow_below (unhide HX3) g2) q2)
      have HQ5 := hide (And.intro q1 (And.intro hq6 ((unhide hB4).trans (q2.mono (unhide hB4).size))))
      clear HA g1 g2 hB4 CD HQ3 q1 q2 hq6 HX3
      simp only at hev HQ5 ⊢
      obtain ⟨en, hen⟩ : ∃ en, en = es.length := ⟨_, rfl⟩
      rw [← hen] at hev
      subst hev
      clear hen
      unfold oV at HQ5 HX5
      go_upto_region 6 with fail
      generalize w4.alloc (Obj.cells #[Value.int .i64 F, Value.int .i64 T, Value.int .u32 (u : Nat), Value.slice ea en ec] 25) = w5 at *
      generalize w4.heap.size = b5 at *
      have CS := hide (sameR F T F T u u (unhide HQ5).1.2.1 (unhide HQ5).2.1.2.1 (by have h1 : es.length ≤ 1024 := (unhide HGD).1; show es.length ≤ _; omega))
      obtain ⟨c0, c1, c2, c3⟩ := oV_cells (unhide HQ5).1.1
      obtain ⟨d0, d1, d2, d3⟩ := oV_cells (unhide HQ5).2.1.1
      rw [← unhide HB0] at d0 d1 d2 d3
      simp only [decide_true] at c0 c1 c2 c3 d0 d1 d2 d3 CS
      have HB5 := hide (unhide HQ5).2.2
      clear HQ5
      go_wp2_with fail
      refine (unhide CS).mono ?_
      rintro e w6 ⟨rfl, hb6⟩
      have HB6 : Hid (Below w.heap.size w w6) := (unhide HB5).trans ((unhide hb6).mono (unhide HB5).size)
      have HX6 := hide (rrow_below (unhide HX5) (unhide hb6))
      clear CS HB5 HX5 hb6 c0 c1 c2 c3 d0 d1 d2 d3
      have z1 : ((vn : Int) == 0) = false := by have := (unhide HVN).2.1; simp; omega
      have z2 : (0 : Int) < (vn : Int) := by have := (unhide HVN).2.1; omega
      have z3 : (vn : Int) < 5000 := by have := (unhide HVN).2.2; omega
      obtain ⟨k, hk1, hk2⟩ := rem_of cut (show 0 < vn from (unhide HVN).2.1) (unhide HVN).2.2
      go_upto_region 9 with fail
      rw [hk1]
      generalize (IntKind.u64.wrap cut).tmod (vn : Int) = kk at *
      clear hk1
      obtain ⟨g, rfl⟩ := rrow_some (unhide HX6) (enc_pos _)
      have z4 : (k : Int) ≤ (vc : Int) := by have := (lies_len (byrow_lies (unhide HX6))).2; omega
      have z5 : k ≤ vc := by omega
      have CD2 := hide (decodeS (lies_take (byrow_lies (unhide HX6)) (show k ≤ vn by omega)) (fun y hy => enc_byte _ y (List.mem_of_mem_take hy)) (by rw [List.length_take]; have := (unhide HVN).2.2; omega) (fun b e => ((unhide HX6).lt b e).2))
      rw [decV_take (unhide HGD) (by rw [← (unhide HVN).1]; exact hk2)] at CD2
      clear hk2
      go_wp2_with fail
      refine (unhide CD2).mono ?_
      intro e w7 HA
      obtain ⟨ev7, rfl, g1, g2⟩ := unhide HA
      have HB7 : Hid (Below w.heap.size w w7) := (unhide HB6).trans (g2.mono (unhide HB6).size)
      have HX7 := hide (rrow_below (unhide HX6) g2)
      clear HA g1 CD2 HB6 HX6 g2 z4 z5
      go_upto_region 10 with fail
      have HLX := hide (byrow_lies (unhide HX7))
      have hV7 := lies_below (unhide HV).1 (unhide HB7)
      have HGL : Hid ((encWt (F, T, u, es)).length ≤ 4000 ∧ ∀ y ∈ encWt (F, T, u, es), y < 256) := ⟨enc_len (unhide HGD), enc_byte _⟩
      have hdv := fun t => decV_app (unhide HGD) t
      by_cases hbs : bs = []
      · subst hbs
        obtain rfl : bn = 0 := by have := (unhide HBN).1; simpa using this
        have hd := hdv []
        rw [if_pos rfl, List.append_nil] at hd
        have HD : Hid (decV (encWt (F, T, u, es) ++ ([] : List Nat)) = ((F, T, u, es), 0)) := by rw [List.append_nil]; exact hd
        have HL2 : Hid (Lies u8v w7 (.slice ba 0 bc) []) := hV7
        clear hd hdv hV7 HV HBN
        generalize encWt (F, T, u, es) = xe at *
        have S : Hid (St w7 none none w7.drew) := (st_start w7).drew
        refine wp_region_noPanic ?_
        refine regionL [] (fun y => True) (by kernel_rfl) trivial (fun hHeld => ?_)
        generalize w7.drew = W0 at *
        refine takeL (i := 1) (v := ?t1v1) (some 61) rfl rfl (by kernel_rfl) (by kernel_rfl) (by kernel_rfl) (by kernel_rfl) (by kernel_rfl) (fun _ _ _ h => h) (Or.inl ⟨by rfl, ?t1h1⟩) (by assumption) ?t1r1
        case t1h1 => (intro y hSu; (try dsimp only at hSu); go_simp; first | done | with_reducible rfl)
        (try simp only [Act.put, List.setIfInBounds_toArray, List.set_cons_zero, List.set_cons_succ])
        refine takeL (i := 3) (v := ?t1v3) (some 63) rfl rfl (by kernel_rfl) (by kernel_rfl) (by kernel_rfl) (by kernel_rfl) (by kernel_rfl) (fun _ _ _ h => h) (Or.inl ⟨by rfl, ?t1h3⟩) (by assumption) ?t1r3
        case t1h3 => (intro y hSu; (try dsimp only at hSu); go_simp; first | done | with_reducible rfl)
        (try simp only [Act.put, List.setIfInBounds_toArray, List.set_cons_zero, List.set_cons_succ])
        refine takeL (i := 4) (v := ?t1v4) (some 64) rfl rfl (by kernel_rfl) (by kernel_rfl) (by kernel_rfl) (by kernel_rfl) (by kernel_rfl) (fun _ _ _ h => h) (Or.inl ⟨by rfl, ?t1h4⟩) (by assumption) ?t1r4
        case t1h4 => (intro y hSu; (try dsimp only at hSu); go_simp; first | done | with_reducible rfl)
        (try simp only [Act.put, List.setIfInBounds_toArray, List.set_cons_zero, List.set_cons_succ])
        refine takeL (i := 5) (v := ?t1v5) (some 65) rfl rfl (by kernel_rfl) (by kernel_rfl) (by kernel_rfl) (by kernel_rfl) (by kernel_rfl) (fun _ _ _ h => h) (Or.inl ⟨by rfl, ?t1h5⟩) (by assumption) ?t1r5
        case t1h5 => (intro y hSu; (try dsimp only at hSu); go_simp; first | done | with_reducible rfl)
        (try simp only [Act.put, List.setIfInBounds_toArray, List.set_cons_zero, List.set_cons_succ])
        refine takeL (i := 6) (v := ?t1v6) (some 66) rfl rfl (by kernel_rfl) (by kernel_rfl) (by kernel_rfl) (by kernel_rfl) (by kernel_rfl) (fun _ _ _ h => h) (Or.inl ⟨by rfl, ?t1h6⟩) (by assumption) ?t1r6
        case t1h6 => (intro y hSu; (try dsimp only at hSu); go_simp; first | done | with_reducible rfl)
        (try simp only [Act.put, List.setIfInBounds_toArray, List.set_cons_zero, List.set_cons_succ])
        refine takeL (i := 7) (v := ?t1v7) (some 67) rfl rfl (by kernel_rfl) (by kernel_rfl) (by kernel_rfl) (by kernel_rfl) (by kernel_rfl) (fun _ _ _ h => h) (Or.inl ⟨by rfl, ?t1h7⟩) (by assumption) ?t1r7
        case t1h7 => (intro y hSu; (try dsimp only at hSu); go_simp; first | done | with_reducible rfl)
        (try simp only [Act.put, List.setIfInBounds_toArray, List.set_cons_zero, List.set_cons_succ])
        refine readyL2 (i := 0) (k := 13) (by kernel_rfl) rfl rfl (fun K hK => ?_) (fun K hK => ?_)
        · go_simp
          refine hK.out _ _ (fun _ => trivial) ?_
          clear hK K
          (try simp only [Act.put, List.setIfInBounds_toArray, List.set_cons_zero, List.set_cons_succ])
          have hH2 := trivial
          have S2 : Hid (St w7 none (some (.slice (some ⟨W0.heap.size, 0, none⟩) 0 0, [])) (W0.alloc (Obj.cells #[] 5))) := (unhide S).build
          clear S
          have S := S2
          clear S2
          generalize W0.alloc (Obj.cells #[] 5) = W1a at *
          generalize W0.heap.size = g0 at *
          refine readyL2 (i := 2) (k := 13) (by kernel_rfl) rfl rfl (fun K hK => ?_) (fun K hK => ?_)
          · obtain ⟨a1, n1, c1, W2a, hr, hS⟩ := (unhide S).app (unhide HLX) (by have := (unhide HGL).1; simp; omega)
            have SA : Hid (St w7 none (some (.slice a1 n1 c1, xe)) W2a) := hS
            have HR := hide hr
            clear hr hS
            clear S
            have S := SA
            clear SA
            refine step_append_run rfl (.tmp 60) (.tmp 61) 27 rfl _ _ (by simp [Act.eval]) (by simp [Act.eval]) _ _ (unhide HR _) ?_
            refine hK.out _ _ (fun _ => trivial) ?_
            clear hK K
            (try simp only [Act.put, List.setIfInBounds_toArray])
            have hH3 := trivial
            clear HR
            refine readyL2 (i := 8) (k := 13) (by kernel_rfl) rfl rfl (fun K hK => ?_) (fun K hK => ?_)
            · obtain ⟨a2, n2, c2, W3a, hr, hS⟩ := (unhide S).app (unhide HL2) (by have := (unhide HGL).1; simp; omega)
              have SA : Hid (St w7 none (some (.slice a2 n2 c2, xe ++ [])) W3a) := hS
              have HR := hide hr
              clear hr hS
              clear S
              have S := SA
              clear SA
              refine step_append_run rfl (.tmp 62) (.tmp 67) 27 rfl _ _ (by simp [Act.eval]) (by simp [Act.eval]) _ _ (unhide HR _) ?_
              refine hK.out _ _ (fun _ => trivial) ?_
              clear hK K
              (try simp only [Act.put])
              have hH4 := trivial
              clear HR
              refine readyL2 (i := 9) (k := 13) (by kernel_rfl) rfl rfl (fun K hK => ?_) (fun K hK => ?_)
              · have CD := hide (decodeS (unhide S).lies (fun y hy => (unhide HGL).2 y (by simpa using hy)) (by have := (unhide HGL).1; simp; omega) (unhide S).own)
                rw [unhide HD] at CD
                go_simp
                refine (unhide CD).mono ?_
                intro e w9 HA
                obtain ⟨ev9, rfl, g1, g2⟩ := unhide HA
                obtain ⟨ea7, ec7, hev⟩ := rrow_shape g1
                have S2 := hide ((unhide S).call g1 g2)
                clear HA g1 g2 S CD
                simp only at hev S2 ⊢
                obtain ⟨en7, hen⟩ : ∃ en7, en7 = es.length := ⟨_, rfl⟩
                (first | rw [← hen] at hev | skip)
                subst hev
                have S := S2
                clear S2
                (try clear hen)
                (try dsimp only)
                refine hK.out _ _ (fun _ => trivial) ?_
                clear hK K
                (try simp only [Act.put, List.setIfInBounds_toArray, List.set_cons_zero, List.set_cons_succ])
                have hH5 := trivial
                refine takeL (i := 10) (v := ?t6v10) (some 59) rfl rfl (by kernel_rfl) (by kernel_rfl) (by kernel_rfl) (by kernel_rfl) (by kernel_rfl) (fun _ _ _ h => h) (Or.inl ⟨by rfl, ?t6h10⟩) (by assumption) ?t6r10
                case t6h10 => (intro y hSu; (try dsimp only at hSu); go_simp; first | done | with_reducible rfl)
                (try simp only [Act.put, List.setIfInBounds_toArray, List.set_cons_zero, List.set_cons_succ])
                refine takeL (i := 11) (v := ?t6v11) (some 70) rfl rfl (by kernel_rfl) (by kernel_rfl) (by kernel_rfl) (by kernel_rfl) (by kernel_rfl) (fun _ _ _ h => h) (Or.inl ⟨by rfl, ?t6h11⟩) (by assumption) ?t6r11
                case t6h11 => (intro y hSu; (try dsimp only at hSu); go_simp; first | done | with_reducible rfl)
                (try simp only [Act.put, List.setIfInBounds_toArray, List.set_cons_zero, List.set_cons_succ])
                refine takeL (i := 12) (v := ?t6v12) (some 71) rfl rfl (by kernel_rfl) (by kernel_rfl) (by kernel_rfl) (by kernel_rfl) (by kernel_rfl) (fun _ _ _ h => h) (Or.inl ⟨by rfl, ?t6h12⟩) (by assumption) ?t6r12
                case t6h12 => (intro y hSu; (try dsimp only at hSu); go_simp; first | done | with_reducible rfl)
                (try simp only [Act.put, List.setIfInBounds_toArray, List.set_cons_zero, List.set_cons_succ])
                refine readyL (i := 13) (by kernel_rfl) rfl (fun K hK => ?_)
                go_simp
                refine hK.out _ _ (fun _ => trivial) ?_
                clear hK K
                (try simp only [Act.put, List.setIfInBounds_toArray, List.set_cons_zero, List.set_cons_succ])
                have hH7 := trivial
                have S2 : Hid (Sf w7 (some w9.heap.size) (.slice ea7 en7 ec7) es (w9.alloc (Obj.cells #[Value.int .i64 0, Value.int .i64 0, Value.int .u32 0, Value.slice none 0 0] 25))) := (unhide S).alloc
                clear S
                have S := S2
                clear S2
                generalize w9.alloc (Obj.cells #[Value.int .i64 0, Value.int .i64 0, Value.int .u32 0, Value.slice none 0 0] 25) = W5b at *
                generalize w9.heap.size = q at *
                obtain ⟨⟨e0, e1, e2, e3⟩, k0, k1, k2, k3⟩ := (unhide S).cells
                have HBF : Hid (Below w.heap.size w (set4 W5b q (.int .i64 F) (.int .i64 T) (.int .u32 (u : Nat)) (.slice ea7 en7 ec7))) := (unhide HB7).trans (((unhide S).fin (.int .i64 F) (.int .i64 T) (.int .u32 (u : Nat)) (.slice ea7 en7 ec7)).mono (unhide HB7).size)
                clear S
                unfold set4 at HBF
                refine readyL (i := 14) (by kernel_rfl) rfl (fun K hK => ?_)
                go_simp
                refine hK.out _ _ (fun _ => trivial) ?_
                clear hK K
                (try simp only [Act.put, List.setIfInBounds_toArray, List.set_cons_zero, List.set_cons_succ])
                have hH9 := trivial
                refine takeL (i := 15) (v := ?t10v15) (some 13) rfl rfl (by kernel_rfl) (by kernel_rfl) (by kernel_rfl) (by kernel_rfl) (by kernel_rfl) (fun _ _ _ h => h) (Or.inl ⟨by rfl, ?t10h15⟩) (by assumption) ?t10r15
                case t10h15 => (intro y hSu; (try dsimp only at hSu); go_simp; first | done | with_reducible rfl)
                (try simp only [Act.put, List.setIfInBounds_toArray, List.set_cons_zero, List.set_cons_succ])
                refine doneL (by kernel_rfl) ?_ _
                refine NoPanic.normal ?_
                clear e0 e1 e2 e3 k0 k1 k2 k3
                go_wp2_with fail
                go_meet
                case rel => exact HBF
              · go_simp
                refine hK.out _ _ (fun _ => trivial) ?_
                clear hK K
                (try simp only [Act.put, List.setIfInBounds_toArray, List.set_cons_zero, List.set_cons_succ])
                have hH12 := trivial
                have S2 : Hid (St w7 (some W3a.heap.size) (some (.slice a2 n2 c2, xe ++ [])) (W3a.alloc (Obj.cells #[Value.int .i64 0, Value.int .i64 0, Value.int .u32 0, Value.slice none 0 0] 25))) := (unhide S).alloc
                clear S
                have S := S2
                clear S2
                generalize W3a.alloc (Obj.cells #[Value.int .i64 0, Value.int .i64 0, Value.int .u32 0, Value.slice none 0 0] 25) = W4b at *
                generalize W3a.heap.size = q at *
                refine readyL (i := 9) (by kernel_rfl) rfl (fun K hK => ?_)
                have CD := hide (decodeS (unhide S).lies (fun y hy => (unhide HGL).2 y (by simpa using hy)) (by have := (unhide HGL).1; simp; omega) (unhide S).own)
                rw [unhide HD] at CD
                go_simp
                refine (unhide CD).mono ?_
                intro e w9 HA
                obtain ⟨ev9, rfl, g1, g2⟩ := unhide HA
                obtain ⟨ea7, ec7, hev⟩ := rrow_shape g1
                have S2 := hide ((unhide S).call g1 g2)
                clear HA g1 g2 S CD
                simp only at hev S2 ⊢
                obtain ⟨en7, hen⟩ : ∃ en7, en7 = es.length := ⟨_, rfl⟩
                (first | rw [← hen] at hev | skip)
                subst hev
                have S := S2
                clear S2
                (try clear hen)
                (try dsimp only)
                refine hK.out _ _ (fun _ => trivial) ?_
                clear hK K
                (try simp only [Act.put, List.setIfInBounds_toArray, List.set_cons_zero, List.set_cons_succ])
                have hH13 := trivial
                refine takeL (i := 10) (v := ?t14v10) (some 59) rfl rfl (by kernel_rfl) (by kernel_rfl) (by kernel_rfl) (by kernel_rfl) (by kernel_rfl) (fun _ _ _ h => h) (Or.inl ⟨by rfl, ?t14h10⟩) (by assumption) ?t14r10
                case t14h10 => (intro y hSu; (try dsimp only at hSu); go_simp; first | done | with_reducible rfl)
                (try simp only [Act.put, List.setIfInBounds_toArray, List.set_cons_zero, List.set_cons_succ])
                refine takeL (i := 11) (v := ?t14v11) (some 70) rfl rfl (by kernel_rfl) (by kernel_rfl) (by kernel_rfl) (by kernel_rfl) (by kernel_rfl) (fun _ _ _ h => h) (Or.inl ⟨by rfl, ?t14h11⟩) (by assumption) ?t14r11
                case t14h11 => (intro y hSu; (try dsimp only at hSu); go_simp; first | done | with_reducible rfl)
                (try simp only [Act.put, List.setIfInBounds_toArray, List.set_cons_zero, List.set_cons_succ])
                refine takeL (i := 12) (v := ?t14v12) (some 71) rfl rfl (by kernel_rfl) (by kernel_rfl) (by kernel_rfl) (by kernel_rfl) (by kernel_rfl) (fun _ _ _ h => h) (Or.inl ⟨by rfl, ?t14h12⟩) (by assumption) ?t14r12
                case t14h12 => (intro y hSu; (try dsimp only at hSu); go_simp; first | done | with_reducible rfl)
                (try simp only [Act.put, List.setIfInBounds_toArray, List.set_cons_zero, List.set_cons_succ])
                obtain ⟨⟨e0, e1, e2, e3⟩, k0, k1, k2, k3⟩ := (unhide S).cells
                have HBF : Hid (Below w.heap.size w (set4 w9 q (.int .i64 F) (.int .i64 T) (.int .u32 (u : Nat)) (.slice ea7 en7 ec7))) := (unhide HB7).trans (((unhide S).fin (.int .i64 F) (.int .i64 T) (.int .u32 (u : Nat)) (.slice ea7 en7 ec7)).mono (unhide HB7).size)
                clear S
                unfold set4 at HBF
                refine readyL (i := 14) (by kernel_rfl) rfl (fun K hK => ?_)
                go_simp
                refine hK.out _ _ (fun _ => trivial) ?_
                clear hK K
                (try simp only [Act.put, List.setIfInBounds_toArray, List.set_cons_zero, List.set_cons_succ])
                have hH16 := trivial
                refine takeL (i := 15) (v := ?t17v15) (some 13) rfl rfl (by kernel_rfl) (by kernel_rfl) (by kernel_rfl) (by kernel_rfl) (by kernel_rfl) (fun _ _ _ h => h) (Or.inl ⟨by rfl, ?t17h15⟩) (by assumption) ?t17r15
                case t17h15 => (intro y hSu; (try dsimp only at hSu); go_simp; first | done | with_reducible rfl)
                (try simp only [Act.put, List.setIfInBounds_toArray, List.set_cons_zero, List.set_cons_succ])
                refine doneL (by kernel_rfl) ?_ _
                refine NoPanic.normal ?_
                clear e0 e1 e2 e3 k0 k1 k2 k3
                go_wp2_with fail
                go_meet
                case rel => exact HBF
            · go_simp
              refine hK.out _ _ (fun _ => trivial) ?_
              clear hK K
              (try simp only [Act.put, List.setIfInBounds_toArray, List.set_cons_zero, List.set_cons_succ])
              have hH19 := trivial
              have S2 : Hid (St w7 (some W2a.heap.size) (some (.slice a1 n1 c1, xe)) (W2a.alloc (Obj.cells #[Value.int .i64 0, Value.int .i64 0, Value.int .u32 0, Value.slice none 0 0] 25))) := (unhide S).alloc
              clear S
              have S := S2
              clear S2
              generalize W2a.alloc (Obj.cells #[Value.int .i64 0, Value.int .i64 0, Value.int .u32 0, Value.slice none 0 0] 25) = W3b at *
              generalize W2a.heap.size = q at *
              refine readyL (i := 8) (by kernel_rfl) rfl (fun K hK => ?_)
              obtain ⟨a2, n2, c2, W9a, hr, hS⟩ := (unhide S).app (unhide HL2) (by have := (unhide HGL).1; simp; omega)
              have SA : Hid (St w7 (some q) (some (.slice a2 n2 c2, xe ++ [])) W9a) := hS
              have HR := hide hr
              clear hr hS
              clear S
              have S := SA
              clear SA
              refine step_append_run rfl (.tmp 62) (.tmp 67) 27 rfl _ _ (by simp [Act.eval]) (by simp [Act.eval]) _ _ (unhide HR _) ?_
              refine hK.out _ _ (fun _ => trivial) ?_
              clear hK K
              (try simp only [Act.put, List.setIfInBounds_toArray])
              have hH20 := trivial
              clear HR
              refine readyL (i := 9) (by kernel_rfl) rfl (fun K hK => ?_)
              have CD := hide (decodeS (unhide S).lies (fun y hy => (unhide HGL).2 y (by simpa using hy)) (by have := (unhide HGL).1; simp; omega) (unhide S).own)
              rw [unhide HD] at CD
              go_simp
              refine (unhide CD).mono ?_
              intro e w9 HA
              obtain ⟨ev9, rfl, g1, g2⟩ := unhide HA
              obtain ⟨ea7, ec7, hev⟩ := rrow_shape g1
              have S2 := hide ((unhide S).call g1 g2)
              clear HA g1 g2 S CD
              simp only at hev S2 ⊢
              obtain ⟨en7, hen⟩ : ∃ en7, en7 = es.length := ⟨_, rfl⟩
              (first | rw [← hen] at hev | skip)
              subst hev
              have S := S2
              clear S2
              (try clear hen)
              (try dsimp only)
              refine hK.out _ _ (fun _ => trivial) ?_
              clear hK K
              (try simp only [Act.put, List.setIfInBounds_toArray, List.set_cons_zero, List.set_cons_succ])
              have hH21 := trivial
              refine takeL (i := 10) (v := ?t22v10) (some 59) rfl rfl (by kernel_rfl) (by kernel_rfl) (by kernel_rfl) (by kernel_rfl) (by kernel_rfl) (fun _ _ _ h => h) (Or.inl ⟨by rfl, ?t22h10⟩) (by assumption) ?t22r10
              case t22h10 => (intro y hSu; (try dsimp only at hSu); go_simp; first | done | with_reducible rfl)
              (try simp only [Act.put, List.setIfInBounds_toArray, List.set_cons_zero, List.set_cons_succ])
              refine takeL (i := 11) (v := ?t22v11) (some 70) rfl rfl (by kernel_rfl) (by kernel_rfl) (by kernel_rfl) (by kernel_rfl) (by kernel_rfl) (fun _ _ _ h => h) (Or.inl ⟨by rfl, ?t22h11⟩) (by assumption) ?t22r11
              case t22h11 => (intro y hSu; (try dsimp only at hSu); go_simp; first | done | with_reducible rfl)
              (try simp only [Act.put, List.setIfInBounds_toArray, List.set_cons_zero, List.set_cons_succ])
              refine takeL (i := 12) (v := ?t22v12) (some 71) rfl rfl (by kernel_rfl) (by kernel_rfl) (by kernel_rfl) (by kernel_rfl) (by kernel_rfl) (fun _ _ _ h => h) (Or.inl ⟨by rfl, ?t22h12⟩) (by assumption) ?t22r12
              case t22h12 => (intro y hSu; (try dsimp only at hSu); go_simp; first | done | with_reducible rfl)
              (try simp only [Act.put, List.setIfInBounds_toArray, List.set_cons_zero, List.set_cons_succ])
              obtain ⟨⟨e0, e1, e2, e3⟩, k0, k1, k2, k3⟩ := (unhide S).cells
              have HBF : Hid (Below w.heap.size w (set4 w9 q (.int .i64 F) (.int .i64 T) (.int .u32 (u : Nat)) (.slice ea7 en7 ec7))) := (unhide HB7).trans (((unhide S).fin (.int .i64 F) (.int .i64 T) (.int .u32 (u : Nat)) (.slice ea7 en7 ec7)).mono (unhide HB7).size)
              clear S
              unfold set4 at HBF
              refine readyL (i := 14) (by kernel_rfl) rfl (fun K hK => ?_)
              go_simp
              refine hK.out _ _ (fun _ => trivial) ?_
              clear hK K
              (try simp only [Act.put, List.setIfInBounds_toArray, List.set_cons_zero, List.set_cons_succ])
              have hH24 := trivial
              refine takeL (i := 15) (v := ?t25v15) (some 13) rfl rfl (by kernel_rfl) (by kernel_rfl) (by kernel_rfl) (by kernel_rfl) (by kernel_rfl) (fun _ _ _ h => h) (Or.inl ⟨by rfl, ?t25h15⟩) (by assumption) ?t25r15
              case t25h15 => (intro y hSu; (try dsimp only at hSu); go_simp; first | done | with_reducible rfl)
              (try simp only [Act.put, List.setIfInBounds_toArray, List.set_cons_zero, List.set_cons_succ])
              refine doneL (by kernel_rfl) ?_ _
              refine NoPanic.normal ?_
              clear e0 e1 e2 e3 k0 k1 k2 k3
              go_wp2_with fail
              go_meet
              case rel => exact HBF
          · go_simp
            refine hK.out _ _ (fun _ => trivial) ?_
            clear hK K
            (try simp only [Act.put, List.setIfInBounds_toArray, List.set_cons_zero, List.set_cons_succ])
            have hH27 := trivial
            have S2 : Hid (St w7 (some W1a.heap.size) (some (.slice (some ⟨g0, 0, none⟩) 0 0, [])) (W1a.alloc (Obj.cells #[Value.int .i64 0, Value.int .i64 0, Value.int .u32 0, Value.slice none 0 0] 25))) := (unhide S).alloc
            clear S
            have S := S2
            clear S2
            generalize W1a.alloc (Obj.cells #[Value.int .i64 0, Value.int .i64 0, Value.int .u32 0, Value.slice none 0 0] 25) = W2b at *
            generalize W1a.heap.size = q at *
            refine readyL (i := 2) (by kernel_rfl) rfl (fun K hK => ?_)
            obtain ⟨a1, n1, c1, W12a, hr, hS⟩ := (unhide S).app (unhide HLX) (by have := (unhide HGL).1; simp; omega)
            have SA : Hid (St w7 (some q) (some (.slice a1 n1 c1, xe)) W12a) := hS
            have HR := hide hr
            clear hr hS
            clear S
            have S := SA
            clear SA
            refine step_append_run rfl (.tmp 60) (.tmp 61) 27 rfl _ _ (by simp [Act.eval]) (by simp [Act.eval]) _ _ (unhide HR _) ?_
            refine hK.out _ _ (fun _ => trivial) ?_
            clear hK K
            (try simp only [Act.put, List.setIfInBounds_toArray])
            have hH28 := trivial
            clear HR
            refine readyL (i := 8) (by kernel_rfl) rfl (fun K hK => ?_)
            obtain ⟨a2, n2, c2, W13a, hr, hS⟩ := (unhide S).app (unhide HL2) (by have := (unhide HGL).1; simp; omega)
            have SA : Hid (St w7 (some q) (some (.slice a2 n2 c2, xe ++ [])) W13a) := hS
            have HR := hide hr
            clear hr hS
            clear S
            have S := SA
            clear SA
            refine step_append_run rfl (.tmp 62) (.tmp 67) 27 rfl _ _ (by simp [Act.eval]) (by simp [Act.eval]) _ _ (unhide HR _) ?_
            refine hK.out _ _ (fun _ => trivial) ?_
            clear hK K
            (try simp only [Act.put])
            have hH29 := trivial
            clear HR
            refine readyL (i := 9) (by kernel_rfl) rfl (fun K hK => ?_)
            have CD := hide (decodeS (unhide S).lies (fun y hy => (unhide HGL).2 y (by simpa using hy)) (by have := (unhide HGL).1; simp; omega) (unhide S).own)
            rw [unhide HD] at CD
            go_simp
            refine (unhide CD).mono ?_
            intro e w9 HA
            obtain ⟨ev9, rfl, g1, g2⟩ := unhide HA
            obtain ⟨ea7, ec7, hev⟩ := rrow_shape g1
            have S2 := hide ((unhide S).call g1 g2)
            clear HA g1 g2 S CD
            simp only at hev S2 ⊢
            obtain ⟨en7, hen⟩ : ∃ en7, en7 = es.length := ⟨_, rfl⟩
            (first | rw [← hen] at hev | skip)
            subst hev
            have S := S2
            clear S2
            (try clear hen)
            (try dsimp only)
            refine hK.out _ _ (fun _ => trivial) ?_
            clear hK K
            (try simp only [Act.put, List.setIfInBounds_toArray, List.set_cons_zero, List.set_cons_succ])
            have hH30 := trivial
            refine takeL (i := 10) (v := ?t31v10) (some 59) rfl rfl (by kernel_rfl) (by kernel_rfl) (by kernel_rfl) (by kernel_rfl) (by kernel_rfl) (fun _ _ _ h => h) (Or.inl ⟨by rfl, ?t31h10⟩) (by assumption) ?t31r10
            case t31h10 => (intro y hSu; (try dsimp only at hSu); go_simp; first | done | with_reducible rfl)
            (try simp only [Act.put, List.setIfInBounds_toArray, List.set_cons_zero, List.set_cons_succ])
            refine takeL (i := 11) (v := ?t31v11) (some 70) rfl rfl (by kernel_rfl) (by kernel_rfl) (by kernel_rfl) (by kernel_rfl) (by kernel_rfl) (fun _ _ _ h => h) (Or.inl ⟨by rfl, ?t31h11⟩) (by assumption) ?t31r11
            case t31h11 => (intro y hSu; (try dsimp only at hSu); go_simp; first | done | with_reducible rfl)
            (try simp only [Act.put, List.setIfInBounds_toArray, List.set_cons_zero, List.set_cons_succ])
            refine takeL (i := 12) (v := ?t31v12) (some 71) rfl rfl (by kernel_rfl) (by kernel_rfl) (by kernel_rfl) (by kernel_rfl) (by kernel_rfl) (fun _ _ _ h => h) (Or.inl ⟨by rfl, ?t31h12⟩) (by assumption) ?t31r12
            case t31h12 => (intro y hSu; (try dsimp only at hSu); go_simp; first | done | with_reducible rfl)
            (try simp only [Act.put, List.setIfInBounds_toArray, List.set_cons_zero, List.set_cons_succ])
            obtain ⟨⟨e0, e1, e2, e3⟩, k0, k1, k2, k3⟩ := (unhide S).cells
            have HBF : Hid (Below w.heap.size w (set4 w9 q (.int .i64 F) (.int .i64 T) (.int .u32 (u : Nat)) (.slice ea7 en7 ec7))) := (unhide HB7).trans (((unhide S).fin (.int .i64 F) (.int .i64 T) (.int .u32 (u : Nat)) (.slice ea7 en7 ec7)).mono (unhide HB7).size)
            clear S
            unfold set4 at HBF
            refine readyL (i := 14) (by kernel_rfl) rfl (fun K hK => ?_)
            go_simp
            refine hK.out _ _ (fun _ => trivial) ?_
            clear hK K
            (try simp only [Act.put, List.setIfInBounds_toArray, List.set_cons_zero, List.set_cons_succ])
            have hH33 := trivial
            refine takeL (i := 15) (v := ?t34v15) (some 13) rfl rfl (by kernel_rfl) (by kernel_rfl) (by kernel_rfl) (by kernel_rfl) (by kernel_rfl) (fun _ _ _ h => h) (Or.inl ⟨by rfl, ?t34h15⟩) (by assumption) ?t34r15
            case t34h15 => (intro y hSu; (try dsimp only at hSu); go_simp; first | done | with_reducible rfl)
            (try simp only [Act.put, List.setIfInBounds_toArray, List.set_cons_zero, List.set_cons_succ])
            refine doneL (by kernel_rfl) ?_ _
            refine NoPanic.normal ?_
            clear e0 e1 e2 e3 k0 k1 k2 k3
            go_wp2_with fail
            go_meet
            case rel => exact HBF
        · go_simp
          refine hK.out _ _ (fun _ => trivial) ?_
          clear hK K
          (try simp only [Act.put, List.setIfInBounds_toArray, List.set_cons_zero, List.set_cons_succ])
          have hH36 := trivial
          have S2 : Hid (St w7 (some W0.heap.size) none (W0.alloc (Obj.cells #[Value.int .i64 0, Value.int .i64 0, Value.int .u32 0, Value.slice none 0 0] 25))) := (unhide S).alloc
          clear S
          have S := S2
          clear S2
          generalize W0.alloc (Obj.cells #[Value.int .i64 0, Value.int .i64 0, Value.int .u32 0, Value.slice none 0 0] 25) = W1b at *
          generalize W0.heap.size = q at *
          refine readyL (i := 0) (by kernel_rfl) rfl (fun K hK => ?_)
          go_simp
          refine hK.out _ _ (fun _ => trivial) ?_
          clear hK K
          (try simp only [Act.put, List.setIfInBounds_toArray, List.set_cons_zero, List.set_cons_succ])
          have hH37 := trivial
          have S2 : Hid (St w7 (some q) (some (.slice (some ⟨W1b.heap.size, 0, none⟩) 0 0, [])) (W1b.alloc (Obj.cells #[] 5))) := (unhide S).build
          clear S
          have S := S2
          clear S2
          generalize W1b.alloc (Obj.cells #[] 5) = W16a at *
          generalize W1b.heap.size = g0 at *
          refine readyL (i := 2) (by kernel_rfl) rfl (fun K hK => ?_)
          obtain ⟨a1, n1, c1, W17a, hr, hS⟩ := (unhide S).app (unhide HLX) (by have := (unhide HGL).1; simp; omega)
          have SA : Hid (St w7 (some q) (some (.slice a1 n1 c1, xe)) W17a) := hS
          have HR := hide hr
          clear hr hS
          clear S
          have S := SA
          clear SA
          refine step_append_run rfl (.tmp 60) (.tmp 61) 27 rfl _ _ (by simp [Act.eval]) (by simp [Act.eval]) _ _ (unhide HR _) ?_
          refine hK.out _ _ (fun _ => trivial) ?_
          clear hK K
          (try simp only [Act.put, List.setIfInBounds_toArray])
          have hH38 := trivial
          clear HR
          refine readyL (i := 8) (by kernel_rfl) rfl (fun K hK => ?_)
          obtain ⟨a2, n2, c2, W18a, hr, hS⟩ := (unhide S).app (unhide HL2) (by have := (unhide HGL).1; simp; omega)
          have SA : Hid (St w7 (some q) (some (.slice a2 n2 c2, xe ++ [])) W18a) := hS
          have HR := hide hr
          clear hr hS
          clear S
          have S := SA
          clear SA
          refine step_append_run rfl (.tmp 62) (.tmp 67) 27 rfl _ _ (by simp [Act.eval]) (by simp [Act.eval]) _ _ (unhide HR _) ?_
          refine hK.out _ _ (fun _ => trivial) ?_
          clear hK K
          (try simp only [Act.put])
          have hH39 := trivial
          clear HR
          refine readyL (i := 9) (by kernel_rfl) rfl (fun K hK => ?_)
          have CD := hide (decodeS (unhide S).lies (fun y hy => (unhide HGL).2 y (by simpa using hy)) (by have := (unhide HGL).1; simp; omega) (unhide S).own)
          rw [unhide HD] at CD
          go_simp
          refine (unhide CD).mono ?_
          intro e w9 HA
          obtain ⟨ev9, rfl, g1, g2⟩ := unhide HA
          obtain ⟨ea7, ec7, hev⟩ := rrow_shape g1
          have S2 := hide ((unhide S).call g1 g2)
          clear HA g1 g2 S CD
          simp only at hev S2 ⊢
          obtain ⟨en7, hen⟩ : ∃ en7, en7 = es.length := ⟨_, rfl⟩
          (first | rw [← hen] at hev | skip)
          subst hev
          have S := S2
          clear S2
          (try clear hen)
          (try dsimp only)
          refine hK.out _ _ (fun _ => trivial) ?_
          clear hK K
          (try simp only [Act.put, List.setIfInBounds_toArray, List.set_cons_zero, List.set_cons_succ])
          have hH40 := trivial
          refine takeL (i := 10) (v := ?t41v10) (some 59) rfl rfl (by kernel_rfl) (by kernel_rfl) (by kernel_rfl) (by kernel_rfl) (by kernel_rfl) (fun _ _ _ h => h) (Or.inl ⟨by rfl, ?t41h10⟩) (by assumption) ?t41r10
          case t41h10 => (intro y hSu; (try dsimp only at hSu); go_simp; first | done | with_reducible rfl)
          (try simp only [Act.put, List.setIfInBounds_toArray, List.set_cons_zero, List.set_cons_succ])
          refine takeL (i := 11) (v := ?t41v11) (some 70) rfl rfl (by kernel_rfl) (by kernel_rfl) (by kernel_rfl) (by kernel_rfl) (by kernel_rfl) (fun _ _ _ h => h) (Or.inl ⟨by rfl, ?t41h11⟩) (by assumption) ?t41r11
          case t41h11 => (intro y hSu; (try dsimp only at hSu); go_simp; first | done | with_reducible rfl)
          (try simp only [Act.put, List.setIfInBounds_toArray, List.set_cons_zero, List.set_cons_succ])
          refine takeL (i := 12) (v := ?t41v12) (some 71) rfl rfl (by kernel_rfl) (by kernel_rfl) (by kernel_rfl) (by kernel_rfl) (by kernel_rfl) (fun _ _ _ h => h) (Or.inl ⟨by rfl, ?t41h12⟩) (by assumption) ?t41r12
          case t41h12 => (intro y hSu; (try dsimp only at hSu); go_simp; first | done | with_reducible rfl)
          (try simp only [Act.put, List.setIfInBounds_toArray, List.set_cons_zero, List.set_cons_succ])
          obtain ⟨⟨e0, e1, e2, e3⟩, k0, k1, k2, k3⟩ := (unhide S).cells
          have HBF : Hid (Below w.heap.size w (set4 w9 q (.int .i64 F) (.int .i64 T) (.int .u32 (u : Nat)) (.slice ea7 en7 ec7))) := (unhide HB7).trans (((unhide S).fin (.int .i64 F) (.int .i64 T) (.int .u32 (u : Nat)) (.slice ea7 en7 ec7)).mono (unhide HB7).size)
          clear S
          unfold set4 at HBF
          refine readyL (i := 14) (by kernel_rfl) rfl (fun K hK => ?_)
          go_simp
          refine hK.out _ _ (fun _ => trivial) ?_
          clear hK K
          (try simp only [Act.put, List.setIfInBounds_toArray, List.set_cons_zero, List.set_cons_succ])
          have hH43 := trivial
          refine takeL (i := 15) (v := ?t44v15) (some 13) rfl rfl (by kernel_rfl) (by kernel_rfl) (by kernel_rfl) (by kernel_rfl) (by kernel_rfl) (fun _ _ _ h => h) (Or.inl ⟨by rfl, ?t44h15⟩) (by assumption) ?t44r15
          case t44h15 => (intro y hSu; (try dsimp only at hSu); go_simp; first | done | with_reducible rfl)
          (try simp only [Act.put, List.setIfInBounds_toArray, List.set_cons_zero, List.set_cons_succ])
          refine doneL (by kernel_rfl) ?_ _
          refine NoPanic.normal ?_
          clear e0 e1 e2 e3 k0 k1 k2 k3
          go_wp2_with fail
          go_meet
          case rel => exact HBF
      · obtain ⟨y0, hy0⟩ : ∃ y0, bs[0]? = some y0 := ⟨_, List.getElem?_eq_getElem (List.length_pos_iff.2 hbs)⟩
        obtain ⟨bb0, off0, rfl, -⟩ := lies_at (unhide HV).1 hy0
        have hp : 0 < bn := by rw [(unhide HBN).1]; exact List.length_pos_iff.2 hbs
        have e1 : bs.take 1 = [y0] := by cases bs with | nil => cases hy0 | cons z t => simp at hy0 ⊢; exact hy0
        have hd := hdv [y0]
        rw [if_neg (by simp)] at hd
        have HD := hide hd
        have HL2 := lies_take hV7 (show 1 ≤ bn by omega)
        rw [e1] at HL2
        replace HL2 := hide HL2
        have z4 : ¬ (bn : Int) < 1 := by omega
        have z5 : (1 : Int) ≤ (bn : Int) := by omega
        have z6 : ((bn : Int) == 0) = false := by simp; omega
        have z7 : (1 : Int) ≤ (bc : Int) := by have := (lies_len hV7).2; omega
        have z8 : 1 ≤ bc := by omega
        have HY : Hid (y0 < 256) := (unhide HV).2 y0 (List.mem_of_getElem? hy0)
        clear hd hdv hV7 hy0 hp e1 hbs HBN HV
        generalize encWt (F, T, u, es) = xe at *
        have S : Hid (St w7 none none w7.drew) := (st_start w7).drew
        refine wp_region_noPanic ?_
        refine regionL [] (fun y => True) (by kernel_rfl) trivial (fun hHeld => ?_)
        generalize w7.drew = W0 at *
        refine takeL (i := 1) (v := ?t46v1) (some 61) rfl rfl (by kernel_rfl) (by kernel_rfl) (by kernel_rfl) (by kernel_rfl) (by kernel_rfl) (fun _ _ _ h => h) (Or.inl ⟨by rfl, ?t46h1⟩) (by assumption) ?t46r1
        case t46h1 => (intro y hSu; (try dsimp only at hSu); go_simp; first | done | with_reducible rfl)
        (try simp only [Act.put, List.setIfInBounds_toArray, List.set_cons_zero, List.set_cons_succ])
        refine takeL (i := 3) (v := ?t46v3) (some 63) rfl rfl (by kernel_rfl) (by kernel_rfl) (by kernel_rfl) (by kernel_rfl) (by kernel_rfl) (fun _ _ _ h => h) (Or.inl ⟨by rfl, ?t46h3⟩) (by assumption) ?t46r3
        case t46h3 => (intro y hSu; (try dsimp only at hSu); go_simp; first | done | with_reducible rfl)
        (try simp only [Act.put, List.setIfInBounds_toArray, List.set_cons_zero, List.set_cons_succ])
        refine takeL (i := 4) (v := ?t46v4) (some 64) rfl rfl (by kernel_rfl) (by kernel_rfl) (by kernel_rfl) (by kernel_rfl) (by kernel_rfl) (fun _ _ _ h => h) (Or.inl ⟨by rfl, ?t46h4⟩) (by assumption) ?t46r4
        case t46h4 => (intro y hSu; (try dsimp only at hSu); go_simp; first | done | with_reducible rfl)
        (try simp only [Act.put, List.setIfInBounds_toArray, List.set_cons_zero, List.set_cons_succ])
        refine takeL (i := 5) (v := ?t46v5) (some 65) rfl rfl (by kernel_rfl) (by kernel_rfl) (by kernel_rfl) (by kernel_rfl) (by kernel_rfl) (fun _ _ _ h => h) (Or.inl ⟨by rfl, ?t46h5⟩) (by assumption) ?t46r5
        case t46h5 => (intro y hSu; (try dsimp only at hSu); go_simp; first | done | with_reducible rfl)
        (try simp only [Act.put, List.setIfInBounds_toArray, List.set_cons_zero, List.set_cons_succ])
        refine takeL (i := 6) (v := ?t46v6) (some 66) rfl rfl (by kernel_rfl) (by kernel_rfl) (by kernel_rfl) (by kernel_rfl) (by kernel_rfl) (fun _ _ _ h => h) (Or.inl ⟨by rfl, ?t46h6⟩) (by assumption) ?t46r6
        case t46h6 => (intro y hSu; (try dsimp only at hSu); go_simp; first | done | with_reducible rfl)
        (try simp only [Act.put, List.setIfInBounds_toArray, List.set_cons_zero, List.set_cons_succ])
        refine takeL (i := 7) (v := ?t46v7) (some 67) rfl rfl (by kernel_rfl) (by kernel_rfl) (by kernel_rfl) (by kernel_rfl) (by kernel_rfl) (fun _ _ _ h => h) (Or.inl ⟨by rfl, ?t46h7⟩) (by assumption) ?t46r7
        case t46h7 => (intro y hSu; (try dsimp only at hSu); go_simp; first | done | with_reducible rfl)
        (try simp only [Act.put, List.setIfInBounds_toArray, List.set_cons_zero, List.set_cons_succ])
        refine readyL2 (i := 0) (k := 13) (by kernel_rfl) rfl rfl (fun K hK => ?_) (fun K hK => ?_)
        · go_simp
          refine hK.out _ _ (fun _ => trivial) ?_
          clear hK K
          (try simp only [Act.put, List.setIfInBounds_toArray, List.set_cons_zero, List.set_cons_succ])
          have hH47 := trivial
          have S2 : Hid (St w7 none (some (.slice (some ⟨W0.heap.size, 0, none⟩) 0 0, [])) (W0.alloc (Obj.cells #[] 5))) := (unhide S).build
          clear S
          have S := S2
          clear S2
          generalize W0.alloc (Obj.cells #[] 5) = W21a at *
          generalize W0.heap.size = g0 at *
          refine readyL2 (i := 2) (k := 13) (by kernel_rfl) rfl rfl (fun K hK => ?_) (fun K hK => ?_)
          · obtain ⟨a1, n1, c1, W22a, hr, hS⟩ := (unhide S).app (unhide HLX) (by have := (unhide HGL).1; simp; omega)
            have SA : Hid (St w7 none (some (.slice a1 n1 c1, xe)) W22a) := hS
            have HR := hide hr
            clear hr hS
            clear S
            have S := SA
            clear SA
            refine step_append_run rfl (.tmp 60) (.tmp 61) 27 rfl _ _ (by simp [Act.eval]) (by simp [Act.eval]) _ _ (unhide HR _) ?_
            refine hK.out _ _ (fun _ => trivial) ?_
            clear hK K
            (try simp only [Act.put, List.setIfInBounds_toArray])
            have hH48 := trivial
            clear HR
            refine readyL2 (i := 8) (k := 13) (by kernel_rfl) rfl rfl (fun K hK => ?_) (fun K hK => ?_)
            · obtain ⟨a2, n2, c2, W23a, hr, hS⟩ := (unhide S).app (unhide HL2) (by have := (unhide HGL).1; simp; omega)
              have SA : Hid (St w7 none (some (.slice a2 n2 c2, xe ++ [y0])) W23a) := hS
              have HR := hide hr
              clear hr hS
              clear S
              have S := SA
              clear SA
              refine step_append_run rfl (.tmp 62) (.tmp 67) 27 rfl _ _ (by simp [Act.eval]) (by simp [Act.eval]) _ _ (unhide HR _) ?_
              refine hK.out _ _ (fun _ => trivial) ?_
              clear hK K
              (try simp only [Act.put])
              have hH49 := trivial
              clear HR
              refine readyL2 (i := 9) (k := 13) (by kernel_rfl) rfl rfl (fun K hK => ?_) (fun K hK => ?_)
              · have CD := hide (decodeS (unhide S).lies (fun y hy => by rcases List.mem_append.1 hy with q | q; (exact (unhide HGL).2 y q); (simp only [List.mem_singleton] at q; rw [q]; exact unhide HY)) (by have := (unhide HGL).1; simp; omega) (unhide S).own)
                rw [unhide HD] at CD
                go_simp
                refine (unhide CD).mono ?_
                intro e w9 HA
                obtain ⟨ev9, rfl, g1, g2⟩ := unhide HA
                obtain ⟨ea7, ec7, hev⟩ := rrow_shape g1
                have S2 := hide ((unhide S).call g1 g2)
                clear HA g1 g2 S CD
                simp only at hev S2 ⊢
                obtain ⟨en7, hen⟩ : ∃ en7, en7 = ([] : List Int).length := ⟨_, rfl⟩
                (first | rw [← hen] at hev | skip)
                subst hev
                have S := S2
                clear S2
                (try clear hen)
                (try dsimp only)
                refine hK.out _ _ (fun _ => trivial) ?_
                clear hK K
                (try simp only [Act.put, List.setIfInBounds_toArray, List.set_cons_zero, List.set_cons_succ])
                have hH50 := trivial
                refine takeL (i := 10) (v := ?t51v10) (some 59) rfl rfl (by kernel_rfl) (by kernel_rfl) (by kernel_rfl) (by kernel_rfl) (by kernel_rfl) (fun _ _ _ h => h) (Or.inl ⟨by rfl, ?t51h10⟩) (by assumption) ?t51r10
                case t51h10 => (intro y hSu; (try dsimp only at hSu); go_simp; first | done | with_reducible rfl)
                (try simp only [Act.put, List.setIfInBounds_toArray, List.set_cons_zero, List.set_cons_succ])
                refine takeL (i := 11) (v := ?t51v11) (some 70) rfl rfl (by kernel_rfl) (by kernel_rfl) (by kernel_rfl) (by kernel_rfl) (by kernel_rfl) (fun _ _ _ h => h) (Or.inl ⟨by rfl, ?t51h11⟩) (by assumption) ?t51r11
                case t51h11 => (intro y hSu; (try dsimp only at hSu); go_simp; first | done | with_reducible rfl)
                (try simp only [Act.put, List.setIfInBounds_toArray, List.set_cons_zero, List.set_cons_succ])
                refine takeL (i := 12) (v := ?t51v12) (some 71) rfl rfl (by kernel_rfl) (by kernel_rfl) (by kernel_rfl) (by kernel_rfl) (by kernel_rfl) (fun _ _ _ h => h) (Or.inl ⟨by rfl, ?t51h12⟩) (by assumption) ?t51r12
                case t51h12 => (intro y hSu; (try dsimp only at hSu); go_simp; first | done | with_reducible rfl)
                (try simp only [Act.put, List.setIfInBounds_toArray, List.set_cons_zero, List.set_cons_succ])
                refine readyL (i := 13) (by kernel_rfl) rfl (fun K hK => ?_)
                go_simp
                refine hK.out _ _ (fun _ => trivial) ?_
                clear hK K
                (try simp only [Act.put, List.setIfInBounds_toArray, List.set_cons_zero, List.set_cons_succ])
                have hH52 := trivial
                have S2 : Hid (Sf w7 (some w9.heap.size) (.slice ea7 en7 ec7) [] (w9.alloc (Obj.cells #[Value.int .i64 0, Value.int .i64 0, Value.int .u32 0, Value.slice none 0 0] 25))) := (unhide S).alloc
                clear S
                have S := S2
                clear S2
                generalize w9.alloc (Obj.cells #[Value.int .i64 0, Value.int .i64 0, Value.int .u32 0, Value.slice none 0 0] 25) = W25b at *
                generalize w9.heap.size = q at *
                obtain ⟨⟨e0, e1, e2, e3⟩, k0, k1, k2, k3⟩ := (unhide S).cells
                have HBF : Hid (Below w.heap.size w (set4 W25b q (.int .i64 0) (.int .i64 0) (.int .u32 0) (.slice ea7 en7 ec7))) := (unhide HB7).trans (((unhide S).fin (.int .i64 0) (.int .i64 0) (.int .u32 0) (.slice ea7 en7 ec7)).mono (unhide HB7).size)
                clear S
                unfold set4 at HBF
                refine readyL (i := 14) (by kernel_rfl) rfl (fun K hK => ?_)
                go_simp
                refine hK.out _ _ (fun _ => trivial) ?_
                clear hK K
                (try simp only [Act.put, List.setIfInBounds_toArray, List.set_cons_zero, List.set_cons_succ])
                have hH54 := trivial
                refine takeL (i := 15) (v := ?t55v15) (some 13) rfl rfl (by kernel_rfl) (by kernel_rfl) (by kernel_rfl) (by kernel_rfl) (by kernel_rfl) (fun _ _ _ h => h) (Or.inl ⟨by rfl, ?t55h15⟩) (by assumption) ?t55r15
                case t55h15 => (intro y hSu; (try dsimp only at hSu); go_simp; first | done | with_reducible rfl)
                (try simp only [Act.put, List.setIfInBounds_toArray, List.set_cons_zero, List.set_cons_succ])
                refine doneL (by kernel_rfl) ?_ _
                refine NoPanic.normal ?_
                clear e0 e1 e2 e3 k0 k1 k2 k3
                go_wp2_with fail
                go_meet
                case rel => exact HBF
              · go_simp
                refine hK.out _ _ (fun _ => trivial) ?_
                clear hK K
                (try simp only [Act.put, List.setIfInBounds_toArray, List.set_cons_zero, List.set_cons_succ])
                have hH57 := trivial
                have S2 : Hid (St w7 (some W23a.heap.size) (some (.slice a2 n2 c2, xe ++ [y0])) (W23a.alloc (Obj.cells #[Value.int .i64 0, Value.int .i64 0, Value.int .u32 0, Value.slice none 0 0] 25))) := (unhide S).alloc
                clear S
                have S := S2
                clear S2
                generalize W23a.alloc (Obj.cells #[Value.int .i64 0, Value.int .i64 0, Value.int .u32 0, Value.slice none 0 0] 25) = W24b at *
                generalize W23a.heap.size = q at *
                refine readyL (i := 9) (by kernel_rfl) rfl (fun K hK => ?_)
                have CD := hide (decodeS (unhide S).lies (fun y hy => by rcases List.mem_append.1 hy with q | q; (exact (unhide HGL).2 y q); (simp only [List.mem_singleton] at q; rw [q]; exact unhide HY)) (by have := (unhide HGL).1; simp; omega) (unhide S).own)
                rw [unhide HD] at CD
                go_simp
                refine (unhide CD).mono ?_
                intro e w9 HA
                obtain ⟨ev9, rfl, g1, g2⟩ := unhide HA
                obtain ⟨ea7, ec7, hev⟩ := rrow_shape g1
                have S2 := hide ((unhide S).call g1 g2)
                clear HA g1 g2 S CD
                simp only at hev S2 ⊢
                obtain ⟨en7, hen⟩ : ∃ en7, en7 = ([] : List Int).length := ⟨_, rfl⟩
                (first | rw [← hen] at hev | skip)
                subst hev
                have S := S2
                clear S2
                (try clear hen)
                (try dsimp only)
                refine hK.out _ _ (fun _ => trivial) ?_
                clear hK K
                (try simp only [Act.put, List.setIfInBounds_toArray, List.set_cons_zero, List.set_cons_succ])
                have hH58 := trivial
                refine takeL (i := 10) (v := ?t59v10) (some 59) rfl rfl (by kernel_rfl) (by kernel_rfl) (by kernel_rfl) (by kernel_rfl) (by kernel_rfl) (fun _ _ _ h => h) (Or.inl ⟨by rfl, ?t59h10⟩) (by assumption) ?t59r10
                case t59h10 => (intro y hSu; (try dsimp only at hSu); go_simp; first | done | with_reducible rfl)
                (try simp only [Act.put, List.setIfInBounds_toArray, List.set_cons_zero, List.set_cons_succ])
                refine takeL (i := 11) (v := ?t59v11) (some 70) rfl rfl (by kernel_rfl) (by kernel_rfl) (by kernel_rfl) (by kernel_rfl) (by kernel_rfl) (fun _ _ _ h => h) (Or.inl ⟨by rfl, ?t59h11⟩) (by assumption) ?t59r11
                case t59h11 => (intro y hSu; (try dsimp only at hSu); go_simp; first | done | with_reducible rfl)
                (try simp only [Act.put, List.setIfInBounds_toArray, List.set_cons_zero, List.set_cons_succ])
                refine takeL (i := 12) (v := ?t59v12) (some 71) rfl rfl (by kernel_rfl) (by kernel_rfl) (by kernel_rfl) (by kernel_rfl) (by kernel_rfl) (fun _ _ _ h => h) (Or.inl ⟨by rfl, ?t59h12⟩) (by assumption) ?t59r12
                case t59h12 => (intro y hSu; (try dsimp only at hSu); go_simp; first | done | with_reducible rfl)
                (try simp only [Act.put, List.setIfInBounds_toArray, List.set_cons_zero, List.set_cons_succ])
                obtain ⟨⟨e0, e1, e2, e3⟩, k0, k1, k2, k3⟩ := (unhide S).cells
                have HBF : Hid (Below w.heap.size w (set4 w9 q (.int .i64 0) (.int .i64 0) (.int .u32 0) (.slice ea7 en7 ec7))) := (unhide HB7).trans (((unhide S).fin (.int .i64 0) (.int .i64 0) (.int .u32 0) (.slice ea7 en7 ec7)).mono (unhide HB7).size)
                clear S
                unfold set4 at HBF
                refine readyL (i := 14) (by kernel_rfl) rfl (fun K hK => ?_)
                go_simp
                refine hK.out _ _ (fun _ => trivial) ?_
                clear hK K
                (try simp only [Act.put, List.setIfInBounds_toArray, List.set_cons_zero, List.set_cons_succ])
                have hH61 := trivial
                refine takeL (i := 15) (v := ?t62v15) (some 13) rfl rfl (by kernel_rfl) (by kernel_rfl) (by kernel_rfl) (by kernel_rfl) (by kernel_rfl) (fun _ _ _ h => h) (Or.inl ⟨by rfl, ?t62h15⟩) (by assumption) ?t62r15
                case t62h15 => (intro y hSu; (try dsimp only at hSu); go_simp; first | done | with_reducible rfl)
                (try simp only [Act.put, List.setIfInBounds_toArray, List.set_cons_zero, List.set_cons_succ])
                refine doneL (by kernel_rfl) ?_ _
                refine NoPanic.normal ?_
                clear e0 e1 e2 e3 k0 k1 k2 k3
                go_wp2_with fail
                go_meet
                case rel => exact HBF
            · go_simp
              refine hK.out _ _ (fun _ => trivial) ?_
              clear hK K
              (try simp only [Act.put, List.setIfInBounds_toArray, List.set_cons_zero, List.set_cons_succ])
              have hH64 := trivial
              have S2 : Hid (St w7 (some W22a.heap.size) (some (.slice a1 n1 c1, xe)) (W22a.alloc (Obj.cells #[Value.int .i64 0, Value.int .i64 0, Value.int .u32 0, Value.slice none 0 0] 25))) := (unhide S).alloc
              clear S
              have S := S2
              clear S2
              generalize W22a.alloc (Obj.cells #[Value.int .i64 0, Value.int .i64 0, Value.int .u32 0, Value.slice none 0 0] 25) = W23b at *
              generalize W22a.heap.size = q at *
              refine readyL (i := 8) (by kernel_rfl) rfl (fun K hK => ?_)
              obtain ⟨a2, n2, c2, W29a, hr, hS⟩ := (unhide S).app (unhide HL2) (by have := (unhide HGL).1; simp; omega)
              have SA : Hid (St w7 (some q) (some (.slice a2 n2 c2, xe ++ [y0])) W29a) := hS
              have HR := hide hr
              clear hr hS
              clear S
              have S := SA
              clear SA
              refine step_append_run rfl (.tmp 62) (.tmp 67) 27 rfl _ _ (by simp [Act.eval]) (by simp [Act.eval]) _ _ (unhide HR _) ?_
              refine hK.out _ _ (fun _ => trivial) ?_
              clear hK K
              (try simp only [Act.put, List.setIfInBounds_toArray])
              have hH65 := trivial
              clear HR
              refine readyL (i := 9) (by kernel_rfl) rfl (fun K hK => ?_)
              have CD := hide (decodeS (unhide S).lies (fun y hy => by rcases List.mem_append.1 hy with q | q; (exact (unhide HGL).2 y q); (simp only [List.mem_singleton] at q; rw [q]; exact unhide HY)) (by have := (unhide HGL).1; simp; omega) (unhide S).own)
              rw [unhide HD] at CD
              go_simp
              refine (unhide CD).mono ?_
              intro e w9 HA
              obtain ⟨ev9, rfl, g1, g2⟩ := unhide HA
              obtain ⟨ea7, ec7, hev⟩ := rrow_shape g1
              have S2 := hide ((unhide S).call g1 g2)
              clear HA g1 g2 S CD
              simp only at hev S2 ⊢
              obtain ⟨en7, hen⟩ : ∃ en7, en7 = ([] : List Int).length := ⟨_, rfl⟩
              (first | rw [← hen] at hev | skip)
              subst hev
              have S := S2
              clear S2
              (try clear hen)
              (try dsimp only)
              refine hK.out _ _ (fun _ => trivial) ?_
              clear hK K
              (try simp only [Act.put, List.setIfInBounds_toArray, List.set_cons_zero, List.set_cons_succ])
              have hH66 := trivial
              refine takeL (i := 10) (v := ?t67v10) (some 59) rfl rfl (by kernel_rfl) (by kernel_rfl) (by kernel_rfl) (by kernel_rfl) (by kernel_rfl) (fun _ _ _ h => h) (Or.inl ⟨by rfl, ?t67h10⟩) (by assumption) ?t67r10
              case t67h10 => (intro y hSu; (try dsimp only at hSu); go_simp; first | done | with_reducible rfl)
              (try simp only [Act.put, List.setIfInBounds_toArray, List.set_cons_zero, List.set_cons_succ])
              refine takeL (i := 11) (v := ?t67v11) (some 70) rfl rfl (by kernel_rfl) (by kernel_rfl) (by kernel_rfl) (by kernel_rfl) (by kernel_rfl) (fun _ _ _ h => h) (Or.inl ⟨by rfl, ?t67h11⟩) (by assumption) ?t67r11
              case t67h11 => (intro y hSu; (try dsimp only at hSu); go_simp; first | done | with_reducible rfl)
              (try simp only [Act.put, List.setIfInBounds_toArray, List.set_cons_zero, List.set_cons_succ])
              refine takeL (i := 12) (v := ?t67v12) (some 71) rfl rfl (by kernel_rfl) (by kernel_rfl) (by kernel_rfl) (by kernel_rfl) (by kernel_rfl) (fun _ _ _ h => h) (Or.inl ⟨by rfl, ?t67h12⟩) (by assumption) ?t67r12
              case t67h12 => (intro y hSu; (try dsimp only at hSu); go_simp; first | done | with_reducible rfl)
              (try simp only [Act.put, List.setIfInBounds_toArray, List.set_cons_zero, List.set_cons_succ])
              obtain ⟨⟨e0, e1, e2, e3⟩, k0, k1, k2, k3⟩ := (unhide S).cells
              have HBF : Hid (Below w.heap.size w (set4 w9 q (.int .i64 0) (.int .i64 0) (.int .u32 0) (.slice ea7 en7 ec7))) := (unhide HB7).trans (((unhide S).fin (.int .i64 0) (.int .i64 0) (.int .u32 0) (.slice ea7 en7 ec7)).mono (unhide HB7).size)
              clear S
              unfold set4 at HBF
              refine readyL (i := 14) (by kernel_rfl) rfl (fun K hK => ?_)
              go_simp
              refine hK.out _ _ (fun _ => trivial) ?_
              clear hK K
              (try simp only [Act.put, List.setIfInBounds_toArray, List.set_cons_zero, List.set_cons_succ])
              have hH69 := trivial
              refine takeL (i := 15) (v := ?t70v15) (some 13) rfl rfl (by kernel_rfl) (by kernel_rfl) (by kernel_rfl) (by kernel_rfl) (by kernel_rfl) (fun _ _ _ h => h) (Or.inl ⟨by rfl, ?t70h15⟩) (by assumption) ?t70r15
              case t70h15 => (intro y hSu; (try dsimp only at hSu); go_simp; first | done | with_reducible rfl)
              (try simp only [Act.put, List.setIfInBounds_toArray, List.set_cons_zero, List.set_cons_succ])
              refine doneL (by kernel_rfl) ?_ _
              refine NoPanic.normal ?_
              clear e0 e1 e2 e3 k0 k1 k2 k3
              go_wp2_with fail
              go_meet
              case rel => exact HBF
          · go_simp
            refine hK.out _ _ (fun _ => trivial) ?_
            clear hK K
            (try simp only [Act.put, List.setIfInBounds_toArray, List.set_cons_zero, List.set_cons_succ])
            have hH72 := trivial
            have S2 : Hid (St w7 (some W21a.heap.size) (some (.slice (some ⟨g0, 0, none⟩) 0 0, [])) (W21a.alloc (Obj.cells #[Value.int .i64 0, Value.int .i64 0, Value.int .u32 0, Value.slice none 0 0] 25))) := (unhide S).alloc
            clear S
            have S := S2
            clear S2
            generalize W21a.alloc (Obj.cells #[Value.int .i64 0, Value.int .i64 0, Value.int .u32 0, Value.slice none 0 0] 25) = W22b at *
            generalize W21a.heap.size = q at *
            refine readyL (i := 2) (by kernel_rfl) rfl (fun K hK => ?_)
            obtain ⟨a1, n1, c1, W32a, hr, hS⟩ := (unhide S).app (unhide HLX) (by have := (unhide HGL).1; simp; omega)
            have SA : Hid (St w7 (some q) (some (.slice a1 n1 c1, xe)) W32a) := hS
            have HR := hide hr
            clear hr hS
            clear S
            have S := SA
            clear SA
            refine step_append_run rfl (.tmp 60) (.tmp 61) 27 rfl _ _ (by simp [Act.eval]) (by simp [Act.eval]) _ _ (unhide HR _) ?_
            refine hK.out _ _ (fun _ => trivial) ?_
            clear hK K
            (try simp only [Act.put, List.setIfInBounds_toArray])
            have hH73 := trivial
            clear HR
            refine readyL (i := 8) (by kernel_rfl) rfl (fun K hK => ?_)
            obtain ⟨a2, n2, c2, W33a, hr, hS⟩ := (unhide S).app (unhide HL2) (by have := (unhide HGL).1; simp; omega)
            have SA : Hid (St w7 (some q) (some (.slice a2 n2 c2, xe ++ [y0])) W33a) := hS
            have HR := hide hr
            clear hr hS
            clear S
            have S := SA
            clear SA
            refine step_append_run rfl (.tmp 62) (.tmp 67) 27 rfl _ _ (by simp [Act.eval]) (by simp [Act.eval]) _ _ (unhide HR _) ?_
            refine hK.out _ _ (fun _ => trivial) ?_
            clear hK K
            (try simp only [Act.put])
            have hH74 := trivial
            clear HR
            refine readyL (i := 9) (by kernel_rfl) rfl (fun K hK => ?_)
            have CD := hide (decodeS (unhide S).lies (fun y hy => by rcases List.mem_append.1 hy with q | q; (exact (unhide HGL).2 y q); (simp only [List.mem_singleton] at q; rw [q]; exact unhide HY)) (by have := (unhide HGL).1; simp; omega) (unhide S).own)
            rw [unhide HD] at CD
            go_simp
            refine (unhide CD).mono ?_
            intro e w9 HA
            obtain ⟨ev9, rfl, g1, g2⟩ := unhide HA
            obtain ⟨ea7, ec7, hev⟩ := rrow_shape g1
            have S2 := hide ((unhide S).call g1 g2)
            clear HA g1 g2 S CD
            simp only at hev S2 ⊢
            obtain ⟨en7, hen⟩ : ∃ en7, en7 = ([] : List Int).length := ⟨_, rfl⟩
            (first | rw [← hen] at hev | skip)
            subst hev
            have S := S2
            clear S2
            (try clear hen)
            (try dsimp only)
            refine hK.out _ _ (fun _ => trivial) ?_
            clear hK K
            (try simp only [Act.put, List.setIfInBounds_toArray, List.set_cons_zero, List.set_cons_succ])
            have hH75 := trivial
            refine takeL (i := 10) (v := ?t76v10) (some 59) rfl rfl (by kernel_rfl) (by kernel_rfl) (by kernel_rfl) (by kernel_rfl) (by kernel_rfl) (fun _ _ _ h => h) (Or.inl ⟨by rfl, ?t76h10⟩) (by assumption) ?t76r10
            case t76h10 => (intro y hSu; (try dsimp only at hSu); go_simp; first | done | with_reducible rfl)
            (try simp only [Act.put, List.setIfInBounds_toArray, List.set_cons_zero, List.set_cons_succ])
            refine takeL (i := 11) (v := ?t76v11) (some 70) rfl rfl (by kernel_rfl) (by kernel_rfl) (by kernel_rfl) (by kernel_rfl) (by kernel_rfl) (fun _ _ _ h => h) (Or.inl ⟨by rfl, ?t76h11⟩) (by assumption) ?t76r11
            case t76h11 => (intro y hSu; (try dsimp only at hSu); go_simp; first | done | with_reducible rfl)
            (try simp only [Act.put, List.setIfInBounds_toArray, List.set_cons_zero, List.set_cons_succ])
            refine takeL (i := 12) (v := ?t76v12) (some 71) rfl rfl (by kernel_rfl) (by kernel_rfl) (by kernel_rfl) (by kernel_rfl) (by kernel_rfl) (fun _ _ _ h => h) (Or.inl ⟨by rfl, ?t76h12⟩) (by assumption) ?t76r12
            case t76h12 => (intro y hSu; (try dsimp only at hSu); go_simp; first | done | with_reducible rfl)
            (try simp only [Act.put, List.setIfInBounds_toArray, List.set_cons_zero, List.set_cons_succ])
            obtain ⟨⟨e0, e1, e2, e3⟩, k0, k1, k2, k3⟩ := (unhide S).cells
            have HBF : Hid (Below w.heap.size w (set4 w9 q (.int .i64 0) (.int .i64 0) (.int .u32 0) (.slice ea7 en7 ec7))) := (unhide HB7).trans (((unhide S).fin (.int .i64 0) (.int .i64 0) (.int .u32 0) (.slice ea7 en7 ec7)).mono (unhide HB7).size)
            clear S
            unfold set4 at HBF
            refine readyL (i := 14) (by kernel_rfl) rfl (fun K hK => ?_)
            go_simp
            refine hK.out _ _ (fun _ => trivial) ?_
            clear hK K
            (try simp only [Act.put, List.setIfInBounds_toArray, List.set_cons_zero, List.set_cons_succ])
            have hH78 := trivial
            refine takeL (i := 15) (v := ?t79v15) (some 13) rfl rfl (by kernel_rfl) (by kernel_rfl) (by kernel_rfl) (by kernel_rfl) (by kernel_rfl) (fun _ _ _ h => h) (Or.inl ⟨by rfl, ?t79h15⟩) (by assumption) ?t79r15
            case t79h15 => (intro y hSu; (try dsimp only at hSu); go_simp; first | done | with_reducible rfl)
            (try simp only [Act.put, List.setIfInBounds_toArray, List.set_cons_zero, List.set_cons_succ])
            refine doneL (by kernel_rfl) ?_ _
            refine NoPanic.normal ?_
            clear e0 e1 e2 e3 k0 k1 k2 k3
            go_wp2_with fail
            go_meet
            case rel => exact HBF
        · go_simp
          refine hK.out _ _ (fun _ => trivial) ?_
          clear hK K
          (try simp only [Act.put, List.setIfInBounds_toArray, List.set_cons_zero, List.set_cons_succ])
          have hH81 := trivial
          have S2 : Hid (St w7 (some W0.heap.size) none (W0.alloc (Obj.cells #[Value.int .i64 0, Value.int .i64 0, Value.int .u32 0, Value.slice none 0 0] 25))) := (unhide S).alloc
          clear S
          have S := S2
          clear S2
          generalize W0.alloc (Obj.cells #[Value.int .i64 0, Value.int .i64 0, Value.int .u32 0, Value.slice none 0 0] 25) = W21b at *
          generalize W0.heap.size = q at *
          refine readyL (i := 0) (by kernel_rfl) rfl (fun K hK => ?_)
          go_simp
          refine hK.out _ _ (fun _ => trivial) ?_
          clear hK K
          (try simp only [Act.put, List.setIfInBounds_toArray, List.set_cons_zero, List.set_cons_succ])
          have hH82 := trivial
          have S2 : Hid (St w7 (some q) (some (.slice (some ⟨W21b.heap.size, 0, none⟩) 0 0, [])) (W21b.alloc (Obj.cells #[] 5))) := (unhide S).build
          clear S
          have S := S2
          clear S2
          generalize W21b.alloc (Obj.cells #[] 5) = W36a at *
          generalize W21b.heap.size = g0 at *
          refine readyL (i := 2) (by kernel_rfl) rfl (fun K hK => ?_)
          obtain ⟨a1, n1, c1, W37a, hr, hS⟩ := (unhide S).app (unhide HLX) (by have := (unhide HGL).1; simp; omega)
          have SA : Hid (St w7 (some q) (some (.slice a1 n1 c1, xe)) W37a) := hS
          have HR := hide hr
          clear hr hS
          clear S
          have S := SA
          clear SA
          refine step_append_run rfl (.tmp 60) (.tmp 61) 27 rfl _ _ (by simp [Act.eval]) (by simp [Act.eval]) _ _ (unhide HR _) ?_
          refine hK.out _ _ (fun _ => trivial) ?_
          clear hK K
          (try simp only [Act.put, List.setIfInBounds_toArray])
          have hH83 := trivial
          clear HR
          refine readyL (i := 8) (by kernel_rfl) rfl (fun K hK => ?_)
          obtain ⟨a2, n2, c2, W38a, hr, hS⟩ := (unhide S).app (unhide HL2) (by have := (unhide HGL).1; simp; omega)
          have SA : Hid (St w7 (some q) (some (.slice a2 n2 c2, xe ++ [y0])) W38a) := hS
          have HR := hide hr
          clear hr hS
          clear S
          have S := SA
          clear SA
          refine step_append_run rfl (.tmp 62) (.tmp 67) 27 rfl _ _ (by simp [Act.eval]) (by simp [Act.eval]) _ _ (unhide HR _) ?_
          refine hK.out _ _ (fun _ => trivial) ?_
          clear hK K
          (try simp only [Act.put])
          have hH84 := trivial
          clear HR
          refine readyL (i := 9) (by kernel_rfl) rfl (fun K hK => ?_)
          have CD := hide (decodeS (unhide S).lies (fun y hy => by rcases List.mem_append.1 hy with q | q; (exact (unhide HGL).2 y q); (simp only [List.mem_singleton] at q; rw [q]; exact unhide HY)) (by have := (unhide HGL).1; simp; omega) (unhide S).own)
          rw [unhide HD] at CD
          go_simp
          refine (unhide CD).mono ?_
          intro e w9 HA
          obtain ⟨ev9, rfl, g1, g2⟩ := unhide HA
          obtain ⟨ea7, ec7, hev⟩ := rrow_shape g1
          have S2 := hide ((unhide S).call g1 g2)
          clear HA g1 g2 S CD
          simp only at hev S2 ⊢
          obtain ⟨en7, hen⟩ : ∃ en7, en7 = ([] : List Int).length := ⟨_, rfl⟩
          (first | rw [← hen] at hev | skip)
          subst hev
          have S := S2
          clear S2
          (try clear hen)
          (try dsimp only)
          refine hK.out _ _ (fun _ => trivial) ?_
          clear hK K
          (try simp only [Act.put, List.setIfInBounds_toArray, List.set_cons_zero, List.set_cons_succ])
          have hH85 := trivial
          refine takeL (i := 10) (v := ?t86v10) (some 59) rfl rfl (by kernel_rfl) (by kernel_rfl) (by kernel_rfl) (by kernel_rfl) (by kernel_rfl) (fun _ _ _ h => h) (Or.inl ⟨by rfl, ?t86h10⟩) (by assumption) ?t86r10
          case t86h10 => (intro y hSu; (try dsimp only at hSu); go_simp; first | done | with_reducible rfl)
          (try simp only [Act.put, List.setIfInBounds_toArray, List.set_cons_zero, List.set_cons_succ])
          refine takeL (i := 11) (v := ?t86v11) (some 70) rfl rfl (by kernel_rfl) (by kernel_rfl) (by kernel_rfl) (by kernel_rfl) (by kernel_rfl) (fun _ _ _ h => h) (Or.inl ⟨by rfl, ?t86h11⟩) (by assumption) ?t86r11
          case t86h11 => (intro y hSu; (try dsimp only at hSu); go_simp; first | done | with_reducible rfl)
          (try simp only [Act.put, List.setIfInBounds_toArray, List.set_cons_zero, List.set_cons_succ])
          refine takeL (i := 12) (v := ?t86v12) (some 71) rfl rfl (by kernel_rfl) (by kernel_rfl) (by kernel_rfl) (by kernel_rfl) (by kernel_rfl) (fun _ _ _ h => h) (Or.inl ⟨by rfl, ?t86h12⟩) (by assumption) ?t86r12
          case t86h12 => (intro y hSu; (try dsimp only at hSu); go_simp; first | done | with_reducible rfl)
          (try simp only [Act.put, List.setIfInBounds_toArray, List.set_cons_zero, List.set_cons_succ])
          obtain ⟨⟨e0, e1, e2, e3⟩, k0, k1, k2, k3⟩ := (unhide S).cells
          have HBF : Hid (Below w.heap.size w (set4 w9 q (.int .i64 0) (.int .i64 0) (.int .u32 0) (.slice ea7 en7 ec7))) := (unhide HB7).trans (((unhide S).fin (.int .i64 0) (.int .i64 0) (.int .u32 0) (.slice ea7 en7 ec7)).mono (unhide HB7).size)
          clear S
          unfold set4 at HBF
          refine readyL (i := 14) (by kernel_rfl) rfl (fun K hK => ?_)
          go_simp
          refine hK.out _ _ (fun _ => trivial) ?_
          clear hK K
          (try simp only [Act.put, List.setIfInBounds_toArray, List.set_cons_zero, List.set_cons_succ])
          have hH88 := trivial
          refine takeL (i := 15) (v := ?t89v15) (some 13) rfl rfl (by kernel_rfl) (by kernel_rfl) (by kernel_rfl) (by kernel_rfl) (by kernel_rfl) (fun _ _ _ h => h) (Or.inl ⟨by rfl, ?t89h15⟩) (by assumption) ?t89r15
          case t89h15 => (intro y hSu; (try dsimp only at hSu); go_simp; first | done | with_reducible rfl)
          (try simp only [Act.put, List.setIfInBounds_toArray, List.set_cons_zero, List.set_cons_succ])
          refine doneL (by kernel_rfl) ?_ _
          refine NoPanic.normal ?_
          clear e0 e1 e2 e3 k0 k1 k2 k3
          go_wp2_with fail
          go_meet
          case rel => exact HBF
    · generalize errC (F, T, u, es) = code at *
      have z5 : (code == 0) = false := by simpa using hE
      have HB := hide (unhide HQ3).2
      clear hE
      go_wp2_with fail
      go_meet
      case rel => exact HB
  case rest =>
    obtain ⟨a', n', c', w2, hr, hb2, CD⟩ := unhide HNew _ (unhide hcut)
    have HR := hide hr
    have hB2 : Hid (Below w.heap.size w w2) := (unhide hcut).trans (hb2.mono (unhide hcut).size)
    have hdc : ∀ y, dec bs = some y → Good y ∧ encWt y = bs := fun y hy => dec_some (unhide HV).2 hy
    have HCV : Hid (∀ W, Below w.heap.size w W → (convert 27 9 (.slice ba bn bc)).run Try.prog W = .ok (.string (strB bs)) W) := fun W hW => convB (lies_below (unhide HV).1 hW) (unhide HV).2
    have HBX := hide (unhide HV).2
    clear hr hb2 HNew HQ3 H3 HU HB0 HV HBN
    cases hd : dec bs with
    | none =>
      have e1 : decV bs = ((0, 0, 0, []), 160) := by unfold decV; rw [hd]
      rw [e1] at CD
      clear hdc hd e1 HCV HBX
      go_wp2_with (at_builtin; refine Lib.wpList_append_run _ rfl _ _ 27 27 rfl _ _ rfl rfl _ _ (unhide HR _) ?_)
      refine (unhide CD).mono ?_
      intro e w3 HA
      obtain ⟨ev3, rfl, g1, g2⟩ := unhide HA
      obtain ⟨ea, ec, hev⟩ := rrow_shape g1
      have hB3 : Hid (Below w.heap.size w w3) := (unhide hB2).trans (g2.mono (unhide hB2).size)
      obtain ⟨q1, q2⟩ := inBox_new (x := (0, 0, 0, [])) (unhide hB3) (nrow_lies g1)
      have HQ4 := hide (And.intro q1 ((unhide hB3).trans (q2.mono (unhide hB3).size)))
      clear HA g1 g2 hB2 hB3 CD HR q1 q2
      simp only [List.length_nil] at hev HQ4 ⊢
      subst hev
      unfold oV at HQ4
      go_upto_region 14 with fail
      generalize w3.alloc (Obj.cells #[Value.int .i64 0, Value.int .i64 0, Value.int .u32 (0 : Nat), Value.slice ea 0 ec] 25) = w4 at *
      generalize w3.heap.size = b4 at *
      have hn : Lies i64v w4 (.slice none 0 0) ([] : List Int) := ⟨none, 0, rfl, Nat.le_refl _, fun _ => rfl, .inl rfl⟩
      have CS := hide (sameR 0 0 0 0 0 0 (unhide HQ4).1.2.1 hn (by simp))
      obtain ⟨c0, c1, c2, c3⟩ := oV_cells (unhide HQ4).1.1
      simp only [decide_true] at c0 c1 c2 c3 CS
      have HB4 := hide (unhide HQ4).2
      clear HQ4 hn
      go_wp2_with fail
      refine (unhide CS).mono ?_
      rintro e w5 ⟨rfl, hb5⟩
      have HB5 : Hid (Below w.heap.size w w5) := (unhide HB4).trans ((unhide hb5).mono (unhide HB4).size)
      clear CS hb5 HB4
      go_wp2_with fail
      go_ret
      exact ⟨by simp, HB5⟩
    | some y =>
      obtain ⟨hgood, henc⟩ := hdc y hd
      have e1 : decV bs = (y, 0) := by unfold decV; rw [hd]
      rw [e1] at CD
      obtain ⟨F2, T2, u2, es2⟩ := y
      have HGD := hide hgood
      have HEN : Hid (encV (F2, T2, u2, es2) = bs ∧ errC (F2, T2, u2, es2) = 0) := ⟨by unfold encV; rw [if_pos (errC_good hgood)]; exact henc, errC_good hgood⟩
      clear hdc hd e1 hgood henc
      go_wp2_with (at_builtin; refine Lib.wpList_append_run _ rfl _ _ 27 27 rfl _ _ rfl rfl _ _ (unhide HR _) ?_)
      refine (unhide CD).mono ?_
      intro e w3 HA
      obtain ⟨ev3, rfl, g1, g2⟩ := unhide HA
      obtain ⟨ea, ec, hev⟩ := rrow_shape g1
      have hB3 : Hid (Below w.heap.size w w3) := (unhide hB2).trans (g2.mono (unhide hB2).size)
      obtain ⟨q1, q2⟩ := inBox_new (x := (F2, T2, u2, es2)) (unhide hB3) (nrow_lies g1)
      have HQ4 := hide (And.intro q1 ((unhide hB3).trans (q2.mono (unhide hB3).size)))
      clear HA g1 g2 hB2 hB3 CD HR q1 q2
      simp only at hev HQ4 ⊢
      obtain ⟨en, hen⟩ : ∃ en, en = es2.length := ⟨_, rfl⟩
      rw [← hen] at hev
      subst hev
      clear hen
      unfold oV at HQ4
      go_upto_region 14 with fail
      generalize w3.alloc (Obj.cells #[Value.int .i64 F2, Value.int .i64 T2, Value.int .u32 (u2 : Nat), Value.slice ea en ec] 25) = w4 at *
      generalize w3.heap.size = b4 at *
      have CE := hide (encodeS F2 T2 u2 (unhide HQ4).1.2.1 (unhide HGD).2.2.2.1)
      obtain ⟨c0, c1, c2, c3⟩ := oV_cells (unhide HQ4).1.1
      simp only at c0 c1 c2 c3
      have HB4 := hide (unhide HQ4).2
      clear HQ4
      go_wp2_with fail
      refine (unhide CE).mono ?_
      intro e w5 HA
      obtain ⟨bv, rfl, g1, g2⟩ := unhide HA
      rw [(unhide HEN).1] at g1
      rw [(unhide HEN).2]
      have HB5 : Hid (Below w.heap.size w w5) := (unhide HB4).trans (g2.mono (unhide HB4).size)
      have k1 := convB (byrow_lies g1) (unhide HBX)
      have k2 := unhide HCV _ (unhide HB5)
      clear HA g1 g2 CE HB4 HEN HCV HBX HGD c0 c1 c2 c3
      generalize strB bs = s1 at *
      go_wp2_with fail
      go_ret
      exact ⟨by simp, HB5⟩
end Go.Proofs.Ytffdpfkcfohbiaa
