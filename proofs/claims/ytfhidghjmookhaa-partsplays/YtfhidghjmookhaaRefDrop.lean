/- The reference's Add to nothing, and Drop. -/
import Derived.Test.YtfhidghjmookhaaRefAdd
namespace Go.Proofs.Ytfhidghjmookhaa
open Go.RowKit Go.Maps

theorem appendNone {w : World} {B n : Nat} {v : Value} {xs : List Value} (h : w.ownsRow B 35 2 v n xs) : (Builtin.append_ #[26, 26] 26 #[v, .slice none 0 0]).run Try.prog w = .ok v w := by
  obtain ⟨i0, hi0, -⟩ := info_parts info35
  exact run_append_owned_none w B 26 26 35 i0 2 Try.underlying26 hi0 v n xs h

set_option maxHeartbeats 2000000 in
set_option maxRecDepth 100000 in
theorem refAddNil (nx k : Int) (w : World) (hnx : 0 ≤ nx ∧ nx ≤ 1000000) :
    Calls Try.prog 30 #[.agg #[.slice none 0 0, .int .i64 nx], .int .i64 k] w fun e w' => ∃ v', e = .returned (.tuple #[.agg #[v', .int .i64 (nx + 1)], .bool true]) ∧ Hid (w'.ownsRow w.heap.size 35 2 v' 1 (enc .i64 [(k, nx)]) ∧ Below w.heap.size w w') := by
  obtain ⟨hbx, hsz, hb⟩ := two_at w (.slice none 0 0) nx
  have CF := hide (refFind (its := []) nx k (two w (.slice none 0 0) nx) (World.ownsRow_nil _ _ _ _) (by simp))
  have HQ : Hid (∀ w3, Below (two w (.slice none 0 0) nx).heap.size (two w (.slice none 0 0) nx) w3 → ∃ b2 c2 w5,
      Hid ((Builtin.append_ #[26, 26] 26 #[.slice (some ⟨w3.heap.size, 0, none⟩) 0 0, .slice none 0 0]).run Try.prog (w3.alloc (.cells #[] 35)) = .ok (.slice (some ⟨w3.heap.size, 0, none⟩) 0 0) (w3.alloc (.cells #[] 35))) ∧
      Boxes w (w3.alloc (.cells #[] 35)) (.slice none 0 0) (.int .i64 nx) (.slice none 0 0) (.int .i64 0) ∧
      Hid ((Builtin.append_ #[26, 26] 26 #[.slice (some ⟨w3.heap.size, 0, none⟩) 0 0, .slice (some ⟨w3.heap.size + 1, 0, none⟩) 1 1]).run Try.prog ((w3.alloc (.cells #[] 35)).alloc (.cells #[.int .i64 k, .int .i64 nx] 35)) = .ok (.slice b2 1 c2) w5) ∧
      Boxes w w5 (.slice none 0 0) (.int .i64 nx) (.slice none 0 0) (.int .i64 0) ∧
      Hid ((Builtin.append_ #[26, 26] 26 #[.slice b2 1 c2, .slice none 0 0]).run Try.prog w5.drew = .ok (.slice b2 1 c2) w5.drew) ∧
      Hid ((((w5.drew.setCell ⟨w.heap.size + 1, 0, none⟩ (.slice b2 1 c2)).setCell ⟨w.heap.size + 1, 1, none⟩ (.int .i64 (nx + 1))).cell? ⟨w.heap.size + 1, 0, none⟩ = some (.slice b2 1 c2) ∧ ((w5.drew.setCell ⟨w.heap.size + 1, 0, none⟩ (.slice b2 1 c2)).setCell ⟨w.heap.size + 1, 1, none⟩ (.int .i64 (nx + 1))).cell? ⟨w.heap.size + 1, 1, none⟩ = some (.int .i64 (nx + 1))) ∧
        ((w5.drew.setCell ⟨w.heap.size + 1, 0, none⟩ (.slice b2 1 c2)).setCell ⟨w.heap.size + 1, 1, none⟩ (.int .i64 (nx + 1))).ownsRow w.heap.size 35 2 (.slice b2 1 c2) 1 (enc .i64 [(k, nx)]) ∧ Below w.heap.size w ((w5.drew.setCell ⟨w.heap.size + 1, 0, none⟩ (.slice b2 1 c2)).setCell ⟨w.heap.size + 1, 1, none⟩ (.int .i64 (nx + 1))))) := fun w3 hb3 => by
    have l3 : w.heap.size + 2 ≤ w3.heap.size := by have := hb3.size; omega
    have hmade : (w3.alloc (.cells #[] 35)).ownsRow w3.heap.size 35 2 (.slice (some ⟨w3.heap.size, 0, none⟩) 0 0) ([] : List (Int × Int)).length (enc .i64 []) := World.ownsRow_made w3 #[] 0 (Nat.le_refl _) (by unfold maxLen; omega) rfl
    obtain ⟨v2, w5, q1, q2, q3⟩ := snocRow (B := w3.heap.size) hmade (by simp) (by simp) k nx
    have hs3 : (w3.alloc (.cells #[] 35)).heap.size = w3.heap.size + 1 := by simp
    rw [hs3] at q1
    obtain ⟨b2, c2, hv2⟩ := item_shape (row_low q2 (Nat.zero_le _) (fun _ _ => rfl))
    subst hv2
    have b4 : Below w3.heap.size w3 (w3.alloc (.cells #[] 35)) := (Below.refl w3.heap.size w3).alloc (Nat.le_refl _) (.cells #[] 35)
    have b5 : Below w3.heap.size w3 w5 := b4.trans q3
    have q2' : w5.ownsRow w3.heap.size 35 2 (.slice b2 1 c2) 1 (enc .i64 [(k, nx)]) := q2
    have bx5 := hbx.kept hsz (hb3.trans (b5.mono hb3.size))
    have bx6 : Boxes w w5.drew (.slice none 0 0) (.int .i64 nx) (.slice none 0 0) (.int .i64 0) := bx5
    exact ⟨b2, c2, w5, appendNone hmade, hbx.kept hsz (hb3.trans (b4.mono hb3.size)), q1, bx5, appendNone (row_low (w' := w5.drew) q2' (Nat.le_refl _) (fun _ _ => rfl)), res_end (w5 := w5.drew) l3 (row_low q2' (Nat.le_refl _) (fun _ _ => rfl)) (below_drewN (hb.trans ((hb3.trans (b5.mono hb3.size)).mono hb.size)) 1) ⟨_, bx6.2.1.1⟩ ⟨_, bx6.2.1.2⟩⟩
  have hnx1 : IntKind.i64.wrap (nx + 1) = nx + 1 := by rw [IntKind.wrap_i64]; omega
  have HSZ := hide hsz
  have HBX := hide hbx
  obtain ⟨⟨a0, a1⟩, ⟨r0, r1⟩, fa, fr⟩ := hbx
  clear hb hsz hnx
  unfold two at *
  go_enter Try.func30, Try.ntmps30
  go_upto_region 1 with fail
  generalize ((w.alloc (.cells #[.slice none 0 0, .int .i64 nx] 28)).alloc (.cells #[.slice none 0 0, .int .i64 0] 28)) = W at *
  go_wp2_with fail
  refine (unhide CF).mono ?_
  rintro e w3 ⟨r, rfl, h3⟩
  obtain ⟨ha, hb3⟩ := unhide h3
  have hr : r < 0 := by
    rcases Int.lt_or_le r 0 with e | e
    · exact e
    · exact absurd (fun j hj => absurd hj (Nat.not_lt_zero _)) (in_of ha (by omega))
  obtain ⟨⟨d0, d1⟩, ⟨e0, e1⟩, df, ef⟩ := (unhide HBX).kept (unhide HSZ) hb3
  obtain ⟨b2, c2, w5, HR1, x4, HR2, x5, HR3, HE⟩ := unhide HQ w3 hb3
  obtain ⟨⟨f0, f1⟩, -, -, -⟩ := x4
  obtain ⟨⟨g0, g1⟩, ⟨g2, g3⟩, gf, gg⟩ := x5
  clear CF h3 ha hb3 HQ HBX HSZ a0 a1 r0 r1 fa fr
  go_wp2_with fail
  refine wp_loop_rounds 1 ?_
  rw [rounds_succ]
  go_upto_region 8 with (at_builtin; first | refine Lib.wpList_append_run _ rfl _ _ 26 26 rfl (.slice (some ⟨w3.heap.size, 0, none⟩) 0 0) (.slice none 0 0) rfl rfl _ _ HR1.out ?_ | refine Lib.wpList_append_run _ rfl _ _ 26 26 rfl (.slice (some ⟨w3.heap.size, 0, none⟩) 0 0) (.slice (some ⟨w3.heap.size + 1, 0, none⟩) 1 1) rfl rfl _ _ HR2.out ?_)
  go_region_law (refine step_append_run rfl (.tmp 43) (.tmp 47) 26 rfl _ _ (by first | rfl | simp [Act.eval]) (by first | rfl | simp [Act.eval]) _ _ HR3.out ?_)
  all_goals
    go_wp2_with fail
    (try simp only [Exit.inBlock, Exit.then])
    refine bodyPost_ret (res2 rfl _ _ (w.heap.size + 1) _ _ rfl (unhide HE).1.1 (unhide HE).1.2) rfl ?_
    exact ⟨_, rfl, (unhide HE).2⟩

set_option maxHeartbeats 1000000 in
set_option maxRecDepth 100000 in
theorem refDropNo {v : Value} {its : List (Int × Int)} (nx k : Int) (w : World) (h : w.ownsRow 0 35 2 v its.length (enc .i64 its)) (hn : its.length ≤ 1000000) (hi : Out its k) :
    Calls Try.prog 31 #[.agg #[v, .int .i64 nx], .int .i64 k] w fun e w' => e = .returned (.tuple #[.agg #[v, .int .i64 nx], .bool false]) ∧ Hid (Below w.heap.size w w') := by
  obtain ⟨hbx, hsz, hb⟩ := two_at w v nx
  have CF := hide (refFind nx k _ (items_below h hb) hn)
  obtain ⟨a, c, rfl⟩ := item_shape h
  have HI := hide hi
  have HB := hide hb
  have HSZ := hide hsz
  have HBX := hide hbx
  generalize hL : its.length = L at *
  obtain ⟨⟨a0, a1⟩, ⟨r0, r1⟩, fa, fr⟩ := hbx
  clear h hn hi hb hsz hL
  go_enter Try.func31, Try.ntmps31
  go_upto_region 1 with fail
  unfold two at *
  generalize ((w.alloc (.cells #[.slice a L c, .int .i64 nx] 28)).alloc (.cells #[.slice none 0 0, .int .i64 0] 28)) = W at *
  go_wp2_with fail
  refine (unhide CF).mono ?_
  rintro e w3 ⟨r, rfl, h3⟩
  obtain ⟨ha, hb3⟩ := unhide h3
  have hr : r < 0 := by
    rcases Int.lt_or_le r 0 with e | e
    · exact e
    · exact absurd (unhide HI) (in_of ha (by omega))
  obtain ⟨⟨d0, d1⟩, ⟨e0, e1⟩, -, ef⟩ := (unhide HBX).kept (unhide HSZ) hb3
  have HR := hide (stored2 e0 e1 (.slice a L c) (.int .i64 nx))
  have HBR := hide (below2 ((unhide HB).trans (hb3.mono (unhide HB).size)) (by omega : w.heap.size ≤ w.heap.size + 1) (.slice a L c) (.int .i64 nx))
  clear CF h3 ha hb3 HB HSZ HBX a0 a1 r0 r1 fa fr
  go_wp2_with fail
  (try simp only [Exit.inBlock, Exit.then])
  refine bodyPost_ret (res2 rfl _ _ (w.heap.size + 1) _ _ rfl (unhide HR).1 (unhide HR).2) rfl ?_
  exact ⟨rfl, unhide HBR⟩

set_option maxHeartbeats 2000000 in
set_option maxRecDepth 100000 in
theorem refDropYes {g cap : Nat} {its : List (Int × Int)} (nx k : Int) (i n2 : Nat) (w : World) (h : w.ownsRow 0 35 2 (.slice (some ⟨g, 0, none⟩) its.length cap) its.length (enc .i64 its)) (hn : its.length ≤ 1000000) (hi1 : i < its.length) (hik : lo its i = k) (hu : ∀ m, m < its.length → lo its m = k → m = i) (hn2 : n2 + 1 = its.length) :
    Calls Try.prog 31 #[.agg #[.slice (some ⟨g, 0, none⟩) its.length cap, .int .i64 nx], .int .i64 k] w fun e w' => ∃ v', e = .returned (.tuple #[.agg #[v', .int .i64 nx], .bool true]) ∧ Hid (w'.ownsRow w.heap.size 35 2 v' n2 (enc .i64 (its.take i ++ its.drop (i + 1))) ∧ Below w.heap.size w w') := by
  obtain ⟨hbx, hsz, hb⟩ := two_at w (.slice (some ⟨g, 0, none⟩) its.length cap) nx
  have h2 := items_below h hb
  have CF := hide (refFind nx k _ h2 hn)
  have HJ : Hid (∀ r, AtIs its k r → r = (i : Int)) := fun r hr => at_one hr hi1 hik hu
  have hcapb : its.length ≤ cap ∧ cap ≤ maxLen := by
    rcases h.2 with ⟨e, -⟩ | ⟨g', cap', cur', e, -, hgg, h1, h2, -⟩
    · cases e
    · cases e; exact ⟨h1, h2⟩
  have HQ : Hid (∀ w3, Below (two w (.slice (some ⟨g, 0, none⟩) its.length cap) nx).heap.size (two w (.slice (some ⟨g, 0, none⟩) its.length cap) nx) w3 → ∃ b1 c1 w4 src b3 c3 w6,
      Hid ((Builtin.append_ #[26, 26] 26 #[.slice (some ⟨w3.heap.size, 0, none⟩) 0 0, .slice (some ⟨g, 0, none⟩) i cap]).run Try.prog (w3.alloc (.cells #[] 35)) = .ok (.slice b1 i c1) w4) ∧
      Boxes w w4 (.slice (some ⟨g, 0, none⟩) its.length cap) (.int .i64 nx) (.slice none 0 0) (.int .i64 0) ∧
      (if cap = i + 1 then (⟨g, 0, none⟩ : Addr) else ⟨g, (i + 1) * 2, none⟩) = src ∧
      Hid ((Builtin.append_ #[26, 26] 26 #[.slice b1 i c1, .slice (some src) (its.length - (i + 1)) (cap - (i + 1))]).run Try.prog w4.drew = .ok (.slice b3 n2 c3) w6) ∧
      Boxes w w6 (.slice (some ⟨g, 0, none⟩) its.length cap) (.int .i64 nx) (.slice none 0 0) (.int .i64 0) ∧
      Hid ((((w6.setCell ⟨w.heap.size + 1, 0, none⟩ (.slice b3 n2 c3)).setCell ⟨w.heap.size + 1, 1, none⟩ (.int .i64 nx)).cell? ⟨w.heap.size + 1, 0, none⟩ = some (.slice b3 n2 c3) ∧ ((w6.setCell ⟨w.heap.size + 1, 0, none⟩ (.slice b3 n2 c3)).setCell ⟨w.heap.size + 1, 1, none⟩ (.int .i64 nx)).cell? ⟨w.heap.size + 1, 1, none⟩ = some (.int .i64 nx)) ∧
        ((w6.setCell ⟨w.heap.size + 1, 0, none⟩ (.slice b3 n2 c3)).setCell ⟨w.heap.size + 1, 1, none⟩ (.int .i64 nx)).ownsRow w.heap.size 35 2 (.slice b3 n2 c3) n2 (enc .i64 (its.take i ++ its.drop (i + 1))) ∧ Below w.heap.size w ((w6.setCell ⟨w.heap.size + 1, 0, none⟩ (.slice b3 n2 c3)).setCell ⟨w.heap.size + 1, 1, none⟩ (.int .i64 nx)))) := fun w3 hb3 => by
    have l3 : w.heap.size + 2 ≤ w3.heap.size := by have := hb3.size; omega
    have hrow3 := items_below h2 hb3
    obtain ⟨b1, c1, w4, p1, p2, p3⟩ := headRow hrow3 hn (Nat.le_of_lt hi1)
    have bx4 := hbx.kept hsz (hb3.trans (p3.mono hb3.size))
    obtain ⟨src, b3, c3, w6, t1, t2, t3, t4⟩ := tailRow (w2 := w4.drew) (B := w3.heap.size) (v1 := .slice b1 i c1) (n := i) (xs := its.take i) (its := its) (g := g) (cap := cap) (t := i + 1) (row_low p2 (Nat.le_refl _) (fun _ _ => rfl)) (items_kept hrow3 (fun j hj => p3.block j (hrow3.lt j hj).2)) hn (by omega) p3.size hi1
    rw [show i + (its.length - (i + 1)) = n2 by omega] at t2 t3
    have b36 : Below w3.heap.size w3 w6 := (below_drewN p3 1).trans t4
    have bx6 := hbx.kept hsz (hb3.trans (b36.mono hb3.size))
    exact ⟨b1, c1, w4, src, b3, c3, w6, p1, bx4, t1, t2, bx6, res_end l3 t3 (hb.trans ((hb3.trans (b36.mono hb3.size)).mono hb.size)) ⟨_, bx6.2.1.1⟩ ⟨_, bx6.2.1.2⟩⟩
  have hcb : (i : Int) ≤ (cap : Int) := by omega
  have hiL : (i : Int) + 1 ≤ (its.length : Int) := by omega
  have hcb2 : (its.length : Int) ≤ (cap : Int) := by omega
  have hi0 : ¬ (i : Int) < 0 := by omega
  have HSZ := hide hsz
  have HBX := hide hbx
  obtain ⟨⟨a0, a1⟩, ⟨r0, r1⟩, fa, fr⟩ := hbx
  have hiw : IntKind.i64.wrap ((i : Int) + 1) = ((i + 1 : Nat) : Int) := by rw [IntKind.wrap_i64]; omega
  have hi01 : (0 : Int) ≤ (i : Int) + 1 := by omega
  have hiL2 : ((i + 1 : Nat) : Int) ≤ (its.length : Int) := by omega
  generalize hLL : its.length = L at *
  have HI1 := hide hi1
  have HCL : Hid (L ≤ cap) := hcapb.1
  clear h hn hb hsz h2 hik hu hcapb hLL hn2 hi1
  unfold two at *
  go_enter Try.func31, Try.ntmps31
  go_upto_region 1 with fail
  generalize ((w.alloc (.cells #[.slice (some ⟨g, 0, none⟩) L cap, .int .i64 nx] 28)).alloc (.cells #[.slice none 0 0, .int .i64 0] 28)) = W at *
  go_wp2_with fail
  refine (unhide CF).mono ?_
  rintro e w3 ⟨r, rfl, h3⟩
  obtain ⟨ha, hb3⟩ := unhide h3
  obtain rfl := unhide HJ r ha
  obtain ⟨⟨d0, d1⟩, ⟨e0, e1⟩, df, ef⟩ := (unhide HBX).kept (unhide HSZ) hb3
  obtain ⟨b1, c1, w4, src, b3, c3, w6, HR1, x4, hsrc, HR3, x6, HE⟩ := unhide HQ w3 hb3
  obtain ⟨⟨f0, f1⟩, -, -, -⟩ := x4
  obtain ⟨⟨h0, h1⟩, ⟨j2, j3⟩, hf, hg⟩ := x6
  have d2 := cell_made (.cells #[] 35) d0
  clear CF h3 ha hb3 HQ HJ HBX HSZ a0 a1 r0 r1 fa fr
  by_cases hcap : cap = i + 1
  · have hL2 : L = i + 1 := by have := unhide HI1; have := unhide HCL; omega
    subst hL2
    subst hcap
    rw [if_pos rfl] at hsrc
    subst hsrc
    rw [Nat.sub_self] at HR3
    go_upto_region 5 with (at_builtin; refine Lib.wpList_append_run _ rfl _ _ 26 26 rfl (.slice (some ⟨w3.heap.size, 0, none⟩) 0 0) (.slice (some ⟨g, 0, none⟩) i (i + 1)) rfl rfl _ _ HR1.out ?_)
    go_region_law (refine step_append_run rfl (.tmp 20) (.tmp 25) 26 rfl _ _ (by first | rfl | simp [Act.eval]) (by first | rfl | simp [Act.eval]) _ _ HR3.out ?_)
    all_goals
      go_wp2_with fail
      (try simp only [Exit.inBlock, Exit.then])
      refine bodyPost_ret (res2 rfl _ _ (w.heap.size + 1) _ _ rfl (unhide HE).1.1 (unhide HE).1.2) rfl ?_
      exact ⟨_, rfl, (unhide HE).2⟩
  · rw [if_neg hcap] at hsrc
    subst hsrc
    go_upto_region 5 with (at_builtin; refine Lib.wpList_append_run _ rfl _ _ 26 26 rfl (.slice (some ⟨w3.heap.size, 0, none⟩) 0 0) (.slice (some ⟨g, 0, none⟩) i cap) rfl rfl _ _ HR1.out ?_)
    go_region_law (refine step_append_run rfl (.tmp 20) (.tmp 25) 26 rfl _ _ (by first | rfl | simp [Act.eval]) (by first | rfl | simp [Act.eval]) _ _ HR3.out ?_)
    all_goals
      go_wp2_with fail
      (try simp only [Exit.inBlock, Exit.then])
      refine bodyPost_ret (res2 rfl _ _ (w.heap.size + 1) _ _ rfl (unhide HE).1.1 (unhide HE).1.2) rfl ?_
      exact ⟨_, rfl, (unhide HE).2⟩
end Go.Proofs.Ytfhidghjmookhaa
