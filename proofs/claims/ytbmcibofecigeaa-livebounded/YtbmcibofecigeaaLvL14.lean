/- Delete, Reweigh: walked. -/
import Derived.Test.YtbmcibofecigeaaLvJ14
namespace Go.Proofs.Ytbmcibofecigeaa
open Go.RowKit Go.Maps
attribute [local go_sem] run_storeF run_fieldE0 run_fieldE1
theorem cut_mem {gs : List EdV} (hu : (gs.map (·.1)).Nodup) {i : Nat} {x : EdV} (hi : gs[i]? = some x) : ∀ y, y ∈ gs.take i ++ gs.drop (i + 1) ↔ y ∈ gs ∧ y.1 ≠ x.1 := by
  have hl := List.getElem?_eq_some_iff.1 hi
  have e : gs = gs.take i ++ x :: gs.drop (i + 1) := by
    rw [← hl.2, ← List.drop_eq_getElem_cons hl.1, List.take_append_drop]
  intro y
  generalize gs.take i = A at *
  generalize gs.drop (i + 1) = B at *
  subst e
  rw [List.map_append, List.map_cons, List.nodup_append] at hu
  obtain ⟨-, h2, h3⟩ := hu
  have h4 := List.nodup_cons.1 h2
  rw [List.mem_append, List.mem_append, List.mem_cons]
  constructor
  · rintro (q | q)
    · exact ⟨.inl q, h3 _ (List.mem_map.2 ⟨y, q, rfl⟩) _ (List.mem_cons_self ..)⟩
    · exact ⟨.inr (.inr q), fun z => h4.1 (by rw [← z]; exact List.mem_map.2 ⟨y, q, rfl⟩)⟩
  · rintro ⟨q | q | q, hne⟩
    · exact .inl q
    · exact absurd (by rw [q]) hne
    · exact .inr q
theorem cut_nodup {gs : List EdV} (hu : (gs.map (·.1)).Nodup) (i : Nat) : ((gs.take i ++ gs.drop (i + 1)).map (·.1)).Nodup := by
  refine List.Nodup.sublist ?_ hu
  refine List.Sublist.map _ ?_
  have : (gs.take i ++ gs.drop (i + 1)).Sublist (gs.take i ++ gs.drop i) := List.Sublist.append (List.Sublist.refl _) (by rw [show gs.drop (i + 1) = (gs.drop i).drop 1 by rw [List.drop_drop]]; exact List.drop_sublist _ _)
  rwa [List.take_append_drop] at this
theorem ERel.cut {E : L14.Es} {gs : List EdV} (h : ERel E gs) {i : Nat} {e u v b : Int} (hi : gs[i]? = some (e, u, v, b)) : ERel (putG E e none) (gs.take i ++ gs.drop (i + 1)) := by
  have hm := cut_mem h.un hi
  refine ⟨fun d x y k => ?_, cut_nodup h.un i, fun x hx => h.lo x ((hm x).1 hx).1⟩
  rw [hm]
  by_cases z : d = e
  · rw [z, putG_self]
    exact ⟨fun q => (by cases q), fun q => absurd rfl q.2⟩
  · rw [putG_ne z, h.ed]
    exact ⟨fun q => ⟨q, z⟩, fun q => q.1⟩
theorem set_mem {gs : List EdV} (hu : (gs.map (·.1)).Nodup) {i : Nat} {x x' : EdV} (hi : gs[i]? = some x) : ∀ y, y ∈ gs.set i x' ↔ y = x' ∨ (y ∈ gs ∧ y.1 ≠ x.1) := by
  have hl := List.getElem?_eq_some_iff.1 hi
  have e : gs = gs.take i ++ x :: gs.drop (i + 1) := by
    rw [← hl.2, ← List.drop_eq_getElem_cons hl.1, List.take_append_drop]
  intro y
  rw [List.set_eq_take_append_cons_drop, if_pos hl.1, List.mem_append, List.mem_cons, ← cut_mem hu hi y, List.mem_append]
  exact ⟨fun q => q.elim (fun z => .inr (.inl z)) (fun z => z.elim .inl (fun t => .inr (.inr t))), fun q => q.elim (fun z => .inr (.inl z)) (fun z => z.elim .inl (fun t => .inr (.inr t)))⟩
theorem ERel.rew {E : L14.Es} {gs : List EdV} (h : ERel E gs) {i : Nat} {e u v b : Int} {c : Nat} (hi : gs[i]? = some (e, u, v, b)) (hc : c < 2139095040) : ERel (putG E e (some (u, v, c))) (gs.set i (e, u, v, (c : Int))) := by
  have hm := set_mem (x' := (e, u, v, (c : Int))) h.un hi
  have hl := List.getElem?_eq_some_iff.1 hi
  refine ⟨fun d x y k => ?_, ?_, fun x hx => ?_⟩
  · rw [hm]
    by_cases z : d = e
    · rw [z, putG_self]
      constructor
      · intro q
        have q := Option.some.inj q
        have e1 : u = x := congrArg (·.1) q
        have e2 : v = y := congrArg (·.2.1) q
        have e3 : c = k := congrArg (·.2.2) q
        rw [e1, e2, e3]; exact .inl rfl
      · rintro (q | ⟨-, q⟩)
        · have e1 : x = u := congrArg (·.2.1) q
          have e2 : y = v := congrArg (·.2.2.1) q
          have e3 : (k : Int) = (c : Int) := congrArg (·.2.2.2) q
          have e3 : k = c := by omega
          rw [e1, e2, e3]
        · exact absurd rfl q
    · rw [putG_ne z, h.ed]
      refine ⟨fun q => .inr ⟨q, z⟩, fun q => ?_⟩
      rcases q with q | q
      · exact absurd (congrArg (·.1) q) z
      · exact q.1
  · have e1 : (gs.set i (e, u, v, (c : Int))).map (·.1) = gs.map (·.1) := by
      rw [List.map_set]
      apply List.ext_getElem?
      intro j
      by_cases q : j = i
      · rw [q, List.getElem?_set_self (by simpa using hl.1), List.getElem?_map, hi]; rfl
      · rw [List.getElem?_set_ne (fun z => q z.symm)]
    rw [e1]; exact h.un
  · rcases (hm x).1 hx with q | q
    · have := h.lo _ (List.mem_of_getElem? hi)
      rw [q]
      refine ⟨this.1, ?_, ?_⟩
      · show 0 ≤ (c : Int); omega
      · show (c : Int) < 2139095040; omega
    · exact h.lo x q.1
section
variable {L : Lab} {w w' : World} {p : Nat} {s tc : Int} {vs : List Int} {gs : List EdV} {T : L14.Tr} {N : Nat}
set_option maxHeartbeats 4000000 in
set_option maxRecDepth 100000 in
theorem vDelNo (h : LvK L w p s tc vs gs T N) {e : Int} (oe : okN e) (hno : ∀ x ∈ gs, x.1 ≠ e) : Calls Try.prog 23 #[.pointer (some ⟨p, 0, none⟩), .int .i64 e] w fun r w' => r = .returned (.int .i64 6) ∧ Hid (LvGo L w p s tc vs gs T N w') := by
  have hb := below_new w (oEg 0 0 0)
  have hblk := heap_alloc_new w (oEg 0 0 0)
  obtain ⟨W1, hW1⟩ : ∃ W1, W1 = w.alloc (oEg 0 0 0) := ⟨_, rfl⟩
  obtain ⟨wb, hwb⟩ : ∃ wb, wb = w.heap.size := ⟨_, rfl⟩
  rw [← hW1] at hblk hb
  rw [← hwb] at hblk
  obtain ⟨mv, me, V, nv, E, ne, O, I, h1, g2, g3, g4, g5, g6, g7⟩ := h
  have hE := g5.none_ hno
  have hq0 := h1.at_.lookE2 oe
  rw [hE] at hq0
  have hq : (Instr.lookup 49 (.map (some me)) (.int .i64 e) true).run Try.prog w = .ok (.tuple #[.agg #[.int .i64 0, .int .i64 0, .float .f32 0], .bool false]) w := hq0
  obtain ⟨-, -, p2, -, -⟩ := cellsL h1.at_.box
  have HE : Hid (LvGo L w p s tc vs gs T N W1) := ⟨L, ⟨mv, me, V, nv, E, ne, O, I, h1.below hb, g2, g3, g4, g5, g6, g7⟩, ChL.below hb⟩
  clear hno
  have HW1 := hide hW1
  have HWB := hide hwb
  clear h1 hb hblk hW1 hwb g2 g3 g4 g5 g6 g7 hE hq0
  go_enter Try.func23, Try.ntmps23
  go_upto_region 2 with fail
  rw [show w.alloc (.cells #[.int .i64 0, .int .i64 0, .float .f32 0] 73) = W1 from (unhide HW1).symm, ← unhide HWB]
  clear HW1 HWB hq p2
  go_wp2_with fail
  go_ret
  exact ⟨rfl, HE⟩
set_option maxHeartbeats 4000000 in
set_option maxRecDepth 100000 in
theorem vDelPlain (h : LvK L w p s tc vs gs T N) {e : Int} (oe : okN e) {i : Nat} {u v : Int} {c : Nat} (hi : gs[i]? = some (e, u, v, (c : Int))) (hN : N ≤ 200) (hl : L14.lst T v ≠ e) : Calls Try.prog 23 #[.pointer (some ⟨p, 0, none⟩), .int .i64 e] w fun r w' => r = .returned (.int .i64 0) ∧ Hid (∃ (n : Nat) (T' : L14.Tr), LvGo L w p s n vs (gs.take i ++ gs.drop (i + 1)) T' N w' ∧ TouD T T' e n) := by
  have hb := below_new w (oEg u v c)
  have hblk := heap_alloc_new w (oEg u v c)
  obtain ⟨W1, hW1⟩ : ∃ W1, W1 = w.alloc (oEg u v c) := ⟨_, rfl⟩
  obtain ⟨wb, hwb⟩ : ∃ wb, wb = w.heap.size := ⟨_, rfl⟩
  rw [← hW1] at hblk hb
  rw [← hwb] at hblk
  obtain ⟨mv, me, V, nv, E, ne, O, I, h1, g2, g3, g4, g5, g6, g7⟩ := h
  have hE : E e = some (u, v, c) := g5.some_ (List.mem_of_getElem? hi)
  have hq0 := h1.at_.lookE2 oe
  rw [hE] at hq0
  have hq : (Instr.lookup 49 (.map (some me)) (.int .i64 e) true).run Try.prog w = .ok (.tuple #[.agg #[.int .i64 u, .int .i64 v, .float .f32 c], .bool true]) w := hq0
  obtain ⟨-, -, p2, -, -⟩ := cellsL h1.at_.box
  obtain ⟨oe_, hu, hv⟩ := g2.ed e u v c hE
  have h0 : e ≠ 0 := fun z => by
    have h9 : 1 ≤ e := (g5.lo _ (List.mem_of_getElem? hi)).1
    omega
  obtain ⟨ne', hne'⟩ : ∃ ne', ne = ne' + 1 := by
    cases ne with
    | zero =>
      have := h1.at_.es.zero oe
      rw [hE] at this; cases this
    | succ k => exact ⟨k, rfl⟩
  subst hne'
  obtain ⟨bv, _, _, hrv⟩ := h1.at_.read2 g2 hv
  have hbd : Below w.heap.size w W1.drew := below_drewN hb 1
  obtain ⟨l1, y1, -, sv, -, -⟩ := hrv W1.drew hbd
  obtain ⟨x0, x1, x2⟩ := cellsEg hblk
  obtain ⟨-, -, -, -, kv4, -⟩ := cellsSp sv
  have y1' : W1.cell? ⟨p, 1, none⟩ = some (.map (some mv)) := y1
  have kv4' : W1.cell? ⟨bv, 4, none⟩ = some (.int .i64 (L14.lst T v)) := kv4
  have hlb : L wb = none := h1.fr wb (by omega)
  have hwp : wb ≠ p := fun z => by rw [z, h1.at_.lp] at hlb; cases hlb
  have CR := hide (vremoveT (h1.below hbd) g2 hN hE)
  have HRM : Hid (∀ w3, PutA L W1.drew p mv me s tc V nv (putG E e none) ne' T (updO O u (cutL (O u) e)) (updO I v (cutL (I v) e)) w3 → ∃ L1, LvS L1 w3 p mv me s tc V nv (putG E e none) ne' T (updO O u (cutL (O u) e)) (updO I v (cutL (I v) e)) ∧ ChL L w L1 w3 ∧ w3.heap[wb]? = some (oEg u v c) ∧ w3.frozen? ⟨p, 3, none⟩ = false ∧ w3.cell? ⟨p, 3, none⟩ = some (.int .i64 tc)) := fun w3 ⟨L1, m1, m2⟩ => by
    obtain ⟨-, -, -, b3, bf⟩ := cellsL m1.at_.box
    exact ⟨L1, m1, (ChL.below hbd).trans m2, (m2.tur.block wb (heap_lt hblk) (fun z => z hlb)).trans hblk, bf 3, b3⟩
  have HFI : Hid (∀ L1 w3, LvS L1 w3 p mv me s 0 V nv (putG E e none) ne' T (updO O u (cutL (O u) e)) (updO I v (cutL (I v) e)) → ChL L w L1 w3 → ∃ (n : Nat) (T' : L14.Tr), LvGo L w p s n vs (gs.take i ++ gs.drop (i + 1)) T' N w3 ∧ TouD T T' e n) := fun L1 w3 m1 m2 => by
    have hR : L14.Right (putG E e none) s T := g4.drop (fun d q => putG_ne q) (putG_self _ _ _) (fun x hx hxs q => by
      obtain ⟨a, k, z, -⟩ := g4.hang x hx hxs
      rw [q, hE] at z
      have : v = x := congrArg (·.2.1) (Option.some.inj z)
      rw [← this] at q
      exact hl q) h0
    exact ⟨0, T, ⟨L1, ⟨mv, me, V, nv, _, ne', _, _, m1, g2.cut hE, g3, hR, g5.cut hi, g6, by omega⟩, m2⟩, ⟨[], List.nodup_nil, rfl, fun _ z => (by cases z)⟩, fun z => absurd z (by decide)⟩
  have HWP := hide hwp
  have zl : (L14.lst T v == e) = false := by simpa using hl
  clear hi hN hl hu hv h0 oe_ hrv hbd sv y1 kv4 hlb hwp oe
  generalize L14.lst T v = lv at *
  have HW1 := hide hW1
  have HWB := hide hwb
  clear h1 hb hblk hW1 hwb g2 g3 g4 g5 g6 g7 hE hq0
  go_enter Try.func23, Try.ntmps23
  go_upto_region 2 with fail
  rw [show w.alloc (.cells #[.int .i64 u, .int .i64 v, .float .f32 c] 73) = W1 from (unhide HW1).symm, ← unhide HWB]
  clear HW1 HWB hq p2
  go_upto_region 4 with fail
  refine wp_region_noPanic ?_
  refine regionL [] (fun y => y.cell? ⟨p, 1, none⟩ = some (.map (some mv)) ∧ y.cell? ⟨wb, 1, none⟩ = some (.int .i64 v) ∧ y.cell? ⟨bv, 4, none⟩ = some (.int .i64 lv) ∧ (Instr.lookup 48 (.map (some mv)) (.int .i64 v) false).run Try.prog y = .ok (.pointer (some ⟨bv, 0, none⟩)) y) (by kernel_rfl) ⟨y1', x1, kv4', l1⟩ (fun hHeld => ?_)
  refine takeL (i := 0) (v := ?t2v0) (some 19) rfl rfl (by kernel_rfl) (by kernel_rfl) (by kernel_rfl) (by kernel_rfl) (by kernel_rfl) (fun _ _ _ h => h) (Or.inl ⟨by rfl, ?t2h0⟩) (by assumption) ?t2r0
  case t2h0 => (intro y hSu; (try dsimp only at hSu); go_simp; first | done | with_reducible rfl)
  (try simp only [Act.put, List.setIfInBounds_toArray, List.set_cons_zero, List.set_cons_succ])
  refine takeL (i := 1) (v := ?t2v1) (some 20) rfl rfl (by kernel_rfl) (by kernel_rfl) (by kernel_rfl) (by kernel_rfl) (by kernel_rfl) (fun _ _ _ h => h) (Or.inl ⟨by rfl, ?t2h1⟩) (by assumption) ?t2r1
  case t2h1 => (intro y hSu; (try dsimp only at hSu); go_simp; first | done | with_reducible rfl)
  (try simp only [Act.put, List.setIfInBounds_toArray, List.set_cons_zero, List.set_cons_succ])
  refine takeL (i := 2) (v := ?t2v2) (some 21) rfl rfl (by kernel_rfl) (by kernel_rfl) (by kernel_rfl) (by kernel_rfl) (by kernel_rfl) (fun _ _ _ h => h) (Or.inl ⟨by rfl, ?t2h2⟩) (by assumption) ?t2r2
  case t2h2 => (intro y hSu; (try dsimp only at hSu); go_simp; first | done | with_reducible rfl)
  (try simp only [Act.put, List.setIfInBounds_toArray, List.set_cons_zero, List.set_cons_succ])
  refine takeL (i := 3) (v := ?t2v3) (some 22) rfl rfl (by kernel_rfl) (by kernel_rfl) (by kernel_rfl) (by kernel_rfl) (by kernel_rfl) (fun _ _ _ h => h) (Or.inl ⟨by rfl, ?t2h3⟩) (by assumption) ?t2r3
  case t2h3 => (intro y hSu; (try dsimp only at hSu); go_simp; first | done | with_reducible rfl)
  (try simp only [Act.put, List.setIfInBounds_toArray, List.set_cons_zero, List.set_cons_succ])
  refine takeL (i := 4) (v := ?t2v4) (some 23) rfl rfl (by kernel_rfl) (by kernel_rfl) (by kernel_rfl) (by kernel_rfl) (by kernel_rfl) (fun _ _ _ h => h) (Or.inl ⟨by rfl, ?t2h4⟩) (by assumption) ?t2r4
  case t2h4 => (intro y hSu; (try dsimp only at hSu); go_simp; first | done | with_reducible rfl)
  (try simp only [Act.put, List.setIfInBounds_toArray, List.set_cons_zero, List.set_cons_succ])
  refine takeL (i := 5) (v := ?t2v5) (some 24) rfl rfl (by kernel_rfl) (by kernel_rfl) (by kernel_rfl) (by kernel_rfl) (by kernel_rfl) (fun _ _ _ h => h) (Or.inl ⟨by rfl, ?t2h5⟩) (by assumption) ?t2r5
  case t2h5 => (intro y hSu; (try dsimp only at hSu); go_simp; first | done | with_reducible rfl)
  (try simp only [Act.put, List.setIfInBounds_toArray, List.set_cons_zero, List.set_cons_succ])
  refine takeL (i := 6) (v := ?t2v6) (some 25) rfl rfl (by kernel_rfl) (by kernel_rfl) (by kernel_rfl) (by kernel_rfl) (by kernel_rfl) (fun _ _ _ h => h) (Or.inl ⟨by rfl, ?t2h6⟩) (by assumption) ?t2r6
  case t2h6 => (intro y hSu; (try dsimp only at hSu); go_simp; first | done | with_reducible rfl)
  (try simp only [Act.put, List.setIfInBounds_toArray, List.set_cons_zero, List.set_cons_succ])
  refine takeL (i := 7) (v := ?t2v7) (some 26) rfl rfl (by kernel_rfl) (by kernel_rfl) (by kernel_rfl) (by kernel_rfl) (by kernel_rfl) (fun _ _ _ h => h) (Or.inl ⟨by rfl, ?t2h7⟩) (by assumption) ?t2r7
  case t2h7 => (intro y hSu; (try dsimp only at hSu); go_simp; first | done | with_reducible rfl)
  (try simp only [Act.put, List.setIfInBounds_toArray, List.set_cons_zero, List.set_cons_succ])
  refine takeL (i := 8) (v := ?t2v8) (some 27) rfl rfl (by kernel_rfl) (by kernel_rfl) (by kernel_rfl) (by kernel_rfl) (by kernel_rfl) (fun _ _ _ h => h) (Or.inl ⟨by rfl, ?t2h8⟩) (by assumption) ?t2r8
  case t2h8 => (intro y hSu; (try dsimp only at hSu); go_simp; first | done | with_reducible rfl)
  (try simp only [Act.put, List.setIfInBounds_toArray, List.set_cons_zero, List.set_cons_succ])
  refine takeL (i := 9) (v := ?t2v9) (some 28) rfl rfl (by kernel_rfl) (by kernel_rfl) (by kernel_rfl) (by kernel_rfl) (by kernel_rfl) (fun _ _ _ h => h) (Or.inl ⟨by rfl, ?t2h9⟩) (by assumption) ?t2r9
  case t2h9 => (intro y hSu; (try dsimp only at hSu); go_simp; first | done | with_reducible rfl)
  (try simp only [Act.put, List.setIfInBounds_toArray, List.set_cons_zero, List.set_cons_succ])
  refine takeL (i := 10) (v := ?t2v10) (some 29) rfl rfl (by kernel_rfl) (by kernel_rfl) (by kernel_rfl) (by kernel_rfl) (by kernel_rfl) (fun _ _ _ h => h) (Or.inl ⟨by rfl, ?t2h10⟩) (by assumption) ?t2r10
  case t2h10 => (intro y hSu; (try dsimp only at hSu); go_simp; first | done | with_reducible rfl)
  (try simp only [Act.put, List.setIfInBounds_toArray, List.set_cons_zero, List.set_cons_succ])
  refine takeL (i := 11) (v := ?t2v11) (some 30) rfl rfl (by kernel_rfl) (by kernel_rfl) (by kernel_rfl) (by kernel_rfl) (by kernel_rfl) (fun _ _ _ h => h) (Or.inl ⟨by rfl, ?t2h11⟩) (by assumption) ?t2r11
  case t2h11 => (intro y hSu; (try dsimp only at hSu); go_simp; first | done | with_reducible rfl)
  (try simp only [Act.put, List.setIfInBounds_toArray, List.set_cons_zero, List.set_cons_succ])
  refine takeL (i := 12) (v := ?t2v12) (some 7) rfl rfl (by kernel_rfl) (by kernel_rfl) (by kernel_rfl) (by kernel_rfl) (by kernel_rfl) (fun _ _ _ h => h) (Or.inl ⟨by rfl, ?t2h12⟩) (by assumption) ?t2r12
  case t2h12 => (intro y hSu; (try dsimp only at hSu); go_simp; first | done | with_reducible rfl)
  (try simp only [Act.put, List.setIfInBounds_toArray, List.set_cons_zero, List.set_cons_succ])
  refine doneL (by kernel_rfl) ?_ _
  refine NoPanic.normal ?_
  clear hHeld y1' x0 x1 x2 kv4' l1
  go_wp2_with fail
  refine (unhide CR).mono ?_
  rintro r1 w3 ⟨rfl, H3⟩
  obtain ⟨L1, m1, m2, m3, m4, m5⟩ := unhide HRM w3 (unhide H3)
  obtain ⟨t1, t2⟩ := m1.tc_ 0
  have HE := hide (unhide HFI L1 _ t1 (m2.trans t2))
  clear CR H3 HRM HFI m1 m2 m3 t1 t2 HWP
  go_wp2_with fail
  go_ret
  exact ⟨rfl, HE⟩
set_option maxHeartbeats 4000000 in
set_option maxRecDepth 100000 in
theorem vDelLast [Inhabited EntF] (h : LvK L w p s tc vs gs T N) {e : Int} (oe : okN e) {i : Nat} {u v : Int} {c : Nat} (hi : gs[i]? = some (e, u, v, (c : Int))) (hN : N ≤ 200) (hl : L14.lst T v = e) : Calls Try.prog 23 #[.pointer (some ⟨p, 0, none⟩), .int .i64 e] w fun r w' => r = .returned (.int .i64 0) ∧ Hid (∃ (n : Nat) (T' : L14.Tr), LvGo L w p s n vs (gs.take i ++ gs.drop (i + 1)) T' N w' ∧ TouD T T' e n) := by
  have hb := below_new w (oEg u v c)
  have hblk := heap_alloc_new w (oEg u v c)
  obtain ⟨W1, hW1⟩ : ∃ W1, W1 = w.alloc (oEg u v c) := ⟨_, rfl⟩
  obtain ⟨wb, hwb⟩ : ∃ wb, wb = w.heap.size := ⟨_, rfl⟩
  rw [← hW1] at hblk hb
  rw [← hwb] at hblk
  obtain ⟨mv, me, V, nv, E, ne, O, I, h1, g2, g3, g4, g5, g6, g7⟩ := h
  have hE : E e = some (u, v, c) := g5.some_ (List.mem_of_getElem? hi)
  have hq0 := h1.at_.lookE2 oe
  rw [hE] at hq0
  have hq : (Instr.lookup 49 (.map (some me)) (.int .i64 e) true).run Try.prog w = .ok (.tuple #[.agg #[.int .i64 u, .int .i64 v, .float .f32 c], .bool true]) w := hq0
  obtain ⟨-, -, p2, -, -⟩ := cellsL h1.at_.box
  obtain ⟨oe_, hu, hv⟩ := g2.ed e u v c hE
  have h0 : e ≠ 0 := fun z => by
    have h9 : 1 ≤ e := (g5.lo _ (List.mem_of_getElem? hi)).1
    omega
  obtain ⟨ne', hne'⟩ : ∃ ne', ne = ne' + 1 := by
    cases ne with
    | zero =>
      have := h1.at_.es.zero oe
      rw [hE] at this; cases this
    | succ k => exact ⟨k, rfl⟩
  subst hne'
  obtain ⟨bv, _, _, hrv⟩ := h1.at_.read2 g2 hv
  have hbd : Below w.heap.size w W1.drew := below_drewN hb 1
  obtain ⟨l1, y1, -, sv, -, -⟩ := hrv W1.drew hbd
  obtain ⟨x0, x1, x2⟩ := cellsEg hblk
  obtain ⟨-, -, -, -, kv4, -⟩ := cellsSp sv
  have y1' : W1.cell? ⟨p, 1, none⟩ = some (.map (some mv)) := y1
  have kv4' : W1.cell? ⟨bv, 4, none⟩ = some (.int .i64 (L14.lst T v)) := kv4
  have hlb : L wb = none := h1.fr wb (by omega)
  have hwp : wb ≠ p := fun z => by rw [z, h1.at_.lp] at hlb; cases hlb
  have CR := hide (vremoveT (h1.below hbd) g2 hN hE)
  have HRM : Hid (∀ w3, PutA L W1.drew p mv me s tc V nv (putG E e none) ne' T (updO O u (cutL (O u) e)) (updO I v (cutL (I v) e)) w3 → ∃ L1, LvS L1 w3 p mv me s tc V nv (putG E e none) ne' T (updO O u (cutL (O u) e)) (updO I v (cutL (I v) e)) ∧ ChL L w L1 w3 ∧ w3.heap[wb]? = some (oEg u v c) ∧ w3.frozen? ⟨p, 3, none⟩ = false ∧ w3.cell? ⟨p, 3, none⟩ = some (.int .i64 tc)) := fun w3 ⟨L1, m1, m2⟩ => by
    obtain ⟨-, -, -, b3, bf⟩ := cellsL m1.at_.box
    exact ⟨L1, m1, (ChL.below hbd).trans m2, (m2.tur.block wb (heap_lt hblk) (fun z => z hlb)).trans hblk, bf 3, b3⟩
  have HME : Hid (∀ L1 w3, LvS L1 w3 p mv me s 0 V nv (putG E e none) ne' T (updO O u (cutL (O u) e)) (updO I v (cutL (I v) e)) → ChL L w L1 w3 → Calls Try.prog 40 #[.pointer (some ⟨p, 0, none⟩), .int .i64 v] w3 fun r w' => ∃ n : Nat, r = .returned (.int .i64 n) ∧ Hid (w'.frozen? ⟨p, 3, none⟩ = false ∧ w'.cell? ⟨p, 3, none⟩ = some (.int .i64 0) ∧ ∃ T', LvGo L w p s n vs (gs.take i ++ gs.drop (i + 1)) T' N (w'.setCell ⟨p, 3, none⟩ (.int .i64 n)) ∧ TouD T T' e n)) := fun L1 w3 m1 m2 => by
    have hG := g2.cut hE
    have hfv : L14.fnd T v = true := by
      cases f : L14.fnd T v with
      | true => rfl
      | false => exact absurd (hl.symm.trans (g4.non v f).2) h0
    have hvs : v ≠ s := fun z => h0 (by rw [← hl, z]; exact g4.src.2.2)
    have hM : MG E (putG E e none) s T v e := ⟨g4, hfv, hvs, hl, h0, fun d q => putG_ne q, fun x y z q => by
      rw [hE] at q
      exact (congrArg (·.2.1) (Option.some.inj q)).symm, fun x y z q => by rw [putG_self] at q; cases q⟩
    refine (vmendT m1 hG g3 (fun a b c d q => (g2.ed a b c d q).2.2) hN hM).mono ?_
    rintro r w4 ⟨n, rfl, H⟩
    obtain ⟨T', k1, k2, k3, lost, k4, k5, k6⟩ := unhide H
    obtain ⟨t1, t2⟩ := k1.tc_ (n : Int)
    obtain ⟨-, -, -, b3, bf⟩ := cellsL k1.at_.box
    exact ⟨n, rfl, bf 3, b3, T', ⟨L1, ⟨mv, me, V, nv, _, ne', _, _, t1, hG, g3, k2, g5.cut hi, g6, by omega⟩, m2.trans (k3.trans t2)⟩, ⟨lost, k4, k5, fun x hx => .inl (k6 x hx)⟩, fun _ => ⟨v, hfv, hl⟩⟩
  have HWP := hide hwp
  have zl : (L14.lst T v == e) = true := by simpa using hl
  clear hi hN hl hu hv h0 oe_ hrv hbd sv y1 kv4 hlb hwp oe
  generalize L14.lst T v = lv at *
  have HW1 := hide hW1
  have HWB := hide hwb
  clear h1 hb hblk hW1 hwb g2 g3 g4 g5 g6 g7 hE hq0
  go_enter Try.func23, Try.ntmps23
  go_upto_region 2 with fail
  rw [show w.alloc (.cells #[.int .i64 u, .int .i64 v, .float .f32 c] 73) = W1 from (unhide HW1).symm, ← unhide HWB]
  clear HW1 HWB hq p2
  go_upto_region 4 with fail
  refine wp_region_noPanic ?_
  refine regionL [] (fun y => y.cell? ⟨p, 1, none⟩ = some (.map (some mv)) ∧ y.cell? ⟨wb, 1, none⟩ = some (.int .i64 v) ∧ y.cell? ⟨bv, 4, none⟩ = some (.int .i64 lv) ∧ (Instr.lookup 48 (.map (some mv)) (.int .i64 v) false).run Try.prog y = .ok (.pointer (some ⟨bv, 0, none⟩)) y) (by kernel_rfl) ⟨y1', x1, kv4', l1⟩ (fun hHeld => ?_)
  refine takeL (i := 0) (v := ?t5v0) (some 19) rfl rfl (by kernel_rfl) (by kernel_rfl) (by kernel_rfl) (by kernel_rfl) (by kernel_rfl) (fun _ _ _ h => h) (Or.inl ⟨by rfl, ?t5h0⟩) (by assumption) ?t5r0
  case t5h0 => (intro y hSu; (try dsimp only at hSu); go_simp; first | done | with_reducible rfl)
  (try simp only [Act.put, List.setIfInBounds_toArray, List.set_cons_zero, List.set_cons_succ])
  refine takeL (i := 1) (v := ?t5v1) (some 20) rfl rfl (by kernel_rfl) (by kernel_rfl) (by kernel_rfl) (by kernel_rfl) (by kernel_rfl) (fun _ _ _ h => h) (Or.inl ⟨by rfl, ?t5h1⟩) (by assumption) ?t5r1
  case t5h1 => (intro y hSu; (try dsimp only at hSu); go_simp; first | done | with_reducible rfl)
  (try simp only [Act.put, List.setIfInBounds_toArray, List.set_cons_zero, List.set_cons_succ])
  refine takeL (i := 2) (v := ?t5v2) (some 21) rfl rfl (by kernel_rfl) (by kernel_rfl) (by kernel_rfl) (by kernel_rfl) (by kernel_rfl) (fun _ _ _ h => h) (Or.inl ⟨by rfl, ?t5h2⟩) (by assumption) ?t5r2
  case t5h2 => (intro y hSu; (try dsimp only at hSu); go_simp; first | done | with_reducible rfl)
  (try simp only [Act.put, List.setIfInBounds_toArray, List.set_cons_zero, List.set_cons_succ])
  refine takeL (i := 3) (v := ?t5v3) (some 22) rfl rfl (by kernel_rfl) (by kernel_rfl) (by kernel_rfl) (by kernel_rfl) (by kernel_rfl) (fun _ _ _ h => h) (Or.inl ⟨by rfl, ?t5h3⟩) (by assumption) ?t5r3
  case t5h3 => (intro y hSu; (try dsimp only at hSu); go_simp; first | done | with_reducible rfl)
  (try simp only [Act.put, List.setIfInBounds_toArray, List.set_cons_zero, List.set_cons_succ])
  refine takeL (i := 4) (v := ?t5v4) (some 23) rfl rfl (by kernel_rfl) (by kernel_rfl) (by kernel_rfl) (by kernel_rfl) (by kernel_rfl) (fun _ _ _ h => h) (Or.inl ⟨by rfl, ?t5h4⟩) (by assumption) ?t5r4
  case t5h4 => (intro y hSu; (try dsimp only at hSu); go_simp; first | done | with_reducible rfl)
  (try simp only [Act.put, List.setIfInBounds_toArray, List.set_cons_zero, List.set_cons_succ])
  refine takeL (i := 5) (v := ?t5v5) (some 24) rfl rfl (by kernel_rfl) (by kernel_rfl) (by kernel_rfl) (by kernel_rfl) (by kernel_rfl) (fun _ _ _ h => h) (Or.inl ⟨by rfl, ?t5h5⟩) (by assumption) ?t5r5
  case t5h5 => (intro y hSu; (try dsimp only at hSu); go_simp; first | done | with_reducible rfl)
  (try simp only [Act.put, List.setIfInBounds_toArray, List.set_cons_zero, List.set_cons_succ])
  refine takeL (i := 6) (v := ?t5v6) (some 25) rfl rfl (by kernel_rfl) (by kernel_rfl) (by kernel_rfl) (by kernel_rfl) (by kernel_rfl) (fun _ _ _ h => h) (Or.inl ⟨by rfl, ?t5h6⟩) (by assumption) ?t5r6
  case t5h6 => (intro y hSu; (try dsimp only at hSu); go_simp; first | done | with_reducible rfl)
  (try simp only [Act.put, List.setIfInBounds_toArray, List.set_cons_zero, List.set_cons_succ])
  refine takeL (i := 7) (v := ?t5v7) (some 26) rfl rfl (by kernel_rfl) (by kernel_rfl) (by kernel_rfl) (by kernel_rfl) (by kernel_rfl) (fun _ _ _ h => h) (Or.inl ⟨by rfl, ?t5h7⟩) (by assumption) ?t5r7
  case t5h7 => (intro y hSu; (try dsimp only at hSu); go_simp; first | done | with_reducible rfl)
  (try simp only [Act.put, List.setIfInBounds_toArray, List.set_cons_zero, List.set_cons_succ])
  refine takeL (i := 8) (v := ?t5v8) (some 27) rfl rfl (by kernel_rfl) (by kernel_rfl) (by kernel_rfl) (by kernel_rfl) (by kernel_rfl) (fun _ _ _ h => h) (Or.inl ⟨by rfl, ?t5h8⟩) (by assumption) ?t5r8
  case t5h8 => (intro y hSu; (try dsimp only at hSu); go_simp; first | done | with_reducible rfl)
  (try simp only [Act.put, List.setIfInBounds_toArray, List.set_cons_zero, List.set_cons_succ])
  refine takeL (i := 9) (v := ?t5v9) (some 28) rfl rfl (by kernel_rfl) (by kernel_rfl) (by kernel_rfl) (by kernel_rfl) (by kernel_rfl) (fun _ _ _ h => h) (Or.inl ⟨by rfl, ?t5h9⟩) (by assumption) ?t5r9
  case t5h9 => (intro y hSu; (try dsimp only at hSu); go_simp; first | done | with_reducible rfl)
  (try simp only [Act.put, List.setIfInBounds_toArray, List.set_cons_zero, List.set_cons_succ])
  refine takeL (i := 10) (v := ?t5v10) (some 29) rfl rfl (by kernel_rfl) (by kernel_rfl) (by kernel_rfl) (by kernel_rfl) (by kernel_rfl) (fun _ _ _ h => h) (Or.inl ⟨by rfl, ?t5h10⟩) (by assumption) ?t5r10
  case t5h10 => (intro y hSu; (try dsimp only at hSu); go_simp; first | done | with_reducible rfl)
  (try simp only [Act.put, List.setIfInBounds_toArray, List.set_cons_zero, List.set_cons_succ])
  refine takeL (i := 11) (v := ?t5v11) (some 30) rfl rfl (by kernel_rfl) (by kernel_rfl) (by kernel_rfl) (by kernel_rfl) (by kernel_rfl) (fun _ _ _ h => h) (Or.inl ⟨by rfl, ?t5h11⟩) (by assumption) ?t5r11
  case t5h11 => (intro y hSu; (try dsimp only at hSu); go_simp; first | done | with_reducible rfl)
  (try simp only [Act.put, List.setIfInBounds_toArray, List.set_cons_zero, List.set_cons_succ])
  refine takeL (i := 12) (v := ?t5v12) (some 7) rfl rfl (by kernel_rfl) (by kernel_rfl) (by kernel_rfl) (by kernel_rfl) (by kernel_rfl) (fun _ _ _ h => h) (Or.inl ⟨by rfl, ?t5h12⟩) (by assumption) ?t5r12
  case t5h12 => (intro y hSu; (try dsimp only at hSu); go_simp; first | done | with_reducible rfl)
  (try simp only [Act.put, List.setIfInBounds_toArray, List.set_cons_zero, List.set_cons_succ])
  refine doneL (by kernel_rfl) ?_ _
  refine NoPanic.normal ?_
  clear hHeld y1' x0 x1 x2 kv4' l1
  go_wp2_with fail
  refine (unhide CR).mono ?_
  rintro r1 w3 ⟨rfl, H3⟩
  obtain ⟨L1, m1, m2, m3, m4, m5⟩ := unhide HRM w3 (unhide H3)
  obtain ⟨t1, t2⟩ := m1.tc_ 0
  have CM := hide (unhide HME L1 _ t1 (m2.trans t2))
  have x1 : (w3.setCell ⟨p, 3, none⟩ (.int .i64 0)).cell? ⟨wb, 1, none⟩ = some (.int .i64 v) := (cellsEg ((heap_setCell_other _ _ _ _ (unhide HWP)).trans m3)).2.1
  clear CR H3 HRM HME m1 m2 m3 t1 t2 HWP
  go_upto_region 7 with fail
  generalize w3.setCell ⟨p, 3, none⟩ (.int .i64 0) = w5 at *
  go_wp2_with fail
  refine (unhide CM).mono ?_
  rintro r1 w4 ⟨n, rfl, H4⟩
  obtain ⟨f1, f2, T', f3, f4⟩ := unhide H4
  have HE2 : Hid (∃ (n2 : Nat) (T' : L14.Tr), LvGo L w p s n2 vs (gs.take i ++ gs.drop (i + 1)) T' N (w4.setCell ⟨p, 3, none⟩ (.int .i64 n)) ∧ TouD T T' e n2) := ⟨n, T', f3, f4⟩
  clear CM H4 f3 f4
  go_wp2_with fail
  go_ret
  exact ⟨rfl, HE2⟩
set_option maxHeartbeats 4000000 in
set_option maxRecDepth 100000 in
theorem vRewNo (h : LvK L w p s tc vs gs T N) {e : Int} (oe : okN e) {b2 : Int} (hno : ∀ x ∈ gs, x.1 ≠ e) : Calls Try.prog 25 #[.pointer (some ⟨p, 0, none⟩), .int .i64 e, .int .u32 b2] w fun r w' => r = .returned (.int .i64 6) ∧ Hid (LvGo L w p s tc vs gs T N w') := by
  have hb := below_new w (oEg 0 0 0)
  have hblk := heap_alloc_new w (oEg 0 0 0)
  obtain ⟨W1, hW1⟩ : ∃ W1, W1 = w.alloc (oEg 0 0 0) := ⟨_, rfl⟩
  obtain ⟨wb, hwb⟩ : ∃ wb, wb = w.heap.size := ⟨_, rfl⟩
  rw [← hW1] at hblk hb
  rw [← hwb] at hblk
  obtain ⟨mv, me, V, nv, E, ne, O, I, h1, g2, g3, g4, g5, g6, g7⟩ := h
  have hE := g5.none_ hno
  have hq0 := h1.at_.lookE2 oe
  rw [hE] at hq0
  have hq : (Instr.lookup 49 (.map (some me)) (.int .i64 e) true).run Try.prog w = .ok (.tuple #[.agg #[.int .i64 0, .int .i64 0, .float .f32 0], .bool false]) w := hq0
  obtain ⟨-, -, p2, -, -⟩ := cellsL h1.at_.box
  have HE : Hid (LvGo L w p s tc vs gs T N W1) := ⟨L, ⟨mv, me, V, nv, E, ne, O, I, h1.below hb, g2, g3, g4, g5, g6, g7⟩, ChL.below hb⟩
  clear hno
  have HW1 := hide hW1
  have HWB := hide hwb
  clear h1 hb hblk hW1 hwb g2 g3 g4 g5 g6 g7 hE hq0
  go_enter Try.func25, Try.ntmps25
  go_upto_region 2 with fail
  rw [show w.alloc (.cells #[.int .i64 0, .int .i64 0, .float .f32 0] 73) = W1 from (unhide HW1).symm, ← unhide HWB]
  clear HW1 HWB hq p2
  go_wp2_with fail
  go_ret
  exact ⟨rfl, HE⟩
set_option maxHeartbeats 4000000 in
set_option maxRecDepth 100000 in
theorem vRewBad (h : LvK L w p s tc vs gs T N) {e : Int} (oe : okN e) {b2 : Int} {i : Nat} {u v : Int} {c : Nat} (hi : gs[i]? = some (e, u, v, (c : Int))) (hk : kept b2 = none) : Calls Try.prog 25 #[.pointer (some ⟨p, 0, none⟩), .int .i64 e, .int .u32 b2] w fun r w' => r = .returned (.int .i64 7) ∧ Hid (LvGo L w p s tc vs gs T N w') := by
  have hb := below_new w (oEg u v c)
  have hblk := heap_alloc_new w (oEg u v c)
  obtain ⟨W1, hW1⟩ : ∃ W1, W1 = w.alloc (oEg u v c) := ⟨_, rfl⟩
  obtain ⟨wb, hwb⟩ : ∃ wb, wb = w.heap.size := ⟨_, rfl⟩
  rw [← hW1] at hblk hb
  rw [← hwb] at hblk
  obtain ⟨mv, me, V, nv, E, ne, O, I, h1, g2, g3, g4, g5, g6, g7⟩ := h
  have hE : E e = some (u, v, c) := g5.some_ (List.mem_of_getElem? hi)
  have hq0 := h1.at_.lookE2 oe
  rw [hE] at hq0
  have hq : (Instr.lookup 49 (.map (some me)) (.int .i64 e) true).run Try.prog w = .ok (.tuple #[.agg #[.int .i64 u, .int .i64 v, .float .f32 c], .bool true]) w := hq0
  obtain ⟨-, -, p2, -, -⟩ := cellsL h1.at_.box
  have HE : Hid (LvGo L w p s tc vs gs T N W1) := ⟨L, ⟨mv, me, V, nv, E, ne, O, I, h1.below hb, g2, g3, g4, g5, g6, g7⟩, ChL.below hb⟩
  have CA : Hid (Calls Try.prog 30 #[.int .u32 b2] W1 fun e w' => e = .returned (.tuple #[.float .f32 0, .int .i64 7]) ∧ w' = W1) := by
    have := admitS b2 W1
    unfold ansAd at this
    rw [hk] at this
    exact this
  clear hi hk
  have HW1 := hide hW1
  have HWB := hide hwb
  clear h1 hb hblk hW1 hwb g2 g3 g4 g5 g6 g7 hE hq0
  go_enter Try.func25, Try.ntmps25
  go_upto_region 2 with fail
  rw [show w.alloc (.cells #[.int .i64 u, .int .i64 v, .float .f32 c] 73) = W1 from (unhide HW1).symm, ← unhide HWB]
  clear HW1 HWB hq p2
  go_wp2_with fail
  refine (unhide CA).mono ?_
  rintro r1 w1 ⟨rfl, hw⟩
  rw [hw]
  clear CA hw w1
  go_wp2_with fail
  go_ret
  exact ⟨rfl, HE⟩
set_option maxHeartbeats 4000000 in
set_option maxRecDepth 100000 in
theorem vRewUp [Inhabited EntF] (h : LvK L w p s tc vs gs T N) {e : Int} (oe : okN e) {b2 : Int} {i : Nat} {u v : Int} {c : Nat} (hi : gs[i]? = some (e, u, v, (c : Int))) {c2 : Nat} (hk : kept b2 = some (c2 : Int)) (hN : N ≤ 200) (hc : c < c2) : Calls Try.prog 25 #[.pointer (some ⟨p, 0, none⟩), .int .i64 e, .int .u32 b2] w fun r w' => r = .returned (.int .i64 0) ∧ Hid (∃ (n : Nat) (T' : L14.Tr), LvGo L w p s n vs (gs.set i (e, u, v, (c2 : Int))) T' N w' ∧ TouD T T' e n) := by
  have hb := below_new w (oEg u v c)
  have hblk := heap_alloc_new w (oEg u v c)
  obtain ⟨W1, hW1⟩ : ∃ W1, W1 = w.alloc (oEg u v c) := ⟨_, rfl⟩
  obtain ⟨wb, hwb⟩ : ∃ wb, wb = w.heap.size := ⟨_, rfl⟩
  rw [← hW1] at hblk hb
  rw [← hwb] at hblk
  obtain ⟨mv, me, V, nv, E, ne, O, I, h1, g2, g3, g4, g5, g6, g7⟩ := h
  have hE : E e = some (u, v, c) := g5.some_ (List.mem_of_getElem? hi)
  have hq0 := h1.at_.lookE2 oe
  rw [hE] at hq0
  have hq : (Instr.lookup 49 (.map (some me)) (.int .i64 e) true).run Try.prog w = .ok (.tuple #[.agg #[.int .i64 u, .int .i64 v, .float .f32 c], .bool true]) w := hq0
  obtain ⟨-, -, p2, -, -⟩ := cellsL h1.at_.box
  obtain ⟨oe_, hu, hv⟩ := g2.ed e u v c hE
  have h0 : e ≠ 0 := fun z => by
    have h9 : 1 ≤ e := (g5.lo _ (List.mem_of_getElem? hi)).1
    omega
  have CA : Hid (Calls Try.prog 30 #[.int .u32 b2] W1 fun e w' => e = .returned (.tuple #[.float .f32 c2, .int .i64 0]) ∧ w' = W1) := by
    have := admitS b2 W1
    unfold ansAd at this
    rw [hk] at this
    exact this
  have hc2 : c2 < 2139095040 := by
    unfold kept at hk
    split at hk
    · have := Option.some.inj hk; omega
    · split at hk
      · cases hk
      · have := Option.some.inj hk; omega
  have hcI := g4.wl _ _ _ _ hE
  obtain ⟨x0, x1, x2⟩ := cellsEg hblk
  have xf : W1.frozen? ⟨wb, 2, none⟩ = false := frozen_of_row _ _ 2 _ _ hblk
  obtain ⟨W2, hW2⟩ : ∃ W2, W2 = W1.setCell ⟨wb, 2, none⟩ (.float .f32 c2) := ⟨_, rfl⟩
  have hblk2 : W2.heap[wb]? = some (oEg u v c2) := by rw [hW2, heap_setCell_same _ _ _ _ _ _ hblk]; rfl
  have ht2 : Turned (fun d => d = wb) W1 W2 := by rw [hW2]; exact turned_setCell (S := fun d => d = wb) W1 ⟨wb, 2, none⟩ _ rfl
  have hb2 : Below w.heap.size w W2 := hb.trans (ht2.below hb.size (fun d hd => by rw [hd, hwb]; exact Nat.le_refl _))
  obtain ⟨y0, y1, y2⟩ := cellsEg hblk2
  have k2 := h1.below hb2
  obtain ⟨-, -, p2', -, -⟩ := cellsL k2.at_.box
  obtain ⟨w3, r3, k3, c3⟩ := (k2.draw 1).putE (by omega) oe u v c2
  rw [hE] at k3
  have k3 : LvS L w3 p mv me s tc V nv (putG E e (some (u, v, c2))) ne T O I := k3
  have r3' : (Instr.mapUpdate 49 (.map (some me)) (.int .i64 e) (.agg #[.int .i64 u, .int .i64 v, .float .f32 c2])).run Try.prog W2.drew = .ok () w3 := r3
  have hch : ChL L w L w3 := (ChL.below (below_drewN hb2 1)).trans c3
  have CB := hide (before_cost hcI (show c2 ≤ 2139095040 by omega))
  rw [decide_eq_true hc] at CB
  have hG := g2.rew (c' := c2) hE
  have HRE : Hid (Calls Try.prog 42 #[.pointer (some ⟨p, 0, none⟩), .int .i64 e] w3 fun r w' => ∃ n : Nat, r = .returned (.int .i64 n) ∧ Hid (w'.frozen? ⟨p, 3, none⟩ = false ∧ w'.cell? ⟨p, 3, none⟩ = some (.int .i64 tc) ∧ ∃ T', LvGo L w p s n vs (gs.set i (e, u, v, (c2 : Int))) T' N (w'.setCell ⟨p, 3, none⟩ (.int .i64 n)) ∧ TouD T T' e n)) := by
    refine (vrecedeT k3 hG g3 (fun a b c d q => (g2.ed a b c d q).2.2) hN g4 hE (putG_self _ _ _) (fun d q => putG_ne q) (by omega) h0 (by omega)).mono ?_
    rintro r w4 ⟨n, rfl, H⟩
    obtain ⟨T', m1, m2, m3, ⟨P, m5, m6, m7⟩, m8⟩ := unhide H
    obtain ⟨t1, t2⟩ := m1.tc_ (n : Int)
    obtain ⟨-, -, -, b3, bf⟩ := cellsL m1.at_.box
    exact ⟨n, rfl, bf 3, b3, T', ⟨L, ⟨mv, me, V, nv, _, ne, _, _, t1, hG, g3, m2, g5.rew hi hc2, g6, g7⟩, hch.trans (m3.trans t2)⟩, ⟨P, m5, m6, fun x hx => .inl (m7 x hx)⟩, fun z => ⟨v, (m8 z).2, (m8 z).1⟩⟩
  have HW2 := hide hW2
  clear hi hk hN hc oe_ hu hv h0 hc2 hcI hW2 hblk2 ht2 hb2 k2 r3 k3 c3 hch hG oe
  have HW1 := hide hW1
  have HWB := hide hwb
  clear h1 hb hblk hW1 hwb g2 g3 g4 g5 g6 g7 hE hq0
  go_enter Try.func25, Try.ntmps25
  go_upto_region 2 with fail
  rw [show w.alloc (.cells #[.int .i64 u, .int .i64 v, .float .f32 c] 73) = W1 from (unhide HW1).symm, ← unhide HWB]
  clear HW1 HWB hq p2
  go_wp2_with fail
  refine (unhide CA).mono ?_
  rintro r1 w1 ⟨rfl, hw⟩
  rw [hw]
  clear CA hw w1
  go_upto_region 9 with fail
  rw [show W1.setCell ⟨wb, 2, none⟩ (.float .f32 c2) = W2 from (unhide HW2).symm]
  clear HW2 x0 x1 x2 xf
  refine wp_region_noPanic ?_
  refine regionL [6] (fun y => y.cell? ⟨p, 2, none⟩ = some (.map (some me)) ∧ y.cell? ⟨wb, 0, none⟩ = some (.int .i64 u) ∧ y.cell? ⟨wb, 1, none⟩ = some (.int .i64 v) ∧ y.cell? ⟨wb, 2, none⟩ = some (.float .f32 c2)) (by kernel_rfl) ⟨p2', y0, y1, y2⟩ (fun hHeld => ?_)
  refine takeL (i := 0) (v := ?t8v0) (some 35) rfl rfl (by kernel_rfl) (by kernel_rfl) (by kernel_rfl) (by kernel_rfl) (by kernel_rfl) (fun _ _ _ h => h) (Or.inl ⟨by rfl, ?t8h0⟩) (by assumption) ?t8r0
  case t8h0 => (intro y hSu; (try dsimp only at hSu); go_simp; first | done | with_reducible rfl)
  (try simp only [Act.put, List.setIfInBounds_toArray, List.set_cons_zero, List.set_cons_succ])
  refine takeL (i := 1) (v := ?t8v1) (some 36) rfl rfl (by kernel_rfl) (by kernel_rfl) (by kernel_rfl) (by kernel_rfl) (by kernel_rfl) (fun _ _ _ h => h) (Or.inl ⟨by rfl, ?t8h1⟩) (by assumption) ?t8r1
  case t8h1 => (intro y hSu; (try dsimp only at hSu); go_simp; first | done | with_reducible rfl)
  (try simp only [Act.put, List.setIfInBounds_toArray, List.set_cons_zero, List.set_cons_succ])
  refine takeL (i := 2) (v := ?t8v2) (some 37) rfl rfl (by kernel_rfl) (by kernel_rfl) (by kernel_rfl) (by kernel_rfl) (by kernel_rfl) (fun _ _ _ h => h) (Or.inl ⟨by rfl, ?t8h2⟩) (by assumption) ?t8r2
  case t8h2 => (intro y hSu; (try dsimp only at hSu); go_simp; first | done | with_reducible rfl)
  (try simp only [Act.put, List.setIfInBounds_toArray, List.set_cons_zero, List.set_cons_succ])
  refine takeL (i := 3) (v := ?t8v3) (some 38) rfl rfl (by kernel_rfl) (by kernel_rfl) (by kernel_rfl) (by kernel_rfl) (by kernel_rfl) (fun _ _ _ h => h) (Or.inl ⟨by rfl, ?t8h3⟩) (by assumption) ?t8r3
  case t8h3 => (intro y hSu; (try dsimp only at hSu); go_simp; first | done | with_reducible rfl)
  (try simp only [Act.put, List.setIfInBounds_toArray, List.set_cons_zero, List.set_cons_succ])
  refine takeL (i := 4) (v := ?t8v4) (some 39) rfl rfl (by kernel_rfl) (by kernel_rfl) (by kernel_rfl) (by kernel_rfl) (by kernel_rfl) (fun _ _ _ h => h) (Or.inl ⟨by rfl, ?t8h4⟩) (by assumption) ?t8r4
  case t8h4 => (intro y hSu; (try dsimp only at hSu); go_simp; first | done | with_reducible rfl)
  (try simp only [Act.put, List.setIfInBounds_toArray, List.set_cons_zero, List.set_cons_succ])
  refine takeL (i := 5) (v := ?t8v5) (some 40) rfl rfl (by kernel_rfl) (by kernel_rfl) (by kernel_rfl) (by kernel_rfl) (by kernel_rfl) (fun _ _ _ h => h) (Or.inl ⟨by rfl, ?t8h5⟩) (by assumption) ?t8r5
  case t8h5 => (intro y hSu; (try dsimp only at hSu); go_simp; first | done | with_reducible rfl)
  (try simp only [Act.put, List.setIfInBounds_toArray, List.set_cons_zero, List.set_cons_succ])
  refine readyL (i := 6) (by kernel_rfl) rfl (fun K hK => ?_)
  refine step_mapUpdate_run rfl (.tmp 38) (.tmp 39) (.tmp 40) 49 rfl _ _ _ (by simp [Act.eval]; first | rfl | done) (by simp [Act.eval]; first | rfl | done) (by simp [Act.eval]; first | rfl | done) _ r3' rfl ?_
  refine hK.out _ _ (fun h => by cases h) ?_
  clear hK K
  (try simp only [Act.put, List.setIfInBounds_toArray, List.set_cons_zero, List.set_cons_succ])
  refine doneL (by kernel_rfl) ?_ _
  refine NoPanic.normal ?_
  clear hHeld p2' y0 y1 y2 r3'
  go_wp2_with fail
  refine (unhide CB _).mono ?_
  rintro r1 w4 ⟨rfl, hw⟩
  rw [hw]
  clear CB hw w4
  go_wp2_with fail
  refine (unhide HRE).mono ?_
  rintro r1 w4 ⟨n, rfl, H4⟩
  obtain ⟨f1, f2, T', f3, f4⟩ := unhide H4
  have HE2 : Hid (∃ (n2 : Nat) (T' : L14.Tr), LvGo L w p s n2 vs (gs.set i (e, u, v, (c2 : Int))) T' N (w4.setCell ⟨p, 3, none⟩ (.int .i64 n)) ∧ TouD T T' e n2) := ⟨n, T', f3, f4⟩
  clear HRE H4 f3 f4
  go_wp2_with fail
  go_ret
  exact ⟨rfl, HE2⟩
set_option maxHeartbeats 4000000 in
set_option maxRecDepth 100000 in
theorem vRewDn [Inhabited EntF] (h : LvK L w p s tc vs gs T N) {e : Int} (oe : okN e) {b2 : Int} {i : Nat} {u v : Int} {c : Nat} (hi : gs[i]? = some (e, u, v, (c : Int))) {c2 : Nat} (hk : kept b2 = some (c2 : Int)) (hN : N ≤ 200) (hc : ¬ c < c2) : Calls Try.prog 25 #[.pointer (some ⟨p, 0, none⟩), .int .i64 e, .int .u32 b2] w fun r w' => r = .returned (.int .i64 0) ∧ Hid (∃ (n : Nat) (T' : L14.Tr), LvGo L w p s n vs (gs.set i (e, u, v, (c2 : Int))) T' N w' ∧ TouU T T' n) := by
  have hb := below_new w (oEg u v c)
  have hblk := heap_alloc_new w (oEg u v c)
  obtain ⟨W1, hW1⟩ : ∃ W1, W1 = w.alloc (oEg u v c) := ⟨_, rfl⟩
  obtain ⟨wb, hwb⟩ : ∃ wb, wb = w.heap.size := ⟨_, rfl⟩
  rw [← hW1] at hblk hb
  rw [← hwb] at hblk
  obtain ⟨mv, me, V, nv, E, ne, O, I, h1, g2, g3, g4, g5, g6, g7⟩ := h
  have hE : E e = some (u, v, c) := g5.some_ (List.mem_of_getElem? hi)
  have hq0 := h1.at_.lookE2 oe
  rw [hE] at hq0
  have hq : (Instr.lookup 49 (.map (some me)) (.int .i64 e) true).run Try.prog w = .ok (.tuple #[.agg #[.int .i64 u, .int .i64 v, .float .f32 c], .bool true]) w := hq0
  obtain ⟨-, -, p2, -, -⟩ := cellsL h1.at_.box
  obtain ⟨oe_, hu, hv⟩ := g2.ed e u v c hE
  have h0 : e ≠ 0 := fun z => by
    have h9 : 1 ≤ e := (g5.lo _ (List.mem_of_getElem? hi)).1
    omega
  have CA : Hid (Calls Try.prog 30 #[.int .u32 b2] W1 fun e w' => e = .returned (.tuple #[.float .f32 c2, .int .i64 0]) ∧ w' = W1) := by
    have := admitS b2 W1
    unfold ansAd at this
    rw [hk] at this
    exact this
  have hc2 : c2 < 2139095040 := by
    unfold kept at hk
    split at hk
    · have := Option.some.inj hk; omega
    · split at hk
      · cases hk
      · have := Option.some.inj hk; omega
  have hcI := g4.wl _ _ _ _ hE
  obtain ⟨x0, x1, x2⟩ := cellsEg hblk
  have xf : W1.frozen? ⟨wb, 2, none⟩ = false := frozen_of_row _ _ 2 _ _ hblk
  obtain ⟨W2, hW2⟩ : ∃ W2, W2 = W1.setCell ⟨wb, 2, none⟩ (.float .f32 c2) := ⟨_, rfl⟩
  have hblk2 : W2.heap[wb]? = some (oEg u v c2) := by rw [hW2, heap_setCell_same _ _ _ _ _ _ hblk]; rfl
  have ht2 : Turned (fun d => d = wb) W1 W2 := by rw [hW2]; exact turned_setCell (S := fun d => d = wb) W1 ⟨wb, 2, none⟩ _ rfl
  have hb2 : Below w.heap.size w W2 := hb.trans (ht2.below hb.size (fun d hd => by rw [hd, hwb]; exact Nat.le_refl _))
  obtain ⟨y0, y1, y2⟩ := cellsEg hblk2
  have k2 := h1.below hb2
  obtain ⟨-, -, p2', -, -⟩ := cellsL k2.at_.box
  obtain ⟨w3, r3, k3, c3⟩ := (k2.draw 1).putE (by omega) oe u v c2
  rw [hE] at k3
  have k3 : LvS L w3 p mv me s tc V nv (putG E e (some (u, v, c2))) ne T O I := k3
  have r3' : (Instr.mapUpdate 49 (.map (some me)) (.int .i64 e) (.agg #[.int .i64 u, .int .i64 v, .float .f32 c2])).run Try.prog W2.drew = .ok () w3 := r3
  have hch : ChL L w L w3 := (ChL.below (below_drewN hb2 1)).trans c3
  have CB := hide (before_cost hcI (show c2 ≤ 2139095040 by omega))
  rw [decide_eq_false hc] at CB
  have hG := g2.rew (c' := c2) hE
  have HRE : Hid (Calls Try.prog 32 #[.pointer (some ⟨p, 0, none⟩), .int .i64 e] w3 fun r w' => ∃ n : Nat, r = .returned (.int .i64 n) ∧ Hid (w'.frozen? ⟨p, 3, none⟩ = false ∧ w'.cell? ⟨p, 3, none⟩ = some (.int .i64 tc) ∧ ∃ T', LvGo L w p s n vs (gs.set i (e, u, v, (c2 : Int))) T' N (w'.setCell ⟨p, 3, none⟩ (.int .i64 n)) ∧ TouU T T' n)) := by
    have hLv : L14.Lv (putG E e (some (u, v, c2))) s T (fun _ => False) [e] := g4.more (putG_self _ _ _) h0 (by omega) (fun d q => putG_ne q) (fun u' v' c' q => by
      rw [hE] at q
      have q := Option.some.inj q
      have e1 : u = u' := congrArg (·.1) q
      have e2 : v = v' := congrArg (·.2.1) q
      have e3 : c = c' := congrArg (·.2.2) q
      exact ⟨e1.symm, e2.symm, by omega⟩)
    refine (vapproachT k3 hG g3 hN hLv (putG_self _ _ _)).mono ?_
    rintro r w4 ⟨n, rfl, H⟩
    obtain ⟨T', m1, m2, m3, m4, P, m5, m6, m7, m8⟩ := unhide H
    obtain ⟨t1, t2⟩ := m1.tc_ (n : Int)
    obtain ⟨-, -, -, b3, bf⟩ := cellsL m1.at_.box
    exact ⟨n, rfl, bf 3, b3, T', ⟨L, ⟨mv, me, V, nv, _, ne, _, _, t1, hG, g3, m2, g5.rew hi hc2, g6, g7⟩, hch.trans (m3.trans t2)⟩, ⟨P, m5, m6, fun x hx => .inr (m7 x hx)⟩, m8⟩
  have HW2 := hide hW2
  clear hi hk hN hc oe_ hu hv h0 hc2 hcI hW2 hblk2 ht2 hb2 k2 r3 k3 c3 hch hG oe
  have HW1 := hide hW1
  have HWB := hide hwb
  clear h1 hb hblk hW1 hwb g2 g3 g4 g5 g6 g7 hE hq0
  go_enter Try.func25, Try.ntmps25
  go_upto_region 2 with fail
  rw [show w.alloc (.cells #[.int .i64 u, .int .i64 v, .float .f32 c] 73) = W1 from (unhide HW1).symm, ← unhide HWB]
  clear HW1 HWB hq p2
  go_wp2_with fail
  refine (unhide CA).mono ?_
  rintro r1 w1 ⟨rfl, hw⟩
  rw [hw]
  clear CA hw w1
  go_upto_region 9 with fail
  rw [show W1.setCell ⟨wb, 2, none⟩ (.float .f32 c2) = W2 from (unhide HW2).symm]
  clear HW2 x0 x1 x2 xf
  refine wp_region_noPanic ?_
  refine regionL [6] (fun y => y.cell? ⟨p, 2, none⟩ = some (.map (some me)) ∧ y.cell? ⟨wb, 0, none⟩ = some (.int .i64 u) ∧ y.cell? ⟨wb, 1, none⟩ = some (.int .i64 v) ∧ y.cell? ⟨wb, 2, none⟩ = some (.float .f32 c2)) (by kernel_rfl) ⟨p2', y0, y1, y2⟩ (fun hHeld => ?_)
  refine takeL (i := 0) (v := ?t12v0) (some 35) rfl rfl (by kernel_rfl) (by kernel_rfl) (by kernel_rfl) (by kernel_rfl) (by kernel_rfl) (fun _ _ _ h => h) (Or.inl ⟨by rfl, ?t12h0⟩) (by assumption) ?t12r0
  case t12h0 => (intro y hSu; (try dsimp only at hSu); go_simp; first | done | with_reducible rfl)
  (try simp only [Act.put, List.setIfInBounds_toArray, List.set_cons_zero, List.set_cons_succ])
  refine takeL (i := 1) (v := ?t12v1) (some 36) rfl rfl (by kernel_rfl) (by kernel_rfl) (by kernel_rfl) (by kernel_rfl) (by kernel_rfl) (fun _ _ _ h => h) (Or.inl ⟨by rfl, ?t12h1⟩) (by assumption) ?t12r1
  case t12h1 => (intro y hSu; (try dsimp only at hSu); go_simp; first | done | with_reducible rfl)
  (try simp only [Act.put, List.setIfInBounds_toArray, List.set_cons_zero, List.set_cons_succ])
  refine takeL (i := 2) (v := ?t12v2) (some 37) rfl rfl (by kernel_rfl) (by kernel_rfl) (by kernel_rfl) (by kernel_rfl) (by kernel_rfl) (fun _ _ _ h => h) (Or.inl ⟨by rfl, ?t12h2⟩) (by assumption) ?t12r2
  case t12h2 => (intro y hSu; (try dsimp only at hSu); go_simp; first | done | with_reducible rfl)
  (try simp only [Act.put, List.setIfInBounds_toArray, List.set_cons_zero, List.set_cons_succ])
  refine takeL (i := 3) (v := ?t12v3) (some 38) rfl rfl (by kernel_rfl) (by kernel_rfl) (by kernel_rfl) (by kernel_rfl) (by kernel_rfl) (fun _ _ _ h => h) (Or.inl ⟨by rfl, ?t12h3⟩) (by assumption) ?t12r3
  case t12h3 => (intro y hSu; (try dsimp only at hSu); go_simp; first | done | with_reducible rfl)
  (try simp only [Act.put, List.setIfInBounds_toArray, List.set_cons_zero, List.set_cons_succ])
  refine takeL (i := 4) (v := ?t12v4) (some 39) rfl rfl (by kernel_rfl) (by kernel_rfl) (by kernel_rfl) (by kernel_rfl) (by kernel_rfl) (fun _ _ _ h => h) (Or.inl ⟨by rfl, ?t12h4⟩) (by assumption) ?t12r4
  case t12h4 => (intro y hSu; (try dsimp only at hSu); go_simp; first | done | with_reducible rfl)
  (try simp only [Act.put, List.setIfInBounds_toArray, List.set_cons_zero, List.set_cons_succ])
  refine takeL (i := 5) (v := ?t12v5) (some 40) rfl rfl (by kernel_rfl) (by kernel_rfl) (by kernel_rfl) (by kernel_rfl) (by kernel_rfl) (fun _ _ _ h => h) (Or.inl ⟨by rfl, ?t12h5⟩) (by assumption) ?t12r5
  case t12h5 => (intro y hSu; (try dsimp only at hSu); go_simp; first | done | with_reducible rfl)
  (try simp only [Act.put, List.setIfInBounds_toArray, List.set_cons_zero, List.set_cons_succ])
  refine readyL (i := 6) (by kernel_rfl) rfl (fun K hK => ?_)
  refine step_mapUpdate_run rfl (.tmp 38) (.tmp 39) (.tmp 40) 49 rfl _ _ _ (by simp [Act.eval]; first | rfl | done) (by simp [Act.eval]; first | rfl | done) (by simp [Act.eval]; first | rfl | done) _ r3' rfl ?_
  refine hK.out _ _ (fun h => by cases h) ?_
  clear hK K
  (try simp only [Act.put, List.setIfInBounds_toArray, List.set_cons_zero, List.set_cons_succ])
  refine doneL (by kernel_rfl) ?_ _
  refine NoPanic.normal ?_
  clear hHeld p2' y0 y1 y2 r3'
  go_wp2_with fail
  refine (unhide CB _).mono ?_
  rintro r1 w4 ⟨rfl, hw⟩
  rw [hw]
  clear CB hw w4
  go_wp2_with fail
  refine (unhide HRE).mono ?_
  rintro r1 w4 ⟨n, rfl, H4⟩
  obtain ⟨f1, f2, T', f3, f4⟩ := unhide H4
  have HE2 : Hid (∃ (n2 : Nat) (T' : L14.Tr), LvGo L w p s n2 vs (gs.set i (e, u, v, (c2 : Int))) T' N (w4.setCell ⟨p, 3, none⟩ (.int .i64 n)) ∧ TouU T T' n2) := ⟨n, T', f3, f4⟩
  clear HRE H4 f3 f4
  go_wp2_with fail
  go_ret
  exact ⟨rfl, HE2⟩
end
end Go.Proofs.Ytbmcibofecigeaa
