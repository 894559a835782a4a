/- play at Head. -/
import Derived.Test.YtfhidghjmookhaaPlayFrame
import Derived.Deep.RegionHeld3
namespace Go.Proofs.Ytfhidghjmookhaa
open Go.RowKit Go.Maps

set_option maxHeartbeats 2000000 in
set_option maxRecDepth 100000 in
theorem playHead {w0 w : World} {p : Nat} {S : List (Part Int)} {rs : List Rw} {v : Value} {its : List (Int × Int)} {nx : Int} (a b : Int) (okA : okN a) (h : SideN w0 p S (itm v its :: rs) w) (hR : Rel S its nx) (hn : its.length ≤ 1000) (hnx : 0 ≤ nx ∧ nx ≤ 1000000) :
    Calls Try.prog 9 #[.pointer (some ⟨p, 0, none⟩), .agg #[v, .int .i64 nx], .agg #[.int .i64 5, .int .i64 a, .int .i64 b]] w fun e w' => ∃ v' nx', e = .returned (.tuple #[.agg #[v', .int .i64 nx'], .bool true]) ∧ Hid (Played w0 p rs (its.length + 1) (nx + its.length + 1) v' nx' w') := by
  have h1 := begin3 h v (.int .i64 nx) (.int .i64 5) (.int .i64 a) (.int .i64 b)
  obtain ⟨c0, c1, cf⟩ := h1.cellM (List.mem_cons_of_mem _ (List.mem_cons_self ..))
  obtain ⟨o0, o1, o2⟩ := h1.cellO (List.mem_cons_of_mem _ (List.mem_cons_of_mem _ (List.mem_cons_self ..)))
  obtain ⟨r0, r1, rf⟩ := h1.cellM (List.mem_cons_of_mem _ (List.mem_cons_of_mem _ (List.mem_cons_of_mem _ (List.mem_cons_self ..))))
  have hn6 : its.length ≤ 1000000 := by omega
  have HWS : Hid ((three w v (.int .i64 nx) (.int .i64 5) (.int .i64 a) (.int .i64 b)).heap.size = w.heap.size + 3) := by show _ = _; simp [three]
  have HEND : Hid (∀ u, Below (three w v (.int .i64 nx) (.int .i64 5) (.int .i64 a) (.int .i64 b)).heap.size (three w v (.int .i64 nx) (.int .i64 5) (.int .i64 a) (.int .i64 b)) u → (u.cell? ⟨w.heap.size, 0, none⟩ = some v ∧ u.cell? ⟨w.heap.size, 1, none⟩ = some (.int .i64 nx)) ∧ (u.cell? ⟨w.heap.size + 2, 0, none⟩ = some (.slice none 0 0) ∧ u.cell? ⟨w.heap.size + 2, 1, none⟩ = some (.int .i64 0) ∧ ∀ o, u.frozen? ⟨w.heap.size + 2, o, none⟩ = false) ∧ Hid (((u.drew.setCell ⟨w.heap.size + 2, 0, none⟩ v).setCell ⟨w.heap.size + 2, 1, none⟩ (.int .i64 nx)).cell? ⟨w.heap.size, 0, none⟩ = some v ∧ ((u.drew.setCell ⟨w.heap.size + 2, 0, none⟩ v).setCell ⟨w.heap.size + 2, 1, none⟩ (.int .i64 nx)).cell? ⟨w.heap.size, 1, none⟩ = some (.int .i64 nx)) ∧
      Hid ((((u.drew.setCell ⟨w.heap.size + 2, 0, none⟩ v).setCell ⟨w.heap.size + 2, 1, none⟩ (.int .i64 nx)).cell? ⟨w.heap.size + 2, 0, none⟩ = some v ∧ ((u.drew.setCell ⟨w.heap.size + 2, 0, none⟩ v).setCell ⟨w.heap.size + 2, 1, none⟩ (.int .i64 nx)).cell? ⟨w.heap.size + 2, 1, none⟩ = some (.int .i64 nx)) ∧ Played w0 p rs (its.length + 1) (nx + its.length + 1) v nx ((u.drew.setCell ⟨w.heap.size + 2, 0, none⟩ v).setCell ⟨w.heap.size + 2, 1, none⟩ (.int .i64 nx)))) := fun u hu => by
    have h2 := h1.step hu
    obtain ⟨z1, z2, z3, z4⟩ := end3 (h2.step (below_drewN (Below.refl _ u) 1)) v (.int .i64 nx)
    obtain ⟨y1, y2, -⟩ := h2.cellM (List.mem_cons_of_mem _ (List.mem_cons_self ..))
    exact ⟨⟨y1, y2⟩, h2.cellM (List.mem_cons_of_mem _ (List.mem_cons_of_mem _ (List.mem_cons_of_mem _ (List.mem_cons_self ..)))), ⟨(z4.cellM (List.mem_cons_of_mem _ (List.mem_cons_of_mem _ (List.mem_cons_self ..)))).1, (z4.cellM (List.mem_cons_of_mem _ (List.mem_cons_of_mem _ (List.mem_cons_self ..)))).2.1⟩, ⟨z2, z3⟩, S, its, z1, hR, by omega, hnx.1, by omega⟩
  by_cases hin : In S a
  · obtain ⟨i, hi1, hik⟩ := (hR.keys a).1 hin
    obtain ⟨x, hx, hax⟩ := hin
    obtain ⟨g, cap, rfl⟩ := item_block h.items (by omega)
    obtain ⟨hd0, ehd⟩ : ∃ z, x.ks.headD 0 = z := ⟨_, rfl⟩
    have CH0 := headLN a h1.live hx hax
    rw [ehd] at CH0
    have CH := hide CH0
    have HHD := hide ehd
    have CM := refMembersYes nx a i _ h1.items hn6 hi1 hik (fun m hm e => hR.inj hm hi1 (e.trans hik.symm))
    rw [hR.memb h1.fam hi1 hx (by rw [hik]; exact hax)] at CM
    have HCM := hide CM
    have HX : Hid (0 < x.ks.length) := List.length_pos_iff.2 (h1.fam.some_ x hx)
    generalize its.length = L at *
    clear CH0 ehd h h1 hR hn hnx okA CM hx hax hi1 hik hn6
    go_enter Try.func9, Try.ntmps9
    go_upto_region 2 with fail
    unfold three at *
    generalize (((w.alloc (.cells #[.slice (some ⟨g, 0, none⟩) L cap, .int .i64 nx] 28)).alloc (.cells #[.int .i64 5, .int .i64 a, .int .i64 b] 32)).alloc (.cells #[.slice none 0 0, .int .i64 0] 28)) = W at *
    go_wp2_with fail
    refine (unhide CH).mono ?_
    rintro e w' ⟨rfl, rfl⟩
    clear CH
    go_wp2_with fail
    refine (unhide HCM).mono ?_
    rintro e u ⟨vl, rfl, HU⟩
    obtain ⟨q1, q2⟩ := unhide HU
    obtain ⟨gl, cl, f1, f2⟩ := (row_ints q1).2 0 (unhide HX)
    subst f1
    have hd : x.ks.getD 0 0 = hd0 := by rw [← unhide HHD]; cases x.ks <;> rfl
    rw [hd] at f2
    obtain ⟨⟨d0, d1⟩, ⟨e0, e1, ef⟩, HM0, HE⟩ := unhide HEND u q2
    have hgl : gl ≠ w.heap.size + 2 := by have := (q1.lt gl rfl).1; have := unhide HWS; omega
    have HS3 : Hid (_ ∧ _ ∧ ((u.drew.setCell ⟨w.heap.size + 2, 0, none⟩ (.slice (some ⟨g, 0, none⟩) L cap)).setCell ⟨w.heap.size + 2, 1, none⟩ (.int .i64 nx)).cell? ⟨gl, 0, none⟩ = some (.int .i64 hd0)) := ⟨(unhide HM0).1, (unhide HM0).2, (cell_of_heap ((heap_setCell_other _ ⟨w.heap.size + 2, 1, none⟩ gl _ hgl).trans (heap_setCell_other _ ⟨w.heap.size + 2, 0, none⟩ gl _ hgl))).trans f2⟩
    have HWS0 := HWS
    clear hd HHD
    have hlz : (0 : Int) < (x.ks.length : Int) := by have := unhide HX; omega
    have hln : 0 < x.ks.length := unhide HX
    generalize x.ks.length = Lx at *
    clear HCM HU q1 q2 HEND c0 c1 cf o0 o1 o2 r0 r1 rf HX HM0 HWS0 HWS
    go_upto_region 18 with fail
    refine wp_region_held_drew (S := fun w' => w'.cell? ⟨w.heap.size, 0, none⟩ = some (.slice (some ⟨g, 0, none⟩) L cap) ∧ w'.cell? ⟨w.heap.size, 1, none⟩ = some (.int .i64 nx) ∧ w'.cell? ⟨gl, 0, none⟩ = some (.int .i64 hd0)) (by kernel_rfl) ⟨d0, d1, f2⟩ (fun hHeld => ?_)
    refine takeD (i := 0) (v := ?av0) (some 97) rfl rfl (by kernel_rfl) (by kernel_rfl) (by kernel_rfl) (fun _ _ _ h => h) (Or.inl ⟨by rfl, ?ah0⟩) (by assumption) ?ar0
    case ah0 => (intro u hSu; (try dsimp only at hSu); go_simp; first | done | with_reducible rfl)
    (try simp only [Act.put, List.setIfInBounds_toArray, List.set_cons_zero, List.set_cons_succ])
    refine takeD (i := 1) (v := ?av1) (some 98) rfl rfl (by kernel_rfl) (by kernel_rfl) (by kernel_rfl) (fun _ _ _ h => h) (Or.inl ⟨by rfl, ?ah1⟩) (by assumption) ?ar1
    case ah1 => (intro u hSu; (try dsimp only at hSu); go_simp; first | done | with_reducible rfl)
    (try simp only [Act.put, List.setIfInBounds_toArray, List.set_cons_zero, List.set_cons_succ])
    refine takeD (i := 2) (v := ?av2) (some 99) rfl rfl (by kernel_rfl) (by kernel_rfl) (by kernel_rfl) (fun _ _ _ h => h) (Or.inl ⟨by rfl, ?ah2⟩) (by assumption) ?ar2
    case ah2 => (intro u hSu; (try dsimp only at hSu); go_simp; first | done | with_reducible rfl)
    (try simp only [Act.put, List.setIfInBounds_toArray, List.set_cons_zero, List.set_cons_succ])
    refine takeD (i := 3) (v := ?av3) (some 100) rfl rfl (by kernel_rfl) (by kernel_rfl) (by kernel_rfl) (fun _ _ _ h => h) (Or.inl ⟨by rfl, ?ah3⟩) (by assumption) ?ar3
    case ah3 => (intro u hSu; (try dsimp only at hSu); go_simp; first | done | with_reducible rfl)
    (try simp only [Act.put, List.setIfInBounds_toArray, List.set_cons_zero, List.set_cons_succ])
    refine takeD (i := 4) (v := ?av4) (some 101) rfl rfl (by kernel_rfl) (by kernel_rfl) (by kernel_rfl) (fun _ _ _ h => h) (Or.inl ⟨by rfl, ?ah4⟩) (by assumption) ?ar4
    case ah4 => (intro u hSu; (try dsimp only at hSu); go_simp; first | done | with_reducible rfl)
    (try simp only [Act.put, List.setIfInBounds_toArray, List.set_cons_zero, List.set_cons_succ])
    refine takeD (i := 5) (v := ?av5) (some 102) rfl rfl (by kernel_rfl) (by kernel_rfl) (by kernel_rfl) (fun _ _ _ h => h) (Or.inl ⟨by rfl, ?ah5⟩) (by assumption) ?ar5
    case ah5 => (intro u hSu; (try dsimp only at hSu); go_simp; first | done | with_reducible rfl)
    (try simp only [Act.put, List.setIfInBounds_toArray, List.set_cons_zero, List.set_cons_succ])
    refine takeD (i := 6) (v := ?av6) (some 103) rfl rfl (by kernel_rfl) (by kernel_rfl) (by kernel_rfl) (fun _ _ _ h => h) (Or.inl ⟨by rfl, ?ah6⟩) (by assumption) ?ar6
    case ah6 => (intro u hSu; (try dsimp only at hSu); go_simp; first | done | with_reducible rfl)
    (try simp only [Act.put, List.setIfInBounds_toArray, List.set_cons_zero, List.set_cons_succ])
    refine takeD (i := 7) (v := ?av7) (some 104) rfl rfl (by kernel_rfl) (by kernel_rfl) (by kernel_rfl) (fun _ _ _ h => h) (Or.inl ⟨by rfl, ?ah7⟩) (by assumption) ?ar7
    case ah7 => (intro u hSu; (try dsimp only at hSu); go_simp; first | done | with_reducible rfl)
    (try simp only [Act.put, List.setIfInBounds_toArray, List.set_cons_zero, List.set_cons_succ])
    refine takeD (i := 8) (v := ?av8) (some 105) rfl rfl (by kernel_rfl) (by kernel_rfl) (by kernel_rfl) (fun _ _ _ h => h) (Or.inl ⟨by rfl, ?ah8⟩) (by assumption) ?ar8
    case ah8 => (intro u hSu; (try dsimp only at hSu); go_simp; first | done | with_reducible rfl)
    (try simp only [Act.put, List.setIfInBounds_toArray, List.set_cons_zero, List.set_cons_succ])
    refine takeD (i := 9) (v := ?av9) (some 106) rfl rfl (by kernel_rfl) (by kernel_rfl) (by kernel_rfl) (fun _ _ _ h => h) (Or.inl ⟨by rfl, ?ah9⟩) (by assumption) ?ar9
    case ah9 => (intro u hSu; (try dsimp only at hSu); go_simp; first | done | with_reducible rfl)
    (try simp only [Act.put, List.setIfInBounds_toArray, List.set_cons_zero, List.set_cons_succ])
    refine takeD (i := 10) (v := ?av10) (some 107) rfl rfl (by kernel_rfl) (by kernel_rfl) (by kernel_rfl) (fun _ _ _ h => h) (Or.inl ⟨by rfl, ?ah10⟩) (by assumption) ?ar10
    case ah10 => (intro u hSu; (try dsimp only at hSu); go_simp; first | done | with_reducible rfl)
    (try simp only [Act.put, List.setIfInBounds_toArray, List.set_cons_zero, List.set_cons_succ])
    refine takeD (i := 11) (v := ?av11) (some 108) rfl rfl (by kernel_rfl) (by kernel_rfl) (by kernel_rfl) (fun _ _ _ h => h) (Or.inl ⟨by rfl, ?ah11⟩) (by assumption) ?ar11
    case ah11 => (intro u hSu; (try dsimp only at hSu); go_simp; first | done | with_reducible rfl)
    (try simp only [Act.put, List.setIfInBounds_toArray, List.set_cons_zero, List.set_cons_succ])
    refine takeD (i := 12) (v := ?av12) (some 109) rfl rfl (by kernel_rfl) (by kernel_rfl) (by kernel_rfl) (fun _ _ _ h => h) (Or.inl ⟨by rfl, ?ah12⟩) (by assumption) ?ar12
    case ah12 => (intro u hSu; (try dsimp only at hSu); go_simp; first | done | with_reducible rfl)
    (try simp only [Act.put, List.setIfInBounds_toArray, List.set_cons_zero, List.set_cons_succ])
    refine takeD (i := 13) (v := ?av13) (some 110) rfl rfl (by kernel_rfl) (by kernel_rfl) (by kernel_rfl) (fun _ _ _ h => h) (Or.inl ⟨by rfl, ?ah13⟩) (by assumption) ?ar13
    case ah13 => (intro u hSu; (try dsimp only at hSu); go_simp; first | done | with_reducible rfl)
    (try simp only [Act.put, List.setIfInBounds_toArray, List.set_cons_zero, List.set_cons_succ])
    refine takeD (i := 14) (v := ?av14) (some 111) rfl rfl (by kernel_rfl) (by kernel_rfl) (by kernel_rfl) (fun _ _ _ h => h) (Or.inl ⟨by rfl, ?ah14⟩) (by assumption) ?ar14
    case ah14 => (intro u hSu; (try dsimp only at hSu); go_simp; first | done | with_reducible rfl)
    (try simp only [Act.put, List.setIfInBounds_toArray, List.set_cons_zero, List.set_cons_succ])
    refine takeD (i := 15) (v := ?av15) (some 112) rfl rfl (by kernel_rfl) (by kernel_rfl) (by kernel_rfl) (fun _ _ _ h => h) (Or.inl ⟨by rfl, ?ah15⟩) (by assumption) ?ar15
    case ah15 => (intro u hSu; (try dsimp only at hSu); go_simp; first | done | with_reducible rfl)
    (try simp only [Act.put, List.setIfInBounds_toArray, List.set_cons_zero, List.set_cons_succ])
    refine takeD (i := 16) (v := undef) (some 113) rfl rfl (by kernel_rfl) (by kernel_rfl) (by kernel_rfl) (fun _ _ _ h => h) (Or.inr ⟨by rfl, rfl⟩) (by assumption) ?ar16
    (try simp only [Act.put, List.setIfInBounds_toArray, List.set_cons_zero, List.set_cons_succ])
    refine takeD (i := 17) (v := undef) (some 114) rfl rfl (by kernel_rfl) (by kernel_rfl) (by kernel_rfl) (fun _ _ _ h => h) (Or.inr ⟨by rfl, rfl⟩) (by assumption) ?ar17
    (try simp only [Act.put, List.setIfInBounds_toArray, List.set_cons_zero, List.set_cons_succ])
    refine takeD (i := 18) (v := undef) (some 115) rfl rfl (by kernel_rfl) (by kernel_rfl) (by kernel_rfl) (fun _ _ _ h => h) (Or.inr ⟨by rfl, rfl⟩) (by assumption) ?ar18
    (try simp only [Act.put, List.setIfInBounds_toArray, List.set_cons_zero, List.set_cons_succ])
    refine takeD (i := 19) (v := undef) (some 116) rfl rfl (by kernel_rfl) (by kernel_rfl) (by kernel_rfl) (fun _ _ _ h => h) (Or.inr ⟨by rfl, rfl⟩) (by assumption) ?ar19
    (try simp only [Act.put, List.setIfInBounds_toArray, List.set_cons_zero, List.set_cons_succ])
    refine takeD (i := 20) (v := undef) (some 117) rfl rfl (by kernel_rfl) (by kernel_rfl) (by kernel_rfl) (fun _ _ _ h => h) (Or.inr ⟨by rfl, rfl⟩) (by assumption) ?ar20
    (try simp only [Act.put, List.setIfInBounds_toArray, List.set_cons_zero, List.set_cons_succ])
    refine takeD (i := 21) (v := undef) (some 118) rfl rfl (by kernel_rfl) (by kernel_rfl) (by kernel_rfl) (fun _ _ _ h => h) (Or.inr ⟨by rfl, rfl⟩) (by assumption) ?ar21
    (try simp only [Act.put, List.setIfInBounds_toArray, List.set_cons_zero, List.set_cons_succ])
    refine takeD (i := 22) (v := ?av22) (some 119) rfl rfl (by kernel_rfl) (by kernel_rfl) (by kernel_rfl) (fun _ _ _ h => h) (Or.inl ⟨by rfl, ?ah22⟩) (by assumption) ?ar22
    case ah22 => (intro u hSu; (try dsimp only at hSu); go_simp; first | done | with_reducible rfl)
    (try simp only [Act.put, List.setIfInBounds_toArray, List.set_cons_zero, List.set_cons_succ])
    refine takeD (i := 23) (v := ?av23) (some 120) rfl rfl (by kernel_rfl) (by kernel_rfl) (by kernel_rfl) (fun _ _ _ h => h) (Or.inl ⟨by rfl, ?ah23⟩) (by assumption) ?ar23
    case ah23 => (intro u hSu; (try dsimp only at hSu); go_simp; first | done | with_reducible rfl)
    (try simp only [Act.put, List.setIfInBounds_toArray, List.set_cons_zero, List.set_cons_succ])
    refine wpAnyH_ready (rs := [24]) (by kernel_rfl) (by simp) ?_
    refine AllReadyH.cons rfl (fun K hK => ?_) AllReadyH.nil
    go_simp
    refine hK.out _ _ ⟨(unhide HS3).1, (unhide HS3).2.1, (unhide HS3).2.2⟩ (fun hHeld => ?_)
    clear hK K
    (try simp only [Act.put, List.setIfInBounds_toArray, List.set_cons_zero, List.set_cons_succ])
    refine takeD (i := 25) (v := ?bv25) (some 7) rfl rfl (by kernel_rfl) (by kernel_rfl) (by kernel_rfl) (fun _ _ _ h => h) (Or.inl ⟨by rfl, ?bh25⟩) (by assumption) ?br25
    case bh25 => (intro u hSu; (try dsimp only at hSu); go_simp; first | done | with_reducible rfl)
    (try simp only [Act.put, List.setIfInBounds_toArray, List.set_cons_zero, List.set_cons_succ])
    refine wpAnyH_done (by kernel_rfl) ?_ _
    go_wp2_with fail
    (try simp only [Exit.inBlock, Exit.then])
    refine bodyPost_ret (res2 rfl _ _ (w.heap.size + 2) _ _ rfl (unhide HE).1.1 (unhide HE).1.2) rfl ?_
    exact ⟨_, nx, by first | rfl | simp, (unhide HE).2⟩
  · obtain ⟨m0, k1, -, -⟩ := h1.on
    have CH := hide (headNoN a _ k1 okA (fun z hz e => hin ⟨z, hz, e⟩))
    have HCM := hide (refMembersNo nx a _ h1.items hn6 (hR.out.2 hin))
    obtain ⟨a5, c5, hv5⟩ := item_shape h.items
    generalize its.length = L5 at *
    subst hv5
    clear h h1 hR hn hnx okA hn6 k1
    go_enter Try.func9, Try.ntmps9
    go_upto_region 2 with fail
    unfold three at *
    generalize (((w.alloc (.cells #[.slice a5 L5 c5, .int .i64 nx] 28)).alloc (.cells #[.int .i64 5, .int .i64 a, .int .i64 b] 32)).alloc (.cells #[.slice none 0 0, .int .i64 0] 28)) = W at *
    go_wp2_with fail
    refine (unhide CH).mono ?_
    rintro e w' ⟨rfl, rfl⟩
    clear CH
    go_wp2_with fail
    refine (unhide HCM).mono ?_
    rintro e u ⟨rfl, HU⟩
    obtain ⟨⟨d0, d1⟩, ⟨e0, e1, ef⟩, HS3, HE⟩ := unhide HEND u (unhide HU)
    clear HCM HU HEND c0 c1 cf o0 o1 o2 r0 r1 rf
    go_upto_region 18 with fail
    refine wp_region_held_drew (S := fun w' => w'.cell? ⟨w.heap.size, 0, none⟩ = some (.slice a5 L5 c5) ∧ w'.cell? ⟨w.heap.size, 1, none⟩ = some (.int .i64 nx)) (by kernel_rfl) ⟨d0, d1⟩ (fun hHeld => ?_)
    refine takeD (i := 0) (v := ?cv0) (some 97) rfl rfl (by kernel_rfl) (by kernel_rfl) (by kernel_rfl) (fun _ _ _ h => h) (Or.inl ⟨by rfl, ?ch0⟩) (by assumption) ?cr0
    case ch0 => (intro u hSu; (try dsimp only at hSu); go_simp; first | done | with_reducible rfl)
    (try simp only [Act.put, List.setIfInBounds_toArray, List.set_cons_zero, List.set_cons_succ])
    refine takeD (i := 1) (v := ?cv1) (some 98) rfl rfl (by kernel_rfl) (by kernel_rfl) (by kernel_rfl) (fun _ _ _ h => h) (Or.inl ⟨by rfl, ?ch1⟩) (by assumption) ?cr1
    case ch1 => (intro u hSu; (try dsimp only at hSu); go_simp; first | done | with_reducible rfl)
    (try simp only [Act.put, List.setIfInBounds_toArray, List.set_cons_zero, List.set_cons_succ])
    refine takeD (i := 2) (v := ?cv2) (some 99) rfl rfl (by kernel_rfl) (by kernel_rfl) (by kernel_rfl) (fun _ _ _ h => h) (Or.inl ⟨by rfl, ?ch2⟩) (by assumption) ?cr2
    case ch2 => (intro u hSu; (try dsimp only at hSu); go_simp; first | done | with_reducible rfl)
    (try simp only [Act.put, List.setIfInBounds_toArray, List.set_cons_zero, List.set_cons_succ])
    refine takeD (i := 3) (v := ?cv3) (some 100) rfl rfl (by kernel_rfl) (by kernel_rfl) (by kernel_rfl) (fun _ _ _ h => h) (Or.inl ⟨by rfl, ?ch3⟩) (by assumption) ?cr3
    case ch3 => (intro u hSu; (try dsimp only at hSu); go_simp; first | done | with_reducible rfl)
    (try simp only [Act.put, List.setIfInBounds_toArray, List.set_cons_zero, List.set_cons_succ])
    refine takeD (i := 4) (v := ?cv4) (some 101) rfl rfl (by kernel_rfl) (by kernel_rfl) (by kernel_rfl) (fun _ _ _ h => h) (Or.inl ⟨by rfl, ?ch4⟩) (by assumption) ?cr4
    case ch4 => (intro u hSu; (try dsimp only at hSu); go_simp; first | done | with_reducible rfl)
    (try simp only [Act.put, List.setIfInBounds_toArray, List.set_cons_zero, List.set_cons_succ])
    refine takeD (i := 5) (v := ?cv5) (some 102) rfl rfl (by kernel_rfl) (by kernel_rfl) (by kernel_rfl) (fun _ _ _ h => h) (Or.inl ⟨by rfl, ?ch5⟩) (by assumption) ?cr5
    case ch5 => (intro u hSu; (try dsimp only at hSu); go_simp; first | done | with_reducible rfl)
    (try simp only [Act.put, List.setIfInBounds_toArray, List.set_cons_zero, List.set_cons_succ])
    refine takeD (i := 6) (v := ?cv6) (some 103) rfl rfl (by kernel_rfl) (by kernel_rfl) (by kernel_rfl) (fun _ _ _ h => h) (Or.inl ⟨by rfl, ?ch6⟩) (by assumption) ?cr6
    case ch6 => (intro u hSu; (try dsimp only at hSu); go_simp; first | done | with_reducible rfl)
    (try simp only [Act.put, List.setIfInBounds_toArray, List.set_cons_zero, List.set_cons_succ])
    refine takeD (i := 7) (v := ?cv7) (some 104) rfl rfl (by kernel_rfl) (by kernel_rfl) (by kernel_rfl) (fun _ _ _ h => h) (Or.inl ⟨by rfl, ?ch7⟩) (by assumption) ?cr7
    case ch7 => (intro u hSu; (try dsimp only at hSu); go_simp; first | done | with_reducible rfl)
    (try simp only [Act.put, List.setIfInBounds_toArray, List.set_cons_zero, List.set_cons_succ])
    refine takeD (i := 8) (v := ?cv8) (some 105) rfl rfl (by kernel_rfl) (by kernel_rfl) (by kernel_rfl) (fun _ _ _ h => h) (Or.inl ⟨by rfl, ?ch8⟩) (by assumption) ?cr8
    case ch8 => (intro u hSu; (try dsimp only at hSu); go_simp; first | done | with_reducible rfl)
    (try simp only [Act.put, List.setIfInBounds_toArray, List.set_cons_zero, List.set_cons_succ])
    refine takeD (i := 9) (v := undef) (some 106) rfl rfl (by kernel_rfl) (by kernel_rfl) (by kernel_rfl) (fun _ _ _ h => h) (Or.inr ⟨by rfl, rfl⟩) (by assumption) ?cr9
    (try simp only [Act.put, List.setIfInBounds_toArray, List.set_cons_zero, List.set_cons_succ])
    refine takeD (i := 10) (v := undef) (some 107) rfl rfl (by kernel_rfl) (by kernel_rfl) (by kernel_rfl) (fun _ _ _ h => h) (Or.inr ⟨by rfl, rfl⟩) (by assumption) ?cr10
    (try simp only [Act.put, List.setIfInBounds_toArray, List.set_cons_zero, List.set_cons_succ])
    refine takeD (i := 11) (v := undef) (some 108) rfl rfl (by kernel_rfl) (by kernel_rfl) (by kernel_rfl) (fun _ _ _ h => h) (Or.inr ⟨by rfl, rfl⟩) (by assumption) ?cr11
    (try simp only [Act.put, List.setIfInBounds_toArray, List.set_cons_zero, List.set_cons_succ])
    refine takeD (i := 12) (v := undef) (some 109) rfl rfl (by kernel_rfl) (by kernel_rfl) (by kernel_rfl) (fun _ _ _ h => h) (Or.inr ⟨by rfl, rfl⟩) (by assumption) ?cr12
    (try simp only [Act.put, List.setIfInBounds_toArray, List.set_cons_zero, List.set_cons_succ])
    refine takeD (i := 13) (v := undef) (some 110) rfl rfl (by kernel_rfl) (by kernel_rfl) (by kernel_rfl) (fun _ _ _ h => h) (Or.inr ⟨by rfl, rfl⟩) (by assumption) ?cr13
    (try simp only [Act.put, List.setIfInBounds_toArray, List.set_cons_zero, List.set_cons_succ])
    refine takeD (i := 14) (v := ?cv14) (some 111) rfl rfl (by kernel_rfl) (by kernel_rfl) (by kernel_rfl) (fun _ _ _ h => h) (Or.inl ⟨by rfl, ?ch14⟩) (by assumption) ?cr14
    case ch14 => (intro u hSu; (try dsimp only at hSu); go_simp; first | done | with_reducible rfl)
    (try simp only [Act.put, List.setIfInBounds_toArray, List.set_cons_zero, List.set_cons_succ])
    refine takeD (i := 15) (v := ?cv15) (some 112) rfl rfl (by kernel_rfl) (by kernel_rfl) (by kernel_rfl) (fun _ _ _ h => h) (Or.inl ⟨by rfl, ?ch15⟩) (by assumption) ?cr15
    case ch15 => (intro u hSu; (try dsimp only at hSu); go_simp; first | done | with_reducible rfl)
    (try simp only [Act.put, List.setIfInBounds_toArray, List.set_cons_zero, List.set_cons_succ])
    refine takeD (i := 16) (v := ?cv16) (some 113) rfl rfl (by kernel_rfl) (by kernel_rfl) (by kernel_rfl) (fun _ _ _ h => h) (Or.inl ⟨by rfl, ?ch16⟩) (by assumption) ?cr16
    case ch16 => (intro u hSu; (try dsimp only at hSu); go_simp; first | done | with_reducible rfl)
    (try simp only [Act.put, List.setIfInBounds_toArray, List.set_cons_zero, List.set_cons_succ])
    refine takeD (i := 17) (v := ?cv17) (some 114) rfl rfl (by kernel_rfl) (by kernel_rfl) (by kernel_rfl) (fun _ _ _ h => h) (Or.inl ⟨by rfl, ?ch17⟩) (by assumption) ?cr17
    case ch17 => (intro u hSu; (try dsimp only at hSu); go_simp; first | done | with_reducible rfl)
    (try simp only [Act.put, List.setIfInBounds_toArray, List.set_cons_zero, List.set_cons_succ])
    refine takeD (i := 18) (v := ?cv18) (some 115) rfl rfl (by kernel_rfl) (by kernel_rfl) (by kernel_rfl) (fun _ _ _ h => h) (Or.inl ⟨by rfl, ?ch18⟩) (by assumption) ?cr18
    case ch18 => (intro u hSu; (try dsimp only at hSu); go_simp; first | done | with_reducible rfl)
    (try simp only [Act.put, List.setIfInBounds_toArray, List.set_cons_zero, List.set_cons_succ])
    refine takeD (i := 19) (v := ?cv19) (some 116) rfl rfl (by kernel_rfl) (by kernel_rfl) (by kernel_rfl) (fun _ _ _ h => h) (Or.inl ⟨by rfl, ?ch19⟩) (by assumption) ?cr19
    case ch19 => (intro u hSu; (try dsimp only at hSu); go_simp; first | done | with_reducible rfl)
    (try simp only [Act.put, List.setIfInBounds_toArray, List.set_cons_zero, List.set_cons_succ])
    refine takeD (i := 20) (v := ?cv20) (some 117) rfl rfl (by kernel_rfl) (by kernel_rfl) (by kernel_rfl) (fun _ _ _ h => h) (Or.inl ⟨by rfl, ?ch20⟩) (by assumption) ?cr20
    case ch20 => (intro u hSu; (try dsimp only at hSu); go_simp; first | done | with_reducible rfl)
    (try simp only [Act.put, List.setIfInBounds_toArray, List.set_cons_zero, List.set_cons_succ])
    refine takeD (i := 21) (v := ?cv21) (some 118) rfl rfl (by kernel_rfl) (by kernel_rfl) (by kernel_rfl) (fun _ _ _ h => h) (Or.inl ⟨by rfl, ?ch21⟩) (by assumption) ?cr21
    case ch21 => (intro u hSu; (try dsimp only at hSu); go_simp; first | done | with_reducible rfl)
    (try simp only [Act.put, List.setIfInBounds_toArray, List.set_cons_zero, List.set_cons_succ])
    refine takeD (i := 22) (v := ?cv22) (some 119) rfl rfl (by kernel_rfl) (by kernel_rfl) (by kernel_rfl) (fun _ _ _ h => h) (Or.inl ⟨by rfl, ?ch22⟩) (by assumption) ?cr22
    case ch22 => (intro u hSu; (try dsimp only at hSu); go_simp; first | done | with_reducible rfl)
    (try simp only [Act.put, List.setIfInBounds_toArray, List.set_cons_zero, List.set_cons_succ])
    refine takeD (i := 23) (v := ?cv23) (some 120) rfl rfl (by kernel_rfl) (by kernel_rfl) (by kernel_rfl) (fun _ _ _ h => h) (Or.inl ⟨by rfl, ?ch23⟩) (by assumption) ?cr23
    case ch23 => (intro u hSu; (try dsimp only at hSu); go_simp; first | done | with_reducible rfl)
    (try simp only [Act.put, List.setIfInBounds_toArray, List.set_cons_zero, List.set_cons_succ])
    refine wpAnyH_ready (rs := [24]) (by kernel_rfl) (by simp) ?_
    refine AllReadyH.cons rfl (fun K hK => ?_) AllReadyH.nil
    go_simp
    refine hK.out _ _ ⟨(unhide HS3).1, (unhide HS3).2⟩ (fun hHeld => ?_)
    clear hK K
    (try simp only [Act.put, List.setIfInBounds_toArray, List.set_cons_zero, List.set_cons_succ])
    refine takeD (i := 25) (v := ?dv25) (some 7) rfl rfl (by kernel_rfl) (by kernel_rfl) (by kernel_rfl) (fun _ _ _ h => h) (Or.inl ⟨by rfl, ?dh25⟩) (by assumption) ?dr25
    case dh25 => (intro u hSu; (try dsimp only at hSu); go_simp; first | done | with_reducible rfl)
    (try simp only [Act.put, List.setIfInBounds_toArray, List.set_cons_zero, List.set_cons_succ])
    refine wpAnyH_done (by kernel_rfl) ?_ _
    go_wp2_with fail
    (try simp only [Exit.inBlock, Exit.then])
    refine bodyPost_ret (res2 rfl _ _ (w.heap.size + 2) _ _ rfl (unhide HE).1.1 (unhide HE).1.2) rfl ?_
    exact ⟨_, nx, by first | rfl | simp, (unhide HE).2⟩
end Go.Proofs.Ytfhidghjmookhaa
