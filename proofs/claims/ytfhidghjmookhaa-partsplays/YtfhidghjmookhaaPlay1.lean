/- play at the four calls that change. -/
import Derived.Test.YtfhidghjmookhaaPlayFrame
import Derived.Deep.RegionHeld3
namespace Go.Proofs.Ytfhidghjmookhaa
open Go.RowKit Go.Maps

set_option maxHeartbeats 2000000 in
set_option maxRecDepth 100000 in
theorem playAdd {w0 w : World} {p : Nat} {S : List (Part Int)} {rs : List Rw} {v : Value} {its : List (Int × Int)} {nx : Int} (a b : Int) (okA : okN a) (_okB : okN b) (h : SideN w0 p S (itm v its :: rs) w) (hR : Rel S its nx) (hn : its.length ≤ 1000) (hnx : 0 ≤ nx ∧ nx ≤ 1000000) :
    Calls Try.prog 9 #[.pointer (some ⟨p, 0, none⟩), .agg #[v, .int .i64 nx], .agg #[.int .i64 1, .int .i64 a, .int .i64 b]] w fun e w' => ∃ v' nx', e = .returned (.tuple #[.agg #[v', .int .i64 nx'], .bool true]) ∧ Hid (Played w0 p rs (its.length + 1) (nx + its.length + 1) v' nx' w') := by
  have h1 := begin3 h v (.int .i64 nx) (.int .i64 1) (.int .i64 a) (.int .i64 b)
  have CR := hide (addThen a okA h1 hR hn hnx)
  obtain ⟨c0, c1, cf⟩ := h1.cellM (List.mem_cons_of_mem _ (List.mem_cons_self ..))
  obtain ⟨o0, o1, o2⟩ := h1.cellO (List.mem_cons_of_mem _ (List.mem_cons_of_mem _ (List.mem_cons_self ..)))
  obtain ⟨r0, r1, rf⟩ := h1.cellM (List.mem_cons_of_mem _ (List.mem_cons_of_mem _ (List.mem_cons_of_mem _ (List.mem_cons_self ..))))
  have HNX := hide hnx
  clear h h1 hR hn hnx okA _okB
  go_enter Try.func9, Try.ntmps9
  go_upto_region 2 with fail
  unfold three at *
  generalize (((w.alloc (.cells #[v, .int .i64 nx] 28)).alloc (.cells #[.int .i64 1, .int .i64 a, .int .i64 b] 32)).alloc (.cells #[.slice none 0 0, .int .i64 0] 28)) = W at *
  go_wp2_with fail
  refine (unhide CR).mono ?_
  rintro e u ⟨v', nx', yes, rfl, HA⟩
  obtain ⟨its', h2, l1, l2, l3, hthen⟩ := unhide HA
  obtain ⟨a5, c5, hv5⟩ := item_shape h2.items
  obtain ⟨L5, hL5⟩ : ∃ L5, its'.length = L5 := ⟨_, rfl⟩
  rw [hL5] at hv5
  subst hv5
  clear hL5
  have h3 := mid3 h2 (.slice a5 L5 c5) (.int .i64 nx')
  obtain ⟨s0, s1, sf⟩ := h2.cellM (List.mem_cons_of_mem _ (List.mem_cons_self ..))
  have CP := hide (hthen _ _ h3)
  obtain ⟨t0, t1, -⟩ := h3.cellM (List.mem_cons_of_mem _ (List.mem_cons_self ..))
  obtain ⟨-, t3, t4⟩ := h3.cellO (List.mem_cons_of_mem _ (List.mem_cons_of_mem _ (List.mem_cons_self ..)))
  have H3 := hide h3
  have HTH := hide hthen
  have HB := hide (And.intro l1 (And.intro l2 l3))
  clear CR HA h2 h3 c0 c1 cf o0 o1 o2 r0 r1 rf hthen l1 l2 l3 CP
  go_upto_region 5 with fail
  generalize ((u.setCell ⟨w.heap.size, 0, none⟩ (.slice a5 L5 c5)).setCell ⟨w.heap.size, 1, none⟩ (.int .i64 nx')) = u2 at *
  have CP : Hid (∀ q, Calls Try.prog 26 #[.pointer (some ⟨p, 0, none⟩), .int .i64 a] (u2.drewN q) fun e w' => e = .returned (.bool yes) ∧ (w'.cell? ⟨w.heap.size, 0, none⟩ = some (.slice a5 L5 c5) ∧ w'.cell? ⟨w.heap.size, 1, none⟩ = some (.int .i64 nx') ∧ w'.cell? ⟨w.heap.size + 1, 1, none⟩ = some (.int .i64 a)) ∧ (w'.cell? ⟨w.heap.size + 2, 0, none⟩ = some (.slice none 0 0) ∧ w'.cell? ⟨w.heap.size + 2, 1, none⟩ = some (.int .i64 0) ∧ ∀ o, w'.frozen? ⟨w.heap.size + 2, o, none⟩ = false) ∧ (((w'.setCell ⟨w.heap.size + 2, 0, none⟩ (.slice a5 L5 c5)).setCell ⟨w.heap.size + 2, 1, none⟩ (.int .i64 nx')).cell? ⟨w.heap.size, 0, none⟩ = some (.slice a5 L5 c5) ∧ ((w'.setCell ⟨w.heap.size + 2, 0, none⟩ (.slice a5 L5 c5)).setCell ⟨w.heap.size + 2, 1, none⟩ (.int .i64 nx')).cell? ⟨w.heap.size, 1, none⟩ = some (.int .i64 nx') ∧ ((w'.setCell ⟨w.heap.size + 2, 0, none⟩ (.slice a5 L5 c5)).setCell ⟨w.heap.size + 2, 1, none⟩ (.int .i64 nx')).cell? ⟨w.heap.size + 1, 1, none⟩ = some (.int .i64 a)) ∧
      Hid ((((w'.setCell ⟨w.heap.size + 2, 0, none⟩ (.slice a5 L5 c5)).setCell ⟨w.heap.size + 2, 1, none⟩ (.int .i64 nx')).cell? ⟨w.heap.size + 2, 0, none⟩ = some (.slice a5 L5 c5) ∧ ((w'.setCell ⟨w.heap.size + 2, 0, none⟩ (.slice a5 L5 c5)).setCell ⟨w.heap.size + 2, 1, none⟩ (.int .i64 nx')).cell? ⟨w.heap.size + 2, 1, none⟩ = some (.int .i64 nx')) ∧ Played w0 p rs (its.length + 1) (nx + its.length + 1) (.slice a5 L5 c5) nx' ((w'.setCell ⟨w.heap.size + 2, 0, none⟩ (.slice a5 L5 c5)).setCell ⟨w.heap.size + 2, 1, none⟩ (.int .i64 nx')))) := fun q => by
    refine (unhide HTH _ _ ((unhide H3).step (below_drewN (Below.refl _ _) q))).mono fun e w' hh => ⟨hh.1, ?_⟩
    obtain ⟨S', g1, g2⟩ := unhide hh.2
    obtain ⟨z1, z2, z3, z4⟩ := end3 g1 (.slice a5 L5 c5) (.int .i64 nx')
    obtain ⟨l1, l2, l3⟩ := unhide HB
    exact ⟨⟨(g1.cellM (List.mem_cons_of_mem _ (List.mem_cons_self ..))).1, (g1.cellM (List.mem_cons_of_mem _ (List.mem_cons_self ..))).2.1, (g1.cellO (List.mem_cons_of_mem _ (List.mem_cons_of_mem _ (List.mem_cons_self ..)))).2.1⟩, g1.cellM (List.mem_cons_of_mem _ (List.mem_cons_of_mem _ (List.mem_cons_of_mem _ (List.mem_cons_self ..)))), ⟨(z4.cellM (List.mem_cons_of_mem _ (List.mem_cons_of_mem _ (List.mem_cons_self ..)))).1, (z4.cellM (List.mem_cons_of_mem _ (List.mem_cons_of_mem _ (List.mem_cons_self ..)))).2.1, (z4.cellO (List.mem_cons_of_mem _ (List.mem_cons_of_mem _ (List.mem_cons_of_mem _ (List.mem_cons_self ..))))).2.1⟩, ⟨z2, z3⟩, S', its', z1, g2, l1, by have := unhide HNX; omega, l3⟩
  clear H3 HTH HB s0 s1 sf
  go_region_held3 (fun w' => w'.cell? ⟨w.heap.size, 0, none⟩ = some (.slice a5 L5 c5) ∧ w'.cell? ⟨w.heap.size, 1, none⟩ = some (.int .i64 nx') ∧ w'.cell? ⟨w.heap.size + 1, 1, none⟩ = some (.int .i64 a)) (first | exact ⟨dd0, dd1, dd2⟩ | exact ⟨t0, t1, t3⟩ | exact ⟨ee0, ee1, ee2⟩ | (go_keep; done)) ((go_at_call 26; refine (unhide CP _).mono ?_; rintro e w' ⟨rfl, ⟨dd0, dd1, dd2⟩, ⟨rr0, rr1, rrf⟩, ⟨ee0, ee1, ee2⟩, hE⟩))
  all_goals
    go_wp2_with fail
    (try simp only [Exit.inBlock, Exit.then])
    refine bodyPost_ret (res2 rfl _ _ (w.heap.size + 2) _ _ rfl (unhide hE).1.1 (unhide hE).1.2) rfl ?_
    exact ⟨_, nx', by first | rfl | simp, (unhide hE).2⟩

set_option maxHeartbeats 2000000 in
set_option maxRecDepth 100000 in
theorem playDrop {w0 w : World} {p : Nat} {S : List (Part Int)} {rs : List Rw} {v : Value} {its : List (Int × Int)} {nx : Int} (a b : Int) (okA : okN a) (_okB : okN b) (h : SideN w0 p S (itm v its :: rs) w) (hR : Rel S its nx) (hn : its.length ≤ 1000) (hnx : 0 ≤ nx ∧ nx ≤ 1000000) :
    Calls Try.prog 9 #[.pointer (some ⟨p, 0, none⟩), .agg #[v, .int .i64 nx], .agg #[.int .i64 2, .int .i64 a, .int .i64 b]] w fun e w' => ∃ v' nx', e = .returned (.tuple #[.agg #[v', .int .i64 nx'], .bool true]) ∧ Hid (Played w0 p rs (its.length + 1) (nx + its.length + 1) v' nx' w') := by
  have h1 := begin3 h v (.int .i64 nx) (.int .i64 2) (.int .i64 a) (.int .i64 b)
  have CR := hide (dropThen a okA h1 hR hn)
  obtain ⟨c0, c1, cf⟩ := h1.cellM (List.mem_cons_of_mem _ (List.mem_cons_self ..))
  obtain ⟨o0, o1, o2⟩ := h1.cellO (List.mem_cons_of_mem _ (List.mem_cons_of_mem _ (List.mem_cons_self ..)))
  obtain ⟨r0, r1, rf⟩ := h1.cellM (List.mem_cons_of_mem _ (List.mem_cons_of_mem _ (List.mem_cons_of_mem _ (List.mem_cons_self ..))))
  have HNX := hide hnx
  clear h h1 hR hn hnx okA _okB
  go_enter Try.func9, Try.ntmps9
  go_upto_region 2 with fail
  unfold three at *
  generalize (((w.alloc (.cells #[v, .int .i64 nx] 28)).alloc (.cells #[.int .i64 2, .int .i64 a, .int .i64 b] 32)).alloc (.cells #[.slice none 0 0, .int .i64 0] 28)) = W at *
  go_wp2_with fail
  refine (unhide CR).mono ?_
  rintro e u ⟨v', nx', yes, rfl, HA⟩
  obtain ⟨its', h2, l1, l2, l3, hthen⟩ := unhide HA
  obtain ⟨a5, c5, hv5⟩ := item_shape h2.items
  obtain ⟨L5, hL5⟩ : ∃ L5, its'.length = L5 := ⟨_, rfl⟩
  rw [hL5] at hv5
  subst hv5
  clear hL5
  have h3 := mid3 h2 (.slice a5 L5 c5) (.int .i64 nx')
  obtain ⟨s0, s1, sf⟩ := h2.cellM (List.mem_cons_of_mem _ (List.mem_cons_self ..))
  have CP := hide (hthen _ _ h3)
  obtain ⟨t0, t1, -⟩ := h3.cellM (List.mem_cons_of_mem _ (List.mem_cons_self ..))
  obtain ⟨-, t3, t4⟩ := h3.cellO (List.mem_cons_of_mem _ (List.mem_cons_of_mem _ (List.mem_cons_self ..)))
  have H3 := hide h3
  have HTH := hide hthen
  have HB := hide (And.intro l1 (And.intro l2 l3))
  clear CR HA h2 h3 c0 c1 cf o0 o1 o2 r0 r1 rf hthen l1 l2 l3 CP
  go_upto_region 8 with fail
  generalize ((u.setCell ⟨w.heap.size, 0, none⟩ (.slice a5 L5 c5)).setCell ⟨w.heap.size, 1, none⟩ (.int .i64 nx')) = u2 at *
  have CP : Hid (∀ q, Calls Try.prog 32 #[.pointer (some ⟨p, 0, none⟩), .int .i64 a] (u2.drewN q) fun e w' => e = .returned (.bool yes) ∧ (w'.cell? ⟨w.heap.size, 0, none⟩ = some (.slice a5 L5 c5) ∧ w'.cell? ⟨w.heap.size, 1, none⟩ = some (.int .i64 nx') ∧ w'.cell? ⟨w.heap.size + 1, 1, none⟩ = some (.int .i64 a)) ∧ (w'.cell? ⟨w.heap.size + 2, 0, none⟩ = some (.slice none 0 0) ∧ w'.cell? ⟨w.heap.size + 2, 1, none⟩ = some (.int .i64 0) ∧ ∀ o, w'.frozen? ⟨w.heap.size + 2, o, none⟩ = false) ∧ (((w'.setCell ⟨w.heap.size + 2, 0, none⟩ (.slice a5 L5 c5)).setCell ⟨w.heap.size + 2, 1, none⟩ (.int .i64 nx')).cell? ⟨w.heap.size, 0, none⟩ = some (.slice a5 L5 c5) ∧ ((w'.setCell ⟨w.heap.size + 2, 0, none⟩ (.slice a5 L5 c5)).setCell ⟨w.heap.size + 2, 1, none⟩ (.int .i64 nx')).cell? ⟨w.heap.size, 1, none⟩ = some (.int .i64 nx') ∧ ((w'.setCell ⟨w.heap.size + 2, 0, none⟩ (.slice a5 L5 c5)).setCell ⟨w.heap.size + 2, 1, none⟩ (.int .i64 nx')).cell? ⟨w.heap.size + 1, 1, none⟩ = some (.int .i64 a)) ∧
      Hid ((((w'.setCell ⟨w.heap.size + 2, 0, none⟩ (.slice a5 L5 c5)).setCell ⟨w.heap.size + 2, 1, none⟩ (.int .i64 nx')).cell? ⟨w.heap.size + 2, 0, none⟩ = some (.slice a5 L5 c5) ∧ ((w'.setCell ⟨w.heap.size + 2, 0, none⟩ (.slice a5 L5 c5)).setCell ⟨w.heap.size + 2, 1, none⟩ (.int .i64 nx')).cell? ⟨w.heap.size + 2, 1, none⟩ = some (.int .i64 nx')) ∧ Played w0 p rs (its.length + 1) (nx + its.length + 1) (.slice a5 L5 c5) nx' ((w'.setCell ⟨w.heap.size + 2, 0, none⟩ (.slice a5 L5 c5)).setCell ⟨w.heap.size + 2, 1, none⟩ (.int .i64 nx')))) := fun q => by
    refine (unhide HTH _ _ ((unhide H3).step (below_drewN (Below.refl _ _) q))).mono fun e w' hh => ⟨hh.1, ?_⟩
    obtain ⟨S', g1, g2⟩ := unhide hh.2
    obtain ⟨z1, z2, z3, z4⟩ := end3 g1 (.slice a5 L5 c5) (.int .i64 nx')
    obtain ⟨l1, l2, l3⟩ := unhide HB
    exact ⟨⟨(g1.cellM (List.mem_cons_of_mem _ (List.mem_cons_self ..))).1, (g1.cellM (List.mem_cons_of_mem _ (List.mem_cons_self ..))).2.1, (g1.cellO (List.mem_cons_of_mem _ (List.mem_cons_of_mem _ (List.mem_cons_self ..)))).2.1⟩, g1.cellM (List.mem_cons_of_mem _ (List.mem_cons_of_mem _ (List.mem_cons_of_mem _ (List.mem_cons_self ..)))), ⟨(z4.cellM (List.mem_cons_of_mem _ (List.mem_cons_of_mem _ (List.mem_cons_self ..)))).1, (z4.cellM (List.mem_cons_of_mem _ (List.mem_cons_of_mem _ (List.mem_cons_self ..)))).2.1, (z4.cellO (List.mem_cons_of_mem _ (List.mem_cons_of_mem _ (List.mem_cons_of_mem _ (List.mem_cons_self ..))))).2.1⟩, ⟨z2, z3⟩, S', its', z1, g2, l1, by have := unhide HNX; omega, l3⟩
  clear H3 HTH HB s0 s1 sf
  go_region_held3 (fun w' => w'.cell? ⟨w.heap.size, 0, none⟩ = some (.slice a5 L5 c5) ∧ w'.cell? ⟨w.heap.size, 1, none⟩ = some (.int .i64 nx') ∧ w'.cell? ⟨w.heap.size + 1, 1, none⟩ = some (.int .i64 a)) (first | exact ⟨dd0, dd1, dd2⟩ | exact ⟨t0, t1, t3⟩ | exact ⟨ee0, ee1, ee2⟩ | (go_keep; done)) ((go_at_call 32; refine (unhide CP _).mono ?_; rintro e w' ⟨rfl, ⟨dd0, dd1, dd2⟩, ⟨rr0, rr1, rrf⟩, ⟨ee0, ee1, ee2⟩, hE⟩))
  all_goals
    go_wp2_with fail
    (try simp only [Exit.inBlock, Exit.then])
    refine bodyPost_ret (res2 rfl _ _ (w.heap.size + 2) _ _ rfl (unhide hE).1.1 (unhide hE).1.2) rfl ?_
    exact ⟨_, nx', by first | rfl | simp, (unhide hE).2⟩

set_option maxHeartbeats 2000000 in
set_option maxRecDepth 100000 in
theorem playJoin {w0 w : World} {p : Nat} {S : List (Part Int)} {rs : List Rw} {v : Value} {its : List (Int × Int)} {nx : Int} (a b : Int) (okA : okN a) (okB : okN b) (h : SideN w0 p S (itm v its :: rs) w) (hR : Rel S its nx) (hn : its.length ≤ 1000) (hnx : 0 ≤ nx ∧ nx ≤ 1000000) :
    Calls Try.prog 9 #[.pointer (some ⟨p, 0, none⟩), .agg #[v, .int .i64 nx], .agg #[.int .i64 3, .int .i64 a, .int .i64 b]] w fun e w' => ∃ v' nx', e = .returned (.tuple #[.agg #[v', .int .i64 nx'], .bool true]) ∧ Hid (Played w0 p rs (its.length + 1) (nx + its.length + 1) v' nx' w') := by
  have h1 := begin3 h v (.int .i64 nx) (.int .i64 3) (.int .i64 a) (.int .i64 b)
  have CR := hide (joinThen a b okA okB h1 hR hn)
  obtain ⟨c0, c1, cf⟩ := h1.cellM (List.mem_cons_of_mem _ (List.mem_cons_self ..))
  obtain ⟨o0, o1, o2⟩ := h1.cellO (List.mem_cons_of_mem _ (List.mem_cons_of_mem _ (List.mem_cons_self ..)))
  obtain ⟨r0, r1, rf⟩ := h1.cellM (List.mem_cons_of_mem _ (List.mem_cons_of_mem _ (List.mem_cons_of_mem _ (List.mem_cons_self ..))))
  have HNX := hide hnx
  clear h h1 hR hn hnx okA okB
  go_enter Try.func9, Try.ntmps9
  go_upto_region 2 with fail
  unfold three at *
  generalize (((w.alloc (.cells #[v, .int .i64 nx] 28)).alloc (.cells #[.int .i64 3, .int .i64 a, .int .i64 b] 32)).alloc (.cells #[.slice none 0 0, .int .i64 0] 28)) = W at *
  go_wp2_with fail
  refine (unhide CR).mono ?_
  rintro e u ⟨v', nx', yes, rfl, HA⟩
  obtain ⟨its', h2, l1, l2, l3, hthen⟩ := unhide HA
  obtain ⟨a5, c5, hv5⟩ := item_shape h2.items
  obtain ⟨L5, hL5⟩ : ∃ L5, its'.length = L5 := ⟨_, rfl⟩
  rw [hL5] at hv5
  subst hv5
  clear hL5
  have h3 := mid3 h2 (.slice a5 L5 c5) (.int .i64 nx')
  obtain ⟨s0, s1, sf⟩ := h2.cellM (List.mem_cons_of_mem _ (List.mem_cons_self ..))
  have CP := hide (hthen _ _ h3)
  obtain ⟨t0, t1, -⟩ := h3.cellM (List.mem_cons_of_mem _ (List.mem_cons_self ..))
  obtain ⟨-, t3, t4⟩ := h3.cellO (List.mem_cons_of_mem _ (List.mem_cons_of_mem _ (List.mem_cons_self ..)))
  have H3 := hide h3
  have HTH := hide hthen
  have HB := hide (And.intro l1 (And.intro l2 l3))
  clear CR HA h2 h3 c0 c1 cf o0 o1 o2 r0 r1 rf hthen l1 l2 l3 CP
  go_upto_region 11 with fail
  generalize ((u.setCell ⟨w.heap.size, 0, none⟩ (.slice a5 L5 c5)).setCell ⟨w.heap.size, 1, none⟩ (.int .i64 nx')) = u2 at *
  have CP : Hid (∀ q, Calls Try.prog 27 #[.pointer (some ⟨p, 0, none⟩), .int .i64 a, .int .i64 b] (u2.drewN q) fun e w' => e = .returned (.bool yes) ∧ (w'.cell? ⟨w.heap.size, 0, none⟩ = some (.slice a5 L5 c5) ∧ w'.cell? ⟨w.heap.size, 1, none⟩ = some (.int .i64 nx') ∧ w'.cell? ⟨w.heap.size + 1, 1, none⟩ = some (.int .i64 a) ∧ w'.cell? ⟨w.heap.size + 1, 2, none⟩ = some (.int .i64 b)) ∧ (w'.cell? ⟨w.heap.size + 2, 0, none⟩ = some (.slice none 0 0) ∧ w'.cell? ⟨w.heap.size + 2, 1, none⟩ = some (.int .i64 0) ∧ ∀ o, w'.frozen? ⟨w.heap.size + 2, o, none⟩ = false) ∧ (((w'.setCell ⟨w.heap.size + 2, 0, none⟩ (.slice a5 L5 c5)).setCell ⟨w.heap.size + 2, 1, none⟩ (.int .i64 nx')).cell? ⟨w.heap.size, 0, none⟩ = some (.slice a5 L5 c5) ∧ ((w'.setCell ⟨w.heap.size + 2, 0, none⟩ (.slice a5 L5 c5)).setCell ⟨w.heap.size + 2, 1, none⟩ (.int .i64 nx')).cell? ⟨w.heap.size, 1, none⟩ = some (.int .i64 nx') ∧ ((w'.setCell ⟨w.heap.size + 2, 0, none⟩ (.slice a5 L5 c5)).setCell ⟨w.heap.size + 2, 1, none⟩ (.int .i64 nx')).cell? ⟨w.heap.size + 1, 1, none⟩ = some (.int .i64 a) ∧ ((w'.setCell ⟨w.heap.size + 2, 0, none⟩ (.slice a5 L5 c5)).setCell ⟨w.heap.size + 2, 1, none⟩ (.int .i64 nx')).cell? ⟨w.heap.size + 1, 2, none⟩ = some (.int .i64 b)) ∧
      Hid ((((w'.setCell ⟨w.heap.size + 2, 0, none⟩ (.slice a5 L5 c5)).setCell ⟨w.heap.size + 2, 1, none⟩ (.int .i64 nx')).cell? ⟨w.heap.size + 2, 0, none⟩ = some (.slice a5 L5 c5) ∧ ((w'.setCell ⟨w.heap.size + 2, 0, none⟩ (.slice a5 L5 c5)).setCell ⟨w.heap.size + 2, 1, none⟩ (.int .i64 nx')).cell? ⟨w.heap.size + 2, 1, none⟩ = some (.int .i64 nx')) ∧ Played w0 p rs (its.length + 1) (nx + its.length + 1) (.slice a5 L5 c5) nx' ((w'.setCell ⟨w.heap.size + 2, 0, none⟩ (.slice a5 L5 c5)).setCell ⟨w.heap.size + 2, 1, none⟩ (.int .i64 nx')))) := fun q => by
    refine (unhide HTH _ _ ((unhide H3).step (below_drewN (Below.refl _ _) q))).mono fun e w' hh => ⟨hh.1, ?_⟩
    obtain ⟨S', g1, g2⟩ := unhide hh.2
    obtain ⟨z1, z2, z3, z4⟩ := end3 g1 (.slice a5 L5 c5) (.int .i64 nx')
    obtain ⟨l1, l2, l3⟩ := unhide HB
    exact ⟨⟨(g1.cellM (List.mem_cons_of_mem _ (List.mem_cons_self ..))).1, (g1.cellM (List.mem_cons_of_mem _ (List.mem_cons_self ..))).2.1, (g1.cellO (List.mem_cons_of_mem _ (List.mem_cons_of_mem _ (List.mem_cons_self ..)))).2.1, (g1.cellO (List.mem_cons_of_mem _ (List.mem_cons_of_mem _ (List.mem_cons_self ..)))).2.2⟩, g1.cellM (List.mem_cons_of_mem _ (List.mem_cons_of_mem _ (List.mem_cons_of_mem _ (List.mem_cons_self ..)))), ⟨(z4.cellM (List.mem_cons_of_mem _ (List.mem_cons_of_mem _ (List.mem_cons_self ..)))).1, (z4.cellM (List.mem_cons_of_mem _ (List.mem_cons_of_mem _ (List.mem_cons_self ..)))).2.1, (z4.cellO (List.mem_cons_of_mem _ (List.mem_cons_of_mem _ (List.mem_cons_of_mem _ (List.mem_cons_self ..))))).2.1, (z4.cellO (List.mem_cons_of_mem _ (List.mem_cons_of_mem _ (List.mem_cons_of_mem _ (List.mem_cons_self ..))))).2.2⟩, ⟨z2, z3⟩, S', its', z1, g2, l1, by have := unhide HNX; omega, l3⟩
  clear H3 HTH HB s0 s1 sf
  go_region_held3 (fun w' => w'.cell? ⟨w.heap.size, 0, none⟩ = some (.slice a5 L5 c5) ∧ w'.cell? ⟨w.heap.size, 1, none⟩ = some (.int .i64 nx') ∧ w'.cell? ⟨w.heap.size + 1, 1, none⟩ = some (.int .i64 a) ∧ w'.cell? ⟨w.heap.size + 1, 2, none⟩ = some (.int .i64 b)) (first | exact ⟨dd0, dd1, dd2, dd3⟩ | exact ⟨t0, t1, t3, t4⟩ | exact ⟨ee0, ee1, ee2, ee3⟩ | (go_keep; done)) ((go_at_call 27; refine (unhide CP _).mono ?_; rintro e w' ⟨rfl, ⟨dd0, dd1, dd2, dd3⟩, ⟨rr0, rr1, rrf⟩, ⟨ee0, ee1, ee2, ee3⟩, hE⟩))
  all_goals
    go_wp2_with fail
    (try simp only [Exit.inBlock, Exit.then])
    refine bodyPost_ret (res2 rfl _ _ (w.heap.size + 2) _ _ rfl (unhide hE).1.1 (unhide hE).1.2) rfl ?_
    exact ⟨_, nx', by first | rfl | simp, (unhide hE).2⟩

set_option maxHeartbeats 2000000 in
set_option maxRecDepth 100000 in
theorem playBurst {w0 w : World} {p : Nat} {S : List (Part Int)} {rs : List Rw} {v : Value} {its : List (Int × Int)} {nx : Int} (a b : Int) (okA : okN a) (_okB : okN b) (h : SideN w0 p S (itm v its :: rs) w) (hR : Rel S its nx) (hn : its.length ≤ 1000) (hnx : 0 ≤ nx ∧ nx ≤ 1000000) :
    Calls Try.prog 9 #[.pointer (some ⟨p, 0, none⟩), .agg #[v, .int .i64 nx], .agg #[.int .i64 4, .int .i64 a, .int .i64 b]] w fun e w' => ∃ v' nx', e = .returned (.tuple #[.agg #[v', .int .i64 nx'], .bool true]) ∧ Hid (Played w0 p rs (its.length + 1) (nx + its.length + 1) v' nx' w') := by
  have h1 := begin3 h v (.int .i64 nx) (.int .i64 4) (.int .i64 a) (.int .i64 b)
  have CR := hide (burstThen a okA h1 hR hn hnx)
  obtain ⟨c0, c1, cf⟩ := h1.cellM (List.mem_cons_of_mem _ (List.mem_cons_self ..))
  obtain ⟨o0, o1, o2⟩ := h1.cellO (List.mem_cons_of_mem _ (List.mem_cons_of_mem _ (List.mem_cons_self ..)))
  obtain ⟨r0, r1, rf⟩ := h1.cellM (List.mem_cons_of_mem _ (List.mem_cons_of_mem _ (List.mem_cons_of_mem _ (List.mem_cons_self ..))))
  have HNX := hide hnx
  clear h h1 hR hn hnx okA _okB
  go_enter Try.func9, Try.ntmps9
  go_upto_region 2 with fail
  unfold three at *
  generalize (((w.alloc (.cells #[v, .int .i64 nx] 28)).alloc (.cells #[.int .i64 4, .int .i64 a, .int .i64 b] 32)).alloc (.cells #[.slice none 0 0, .int .i64 0] 28)) = W at *
  go_wp2_with fail
  refine (unhide CR).mono ?_
  rintro e u ⟨v', nx', yes, rfl, HA⟩
  obtain ⟨its', h2, l1, l2, l3, hthen⟩ := unhide HA
  obtain ⟨a5, c5, hv5⟩ := item_shape h2.items
  obtain ⟨L5, hL5⟩ : ∃ L5, its'.length = L5 := ⟨_, rfl⟩
  rw [hL5] at hv5
  subst hv5
  clear hL5
  have h3 := mid3 h2 (.slice a5 L5 c5) (.int .i64 nx')
  obtain ⟨s0, s1, sf⟩ := h2.cellM (List.mem_cons_of_mem _ (List.mem_cons_self ..))
  have CP := hide (hthen _ _ h3)
  obtain ⟨t0, t1, -⟩ := h3.cellM (List.mem_cons_of_mem _ (List.mem_cons_self ..))
  obtain ⟨-, t3, t4⟩ := h3.cellO (List.mem_cons_of_mem _ (List.mem_cons_of_mem _ (List.mem_cons_self ..)))
  have H3 := hide h3
  have HTH := hide hthen
  have HB := hide (And.intro l1 (And.intro l2 l3))
  clear CR HA h2 h3 c0 c1 cf o0 o1 o2 r0 r1 rf hthen l1 l2 l3 CP
  go_upto_region 14 with fail
  generalize ((u.setCell ⟨w.heap.size, 0, none⟩ (.slice a5 L5 c5)).setCell ⟨w.heap.size, 1, none⟩ (.int .i64 nx')) = u2 at *
  have CP : Hid (∀ q, Calls Try.prog 35 #[.pointer (some ⟨p, 0, none⟩), .int .i64 a] (u2.drewN q) fun e w' => e = .returned (.bool yes) ∧ (w'.cell? ⟨w.heap.size, 0, none⟩ = some (.slice a5 L5 c5) ∧ w'.cell? ⟨w.heap.size, 1, none⟩ = some (.int .i64 nx') ∧ w'.cell? ⟨w.heap.size + 1, 1, none⟩ = some (.int .i64 a)) ∧ (w'.cell? ⟨w.heap.size + 2, 0, none⟩ = some (.slice none 0 0) ∧ w'.cell? ⟨w.heap.size + 2, 1, none⟩ = some (.int .i64 0) ∧ ∀ o, w'.frozen? ⟨w.heap.size + 2, o, none⟩ = false) ∧ (((w'.setCell ⟨w.heap.size + 2, 0, none⟩ (.slice a5 L5 c5)).setCell ⟨w.heap.size + 2, 1, none⟩ (.int .i64 nx')).cell? ⟨w.heap.size, 0, none⟩ = some (.slice a5 L5 c5) ∧ ((w'.setCell ⟨w.heap.size + 2, 0, none⟩ (.slice a5 L5 c5)).setCell ⟨w.heap.size + 2, 1, none⟩ (.int .i64 nx')).cell? ⟨w.heap.size, 1, none⟩ = some (.int .i64 nx') ∧ ((w'.setCell ⟨w.heap.size + 2, 0, none⟩ (.slice a5 L5 c5)).setCell ⟨w.heap.size + 2, 1, none⟩ (.int .i64 nx')).cell? ⟨w.heap.size + 1, 1, none⟩ = some (.int .i64 a)) ∧
      Hid ((((w'.setCell ⟨w.heap.size + 2, 0, none⟩ (.slice a5 L5 c5)).setCell ⟨w.heap.size + 2, 1, none⟩ (.int .i64 nx')).cell? ⟨w.heap.size + 2, 0, none⟩ = some (.slice a5 L5 c5) ∧ ((w'.setCell ⟨w.heap.size + 2, 0, none⟩ (.slice a5 L5 c5)).setCell ⟨w.heap.size + 2, 1, none⟩ (.int .i64 nx')).cell? ⟨w.heap.size + 2, 1, none⟩ = some (.int .i64 nx')) ∧ Played w0 p rs (its.length + 1) (nx + its.length + 1) (.slice a5 L5 c5) nx' ((w'.setCell ⟨w.heap.size + 2, 0, none⟩ (.slice a5 L5 c5)).setCell ⟨w.heap.size + 2, 1, none⟩ (.int .i64 nx')))) := fun q => by
    refine (unhide HTH _ _ ((unhide H3).step (below_drewN (Below.refl _ _) q))).mono fun e w' hh => ⟨hh.1, ?_⟩
    obtain ⟨S', g1, g2⟩ := unhide hh.2
    obtain ⟨z1, z2, z3, z4⟩ := end3 g1 (.slice a5 L5 c5) (.int .i64 nx')
    obtain ⟨l1, l2, l3⟩ := unhide HB
    exact ⟨⟨(g1.cellM (List.mem_cons_of_mem _ (List.mem_cons_self ..))).1, (g1.cellM (List.mem_cons_of_mem _ (List.mem_cons_self ..))).2.1, (g1.cellO (List.mem_cons_of_mem _ (List.mem_cons_of_mem _ (List.mem_cons_self ..)))).2.1⟩, g1.cellM (List.mem_cons_of_mem _ (List.mem_cons_of_mem _ (List.mem_cons_of_mem _ (List.mem_cons_self ..)))), ⟨(z4.cellM (List.mem_cons_of_mem _ (List.mem_cons_of_mem _ (List.mem_cons_self ..)))).1, (z4.cellM (List.mem_cons_of_mem _ (List.mem_cons_of_mem _ (List.mem_cons_self ..)))).2.1, (z4.cellO (List.mem_cons_of_mem _ (List.mem_cons_of_mem _ (List.mem_cons_of_mem _ (List.mem_cons_self ..))))).2.1⟩, ⟨z2, z3⟩, S', its', z1, g2, l1, by have := unhide HNX; omega, l3⟩
  clear H3 HTH HB s0 s1 sf
  go_region_held3 (fun w' => w'.cell? ⟨w.heap.size, 0, none⟩ = some (.slice a5 L5 c5) ∧ w'.cell? ⟨w.heap.size, 1, none⟩ = some (.int .i64 nx') ∧ w'.cell? ⟨w.heap.size + 1, 1, none⟩ = some (.int .i64 a)) (first | exact ⟨dd0, dd1, dd2⟩ | exact ⟨t0, t1, t3⟩ | exact ⟨ee0, ee1, ee2⟩ | (go_keep; done)) ((go_at_call 35; refine (unhide CP _).mono ?_; rintro e w' ⟨rfl, ⟨dd0, dd1, dd2⟩, ⟨rr0, rr1, rrf⟩, ⟨ee0, ee1, ee2⟩, hE⟩))
  all_goals
    go_wp2_with fail
    (try simp only [Exit.inBlock, Exit.then])
    refine bodyPost_ret (res2 rfl _ _ (w.heap.size + 2) _ _ rfl (unhide hE).1.1 (unhide hE).1.2) rfl ?_
    exact ⟨_, nx', by first | rfl | simp, (unhide hE).2⟩
end Go.Proofs.Ytfhidghjmookhaa
