/- play at Same. -/
import Derived.Test.YtfhidghjmookhaaPlayFrame
import Derived.Deep.RegionHeld3
namespace Go.Proofs.Ytfhidghjmookhaa
open Go.RowKit Go.Maps

set_option maxHeartbeats 4000000 in
set_option maxRecDepth 100000 in
theorem playSame {w0 w : World} {p : Nat} {S : List (Part Int)} {rs : List Rw} {v : Value} {its : List (Int × Int)} {nx : Int} (a b : Int) (okA : okN a) (okB : okN b) (h : SideN w0 p S (itm v its :: rs) w) (hR : Rel S its nx) (hn : its.length ≤ 1000) (hnx : 0 ≤ nx ∧ nx ≤ 1000000) :
    Calls Try.prog 9 #[.pointer (some ⟨p, 0, none⟩), .agg #[v, .int .i64 nx], .agg #[.int .i64 6, .int .i64 a, .int .i64 b]] w fun e w' => ∃ v' nx', e = .returned (.tuple #[.agg #[v', .int .i64 nx'], .bool true]) ∧ Hid (Played w0 p rs (its.length + 1) (nx + its.length + 1) v' nx' w') := by
  obtain ⟨a5, c5, hv5⟩ := item_shape h.items
  obtain ⟨L5, hL5⟩ : ∃ L5, its.length = L5 := ⟨_, rfl⟩
  rw [hL5] at hv5
  subst hv5
  have h1 := begin3 h (.slice a5 L5 c5) (.int .i64 nx) (.int .i64 6) (.int .i64 a) (.int .i64 b)
  obtain ⟨c0, c1, cf⟩ := h1.cellM (List.mem_cons_of_mem _ (List.mem_cons_self ..))
  obtain ⟨o0, o1, o2⟩ := h1.cellO (List.mem_cons_of_mem _ (List.mem_cons_of_mem _ (List.mem_cons_self ..)))
  have hn6 : its.length ≤ 1000000 := by omega
  obtain ⟨pl, hpl⟩ := places its
  have CA : Hid (∀ (kk : Int) (u : World), Hid (Below (three w (.slice a5 L5 c5) (.int .i64 nx) (.int .i64 6) (.int .i64 a) (.int .i64 b)).heap.size (three w (.slice a5 L5 c5) (.int .i64 nx) (.int .i64 6) (.int .i64 a) (.int .i64 b)) u) → Calls Try.prog 36 #[.agg #[.slice a5 L5 c5, .int .i64 nx], .int .i64 kk] u fun e w' => e = .returned (.int .i64 (pl kk)) ∧ (w'.cell? ⟨w.heap.size, 0, none⟩ = some (.slice a5 L5 c5) ∧ w'.cell? ⟨w.heap.size, 1, none⟩ = some (.int .i64 nx) ∧ w'.cell? ⟨w.heap.size + 1, 1, none⟩ = some (.int .i64 a) ∧ w'.cell? ⟨w.heap.size + 1, 2, none⟩ = some (.int .i64 b)) ∧ Hid (Below (three w (.slice a5 L5 c5) (.int .i64 nx) (.int .i64 6) (.int .i64 a) (.int .i64 b)).heap.size (three w (.slice a5 L5 c5) (.int .i64 nx) (.int .i64 6) (.int .i64 a) (.int .i64 b)) w')) := fun kk u hu => by
    have h2 := h1.step (unhide hu)
    refine (refFind nx kk u h2.items hn6).mono fun e w' hh => ?_
    obtain ⟨r, he, hr⟩ := hh
    obtain ⟨r1, r2⟩ := unhide hr
    have h3 := h2.step r2
    exact ⟨by rw [he, at_uniq r1 (hpl kk)], ⟨(h3.cellM (List.mem_cons_of_mem _ (List.mem_cons_self ..))).1, (h3.cellM (List.mem_cons_of_mem _ (List.mem_cons_self ..))).2.1, (h3.cellO (List.mem_cons_of_mem _ (List.mem_cons_of_mem _ (List.mem_cons_self ..)))).2.1, (h3.cellO (List.mem_cons_of_mem _ (List.mem_cons_of_mem _ (List.mem_cons_self ..)))).2.2⟩, (unhide hu).trans (r2.mono (unhide hu).size)⟩
  have HEND : Hid (∀ u, Below (three w (.slice a5 L5 c5) (.int .i64 nx) (.int .i64 6) (.int .i64 a) (.int .i64 b)).heap.size (three w (.slice a5 L5 c5) (.int .i64 nx) (.int .i64 6) (.int .i64 a) (.int .i64 b)) u → (u.cell? ⟨w.heap.size, 0, none⟩ = some (.slice a5 L5 c5) ∧ u.cell? ⟨w.heap.size, 1, none⟩ = some (.int .i64 nx) ∧ u.cell? ⟨w.heap.size + 1, 1, none⟩ = some (.int .i64 a) ∧ u.cell? ⟨w.heap.size + 1, 2, none⟩ = some (.int .i64 b)) ∧ (u.cell? ⟨w.heap.size + 2, 0, none⟩ = some (.slice none 0 0) ∧ u.cell? ⟨w.heap.size + 2, 1, none⟩ = some (.int .i64 0) ∧ ∀ o, u.frozen? ⟨w.heap.size + 2, o, none⟩ = false) ∧ Hid (((u.drew.setCell ⟨w.heap.size + 2, 0, none⟩ (.slice a5 L5 c5)).setCell ⟨w.heap.size + 2, 1, none⟩ (.int .i64 nx)).cell? ⟨w.heap.size, 0, none⟩ = some (.slice a5 L5 c5) ∧ ((u.drew.setCell ⟨w.heap.size + 2, 0, none⟩ (.slice a5 L5 c5)).setCell ⟨w.heap.size + 2, 1, none⟩ (.int .i64 nx)).cell? ⟨w.heap.size, 1, none⟩ = some (.int .i64 nx) ∧ ((u.drew.setCell ⟨w.heap.size + 2, 0, none⟩ (.slice a5 L5 c5)).setCell ⟨w.heap.size + 2, 1, none⟩ (.int .i64 nx)).cell? ⟨w.heap.size + 1, 1, none⟩ = some (.int .i64 a) ∧ ((u.drew.setCell ⟨w.heap.size + 2, 0, none⟩ (.slice a5 L5 c5)).setCell ⟨w.heap.size + 2, 1, none⟩ (.int .i64 nx)).cell? ⟨w.heap.size + 1, 2, none⟩ = some (.int .i64 b)) ∧
      Calls Try.prog 29 #[.pointer (some ⟨p, 0, none⟩), .int .i64 a, .int .i64 b] u.drew (fun e w' => e = .returned (.bool ((fOf S a).isSome && fOf S a == fOf S b)) ∧ w' = u.drew) ∧
      Hid (∀ g j, a5 = some ⟨g, 0, none⟩ → j < its.length → u.cell? ⟨g, j * 2 + 1, none⟩ = some (.int .i64 (hi its j)) ∧ ((u.drew.setCell ⟨w.heap.size + 2, 0, none⟩ (.slice a5 L5 c5)).setCell ⟨w.heap.size + 2, 1, none⟩ (.int .i64 nx)).cell? ⟨g, j * 2 + 1, none⟩ = some (.int .i64 (hi its j))) ∧
      Hid ((((u.drew.setCell ⟨w.heap.size + 2, 0, none⟩ (.slice a5 L5 c5)).setCell ⟨w.heap.size + 2, 1, none⟩ (.int .i64 nx)).cell? ⟨w.heap.size + 2, 0, none⟩ = some (.slice a5 L5 c5) ∧ ((u.drew.setCell ⟨w.heap.size + 2, 0, none⟩ (.slice a5 L5 c5)).setCell ⟨w.heap.size + 2, 1, none⟩ (.int .i64 nx)).cell? ⟨w.heap.size + 2, 1, none⟩ = some (.int .i64 nx)) ∧ Played w0 p rs (its.length + 1) (nx + its.length + 1) (.slice a5 L5 c5) nx ((u.drew.setCell ⟨w.heap.size + 2, 0, none⟩ (.slice a5 L5 c5)).setCell ⟨w.heap.size + 2, 1, none⟩ (.int .i64 nx)))) := fun u hu => by
    have h2 := h1.step hu
    have h2d := h2.step (below_drewN (Below.refl _ u) 1)
    obtain ⟨z1, z2, z3, z4⟩ := end3 h2d (.slice a5 L5 c5) (.int .i64 nx)
    refine ⟨⟨(h2.cellM (List.mem_cons_of_mem _ (List.mem_cons_self ..))).1, (h2.cellM (List.mem_cons_of_mem _ (List.mem_cons_self ..))).2.1, (h2.cellO (List.mem_cons_of_mem _ (List.mem_cons_of_mem _ (List.mem_cons_self ..)))).2.1, (h2.cellO (List.mem_cons_of_mem _ (List.mem_cons_of_mem _ (List.mem_cons_self ..)))).2.2⟩, h2.cellM (List.mem_cons_of_mem _ (List.mem_cons_of_mem _ (List.mem_cons_of_mem _ (List.mem_cons_self ..)))), ⟨(z4.cellM (List.mem_cons_of_mem _ (List.mem_cons_of_mem _ (List.mem_cons_self ..)))).1, (z4.cellM (List.mem_cons_of_mem _ (List.mem_cons_of_mem _ (List.mem_cons_self ..)))).2.1, (z4.cellO (List.mem_cons_of_mem _ (List.mem_cons_of_mem _ (List.mem_cons_of_mem _ (List.mem_cons_self ..))))).2.1, (z4.cellO (List.mem_cons_of_mem _ (List.mem_cons_of_mem _ (List.mem_cons_of_mem _ (List.mem_cons_self ..))))).2.2⟩, sameLN a b h2d.live okA okB, fun g j hg hj => ?_, ⟨z2, z3⟩, S, its, z1, hR, by omega, hnx.1, by omega⟩
    subst hg
    have k1 := h2.items
    have k2 := z1.items
    rw [hL5] at k1 k2 hj
    exact ⟨(owns_cells k1 j hj).2, (owns_cells k2 j hj).2⟩
  have HF := hide h1.fam
  have HIT : Hid (L5 = 0 ∧ L5 = 0 ∨ ∃ g cap, (Value.slice a5 L5 c5) = .slice (some ⟨g, 0, none⟩) L5 cap) := by
    have h0 := h.items
    rw [hL5] at h0
    rcases h0.2 with ⟨-, h3⟩ | ⟨g, cap, cur, e, -⟩
    · exact .inl ⟨h3, h3⟩
    · exact .inr ⟨g, cap, e⟩
  have HR := hide hR
  have HPL := hide hpl
  have HL5 := hide hL5
  clear h h1 hR hn hnx okA okB hn6 hpl hL5
  go_enter Try.func9, Try.ntmps9
  go_upto_region 2 with fail
  unfold three at *
  generalize (((w.alloc (.cells #[.slice a5 L5 c5, .int .i64 nx] 28)).alloc (.cells #[.int .i64 6, .int .i64 a, .int .i64 b] 32)).alloc (.cells #[.slice none 0 0, .int .i64 0] 28)) = W at *
  have HD : Hid (Below W.heap.size W W.drew) := below_drewN (Below.refl _ _) 1
  go_upto_region 20 with fail
  go_cut [12, 13] from 123 to 130 (fun s12 s13 wq => s12 = .int .i64 (pl a) ∧ s13 = .int .i64 (pl b) ∧ Hid (Below W.heap.size W wq))
  case first =>
    go_region_held3 (fun w' => w'.cell? ⟨w.heap.size, 0, none⟩ = some (.slice a5 L5 c5) ∧ w'.cell? ⟨w.heap.size, 1, none⟩ = some (.int .i64 nx) ∧ w'.cell? ⟨w.heap.size + 1, 1, none⟩ = some (.int .i64 a) ∧ w'.cell? ⟨w.heap.size + 1, 2, none⟩ = some (.int .i64 b)) (first | exact ⟨dd0, dd1, dd2, dd3⟩ | exact ⟨c0, c1, o1, o2⟩ | (go_keep; done)) ((go_at_call 36; refine (unhide CA _ _ (by first | assumption | exact HD)).mono ?_; rintro e w' ⟨rfl, ⟨dd0, dd1, dd2, dd3⟩, hT⟩))
    all_goals
      go_wp2_with fail
      go_meet
      case rel => exact ⟨rfl, rfl, unhide hT⟩
  case rest =>
    obtain ⟨rfl, rfl, HT⟩ := hcut
    rename World => u
    obtain ⟨⟨d0, d1, d2, d3⟩, ⟨e0, e1, ef⟩, HS3, CS0, HMK, HE⟩ := unhide HEND u (unhide HT)
    clear CA HEND HD c0 c1 cf o0 o1 o2
    rcases fOf_in (k := a) (unhide HF) with ⟨x, hx, hax, fa⟩ | ⟨na, fa⟩
    · obtain ⟨i, hi1, hia⟩ := ((unhide HR).keys a).1 ⟨x, hx, hax⟩
      have ea : pl a = (i : Int) := at_uniq (unhide HPL a) ((unhide HR).at hi1 hia)
      rcases fOf_in (k := b) (unhide HF) with ⟨y, hy, hby, fb⟩ | ⟨nb, fb⟩
      · obtain ⟨j, hj1, hjb⟩ := ((unhide HR).keys b).1 ⟨y, hy, hby⟩
        have eb : pl b = (j : Int) := at_uniq (unhide HPL b) ((unhide HR).at hj1 hjb)
        have hbb : ((fOf S a).isSome && fOf S a == fOf S b) = (hi its i == hi its j) := by
          rw [fa, fb]
          have hm := (unhide HR).marks i j hi1 hj1
          rw [hia, hjb] at hm
          by_cases e : hi its i = hi its j
          · have hs := (sm_iff (unhide HF) hx hax b).1 (hm.1 e)
            have hxy : x = y := by
              rcases (unhide HF).of hx hy with e2 | hA
              · exact e2
              · exact absurd hby (hA.2.2 b hs)
            rw [beq_iff_eq.2 e, hxy]
            simp
          · have hxy : ¬ x.q = y.q := fun e2 => by
              have h3 : x = y := by
                rcases (unhide HF).of hx hy with e3 | hA
                · exact e3
                · exact absurd e2 hA.1
              exact e (hm.2 ⟨x, hx, hax, by rw [h3]; exact hby⟩)
            rw [beq_eq_false_iff_ne.2 e]
            simp [hxy]
        obtain ⟨g, hg⟩ : ∃ g, a5 = some ⟨g, 0, none⟩ := by
          have := unhide HL5
          have h0 : ∃ g c, (Value.slice a5 L5 c5) = .slice (some ⟨g, 0, none⟩) L5 c := by
            rcases HIT.out with ⟨e1, e2⟩ | ⟨g, cap, e1⟩
            · omega
            · exact ⟨g, cap, e1⟩
          obtain ⟨g, c, e⟩ := h0
          simp at e
          exact ⟨g, e.1⟩
        obtain ⟨m1, m1e⟩ := unhide HMK g i hg hi1
        obtain ⟨m2, m2e⟩ := unhide HMK g j hg hj1
        rw [hbb] at CS0
        have CS := hide CS0
        have hiz : (i : Int) < (L5 : Int) := by have := unhide HL5; omega
        have hjz : (j : Int) < (L5 : Int) := by have := unhide HL5; omega
        subst hg
        have HS6 := hide (And.intro m1e m2e)
        rw [ea, eb]
        generalize hi its i = ma at *
        generalize hi its j = mb at *
        clear CS0 HMK HF HR HPL hbb ea eb hx hax fa hi1 hia hy hby fb hj1 hjb m1e m2e
        go_upto_region 21 with fail
        refine wp_region_held_drew (S := fun w' => w'.cell? ⟨w.heap.size, 0, none⟩ = some (.slice (some ⟨g, 0, none⟩) L5 c5) ∧ w'.cell? ⟨w.heap.size, 1, none⟩ = some (.int .i64 nx) ∧ w'.cell? ⟨w.heap.size + 1, 1, none⟩ = some (.int .i64 a) ∧ w'.cell? ⟨w.heap.size + 1, 2, none⟩ = some (.int .i64 b) ∧ w'.cell? ⟨g, i * 2 + 1, none⟩ = some (.int .i64 ma) ∧ w'.cell? ⟨g, j * 2 + 1, none⟩ = some (.int .i64 mb)) (by kernel_rfl) ⟨d0, d1, d2, d3, m1, m2⟩ (fun hHeld => ?_)
        refine takeD (i := 0) (v := ?av0) (some 131) rfl rfl (by kernel_rfl) (by kernel_rfl) (by kernel_rfl) (fun _ _ _ h => h) (Or.inl ⟨by rfl, ?ah0⟩) (by assumption) ?ar0
        case ah0 => (intro u hSu; (try dsimp only at hSu); go_simp; first | done | with_reducible rfl)
        (try simp only [Act.put, List.setIfInBounds_toArray, List.set_cons_zero, List.set_cons_succ])
        refine takeD (i := 1) (v := ?av1) (some 132) rfl rfl (by kernel_rfl) (by kernel_rfl) (by kernel_rfl) (fun _ _ _ h => h) (Or.inl ⟨by rfl, ?ah1⟩) (by assumption) ?ar1
        case ah1 => (intro u hSu; (try dsimp only at hSu); go_simp; first | done | with_reducible rfl)
        (try simp only [Act.put, List.setIfInBounds_toArray, List.set_cons_zero, List.set_cons_succ])
        refine takeD (i := 2) (v := ?av2) (some 133) rfl rfl (by kernel_rfl) (by kernel_rfl) (by kernel_rfl) (fun _ _ _ h => h) (Or.inl ⟨by rfl, ?ah2⟩) (by assumption) ?ar2
        case ah2 => (intro u hSu; (try dsimp only at hSu); go_simp; first | done | with_reducible rfl)
        (try simp only [Act.put, List.setIfInBounds_toArray, List.set_cons_zero, List.set_cons_succ])
        refine takeD (i := 3) (v := ?av3) (some 134) rfl rfl (by kernel_rfl) (by kernel_rfl) (by kernel_rfl) (fun _ _ _ h => h) (Or.inl ⟨by rfl, ?ah3⟩) (by assumption) ?ar3
        case ah3 => (intro u hSu; (try dsimp only at hSu); go_simp; first | done | with_reducible rfl)
        (try simp only [Act.put, List.setIfInBounds_toArray, List.set_cons_zero, List.set_cons_succ])
        refine takeD (i := 4) (v := ?av4) (some 135) rfl rfl (by kernel_rfl) (by kernel_rfl) (by kernel_rfl) (fun _ _ _ h => h) (Or.inl ⟨by rfl, ?ah4⟩) (by assumption) ?ar4
        case ah4 => (intro u hSu; (try dsimp only at hSu); go_simp; first | done | with_reducible rfl)
        (try simp only [Act.put, List.setIfInBounds_toArray, List.set_cons_zero, List.set_cons_succ])
        refine takeD (i := 5) (v := ?av5) (some 136) rfl rfl (by kernel_rfl) (by kernel_rfl) (by kernel_rfl) (fun _ _ _ h => h) (Or.inl ⟨by rfl, ?ah5⟩) (by assumption) ?ar5
        case ah5 => (intro u hSu; (try dsimp only at hSu); go_simp; first | done | with_reducible rfl)
        (try simp only [Act.put, List.setIfInBounds_toArray, List.set_cons_zero, List.set_cons_succ])
        refine takeD (i := 7) (v := ?av7) (some 138) rfl rfl (by kernel_rfl) (by kernel_rfl) (by kernel_rfl) (fun _ _ _ h => h) (Or.inl ⟨by rfl, ?ah7⟩) (by assumption) ?ar7
        case ah7 => (intro u hSu; (try dsimp only at hSu); go_simp; first | done | with_reducible rfl)
        (try simp only [Act.put, List.setIfInBounds_toArray, List.set_cons_zero, List.set_cons_succ])
        refine takeD (i := 8) (v := ?av8) (some 139) rfl rfl (by kernel_rfl) (by kernel_rfl) (by kernel_rfl) (fun _ _ _ h => h) (Or.inl ⟨by rfl, ?ah8⟩) (by assumption) ?ar8
        case ah8 => (intro u hSu; (try dsimp only at hSu); go_simp; first | done | with_reducible rfl)
        (try simp only [Act.put, List.setIfInBounds_toArray, List.set_cons_zero, List.set_cons_succ])
        refine wpAnyH_ready (rs := [6]) (by kernel_rfl) (by simp) ?_
        refine AllReadyH.cons rfl (fun K hK => ?_) AllReadyH.nil
        go_simp
        refine (unhide CS).mono ?_
        rintro e w' ⟨rfl, rfl⟩
        (try go_wp2_with fail)
        refine hK.out _ _ ⟨d0, d1, d2, d3, m1, m2⟩ (fun hHeld => ?_)
        clear hK K
        (try simp only [Act.put, List.setIfInBounds_toArray, List.set_cons_zero, List.set_cons_succ])
        refine takeD (i := 9) (v := ?av9) (some 140) rfl rfl (by kernel_rfl) (by kernel_rfl) (by kernel_rfl) (fun _ _ _ h => h) (Or.inl ⟨by rfl, ?ah9⟩) (by assumption) ?ar9
        case ah9 => (intro u hSu; (try dsimp only at hSu); go_simp; first | done | with_reducible rfl)
        (try simp only [Act.put, List.setIfInBounds_toArray, List.set_cons_zero, List.set_cons_succ])
        refine takeD (i := 10) (v := ?av10) (some 141) rfl rfl (by kernel_rfl) (by kernel_rfl) (by kernel_rfl) (fun _ _ _ h => h) (Or.inl ⟨by rfl, ?ah10⟩) (by assumption) ?ar10
        case ah10 => (intro u hSu; (try dsimp only at hSu); go_simp; first | done | with_reducible rfl)
        (try simp only [Act.put, List.setIfInBounds_toArray, List.set_cons_zero, List.set_cons_succ])
        refine takeD (i := 11) (v := ?av11) (some 142) rfl rfl (by kernel_rfl) (by kernel_rfl) (by kernel_rfl) (fun _ _ _ h => h) (Or.inl ⟨by rfl, ?ah11⟩) (by assumption) ?ar11
        case ah11 => (intro u hSu; (try dsimp only at hSu); go_simp; first | done | with_reducible rfl)
        (try simp only [Act.put, List.setIfInBounds_toArray, List.set_cons_zero, List.set_cons_succ])
        refine takeD (i := 12) (v := ?av12) (some 143) rfl rfl (by kernel_rfl) (by kernel_rfl) (by kernel_rfl) (fun _ _ _ h => h) (Or.inl ⟨by rfl, ?ah12⟩) (by assumption) ?ar12
        case ah12 => (intro u hSu; (try dsimp only at hSu); go_simp; first | done | with_reducible rfl)
        (try simp only [Act.put, List.setIfInBounds_toArray, List.set_cons_zero, List.set_cons_succ])
        refine takeD (i := 13) (v := ?av13) (some 144) rfl rfl (by kernel_rfl) (by kernel_rfl) (by kernel_rfl) (fun _ _ _ h => h) (Or.inl ⟨by rfl, ?ah13⟩) (by assumption) ?ar13
        case ah13 => (intro u hSu; (try dsimp only at hSu); go_simp; first | done | with_reducible rfl)
        (try simp only [Act.put, List.setIfInBounds_toArray, List.set_cons_zero, List.set_cons_succ])
        refine takeD (i := 14) (v := ?av14) (some 145) rfl rfl (by kernel_rfl) (by kernel_rfl) (by kernel_rfl) (fun _ _ _ h => h) (Or.inl ⟨by rfl, ?ah14⟩) (by assumption) ?ar14
        case ah14 => (intro u hSu; (try dsimp only at hSu); go_simp; first | done | with_reducible rfl)
        (try simp only [Act.put, List.setIfInBounds_toArray, List.set_cons_zero, List.set_cons_succ])
        refine takeD (i := 15) (v := ?av15) (some 146) rfl rfl (by kernel_rfl) (by kernel_rfl) (by kernel_rfl) (fun _ _ _ h => h) (Or.inl ⟨by rfl, ?ah15⟩) (by assumption) ?ar15
        case ah15 => (intro u hSu; (try dsimp only at hSu); go_simp; first | done | with_reducible rfl)
        (try simp only [Act.put, List.setIfInBounds_toArray, List.set_cons_zero, List.set_cons_succ])
        refine takeD (i := 16) (v := ?av16) (some 147) rfl rfl (by kernel_rfl) (by kernel_rfl) (by kernel_rfl) (fun _ _ _ h => h) (Or.inl ⟨by rfl, ?ah16⟩) (by assumption) ?ar16
        case ah16 => (intro u hSu; (try dsimp only at hSu); go_simp; first | done | with_reducible rfl)
        (try simp only [Act.put, List.setIfInBounds_toArray, List.set_cons_zero, List.set_cons_succ])
        refine takeD (i := 17) (v := ?av17) (some 148) rfl rfl (by kernel_rfl) (by kernel_rfl) (by kernel_rfl) (fun _ _ _ h => h) (Or.inl ⟨by rfl, ?ah17⟩) (by assumption) ?ar17
        case ah17 => (intro u hSu; (try dsimp only at hSu); go_simp; first | done | with_reducible rfl)
        (try simp only [Act.put, List.setIfInBounds_toArray, List.set_cons_zero, List.set_cons_succ])
        refine takeD (i := 18) (v := ?av18) (some 149) rfl rfl (by kernel_rfl) (by kernel_rfl) (by kernel_rfl) (fun _ _ _ h => h) (Or.inl ⟨by rfl, ?ah18⟩) (by assumption) ?ar18
        case ah18 => (intro u hSu; (try dsimp only at hSu); go_simp; first | done | with_reducible rfl)
        (try simp only [Act.put, List.setIfInBounds_toArray, List.set_cons_zero, List.set_cons_succ])
        refine takeD (i := 19) (v := ?av19) (some 150) rfl rfl (by kernel_rfl) (by kernel_rfl) (by kernel_rfl) (fun _ _ _ h => h) (Or.inl ⟨by rfl, ?ah19⟩) (by assumption) ?ar19
        case ah19 => (intro u hSu; (try dsimp only at hSu); go_simp; first | done | with_reducible rfl)
        (try simp only [Act.put, List.setIfInBounds_toArray, List.set_cons_zero, List.set_cons_succ])
        refine takeD (i := 20) (v := ?av20) (some 151) rfl rfl (by kernel_rfl) (by kernel_rfl) (by kernel_rfl) (fun _ _ _ h => h) (Or.inl ⟨by rfl, ?ah20⟩) (by assumption) ?ar20
        case ah20 => (intro u hSu; (try dsimp only at hSu); go_simp; first | done | with_reducible rfl)
        (try simp only [Act.put, List.setIfInBounds_toArray, List.set_cons_zero, List.set_cons_succ])
        refine takeD (i := 21) (v := ?av21) (some 152) rfl rfl (by kernel_rfl) (by kernel_rfl) (by kernel_rfl) (fun _ _ _ h => h) (Or.inl ⟨by rfl, ?ah21⟩) (by assumption) ?ar21
        case ah21 => (intro u hSu; (try dsimp only at hSu); go_simp; first | done | with_reducible rfl)
        (try simp only [Act.put, List.setIfInBounds_toArray, List.set_cons_zero, List.set_cons_succ])
        refine takeD (i := 22) (v := ?av22) (some 153) rfl rfl (by kernel_rfl) (by kernel_rfl) (by kernel_rfl) (fun _ _ _ h => h) (Or.inl ⟨by rfl, ?ah22⟩) (by assumption) ?ar22
        case ah22 => (intro u hSu; (try dsimp only at hSu); go_simp; first | done | with_reducible rfl)
        (try simp only [Act.put, List.setIfInBounds_toArray, List.set_cons_zero, List.set_cons_succ])
        refine takeD (i := 23) (v := ?av23) (some 154) rfl rfl (by kernel_rfl) (by kernel_rfl) (by kernel_rfl) (fun _ _ _ h => h) (Or.inl ⟨by rfl, ?ah23⟩) (by assumption) ?ar23
        case ah23 => (intro u hSu; (try dsimp only at hSu); go_simp; first | done | with_reducible rfl)
        (try simp only [Act.put, List.setIfInBounds_toArray, List.set_cons_zero, List.set_cons_succ])
        refine takeD (i := 24) (v := ?av24) (some 155) rfl rfl (by kernel_rfl) (by kernel_rfl) (by kernel_rfl) (fun _ _ _ h => h) (Or.inl ⟨by rfl, ?ah24⟩) (by assumption) ?ar24
        case ah24 => (intro u hSu; (try dsimp only at hSu); go_simp; first | done | with_reducible rfl)
        (try simp only [Act.put, List.setIfInBounds_toArray, List.set_cons_zero, List.set_cons_succ])
        refine takeD (i := 25) (v := ?av25) (some 156) rfl rfl (by kernel_rfl) (by kernel_rfl) (by kernel_rfl) (fun _ _ _ h => h) (Or.inl ⟨by rfl, ?ah25⟩) (by assumption) ?ar25
        case ah25 => (intro u hSu; (try dsimp only at hSu); go_simp; first | done | with_reducible rfl)
        (try simp only [Act.put, List.setIfInBounds_toArray, List.set_cons_zero, List.set_cons_succ])
        refine takeD (i := 26) (v := ?av26) (some 157) rfl rfl (by kernel_rfl) (by kernel_rfl) (by kernel_rfl) (fun _ _ _ h => h) (Or.inl ⟨by rfl, ?ah26⟩) (by assumption) ?ar26
        case ah26 => (intro u hSu; (try dsimp only at hSu); go_simp; first | done | with_reducible rfl)
        (try simp only [Act.put, List.setIfInBounds_toArray, List.set_cons_zero, List.set_cons_succ])
        refine takeD (i := 27) (v := ?av27) (some 158) rfl rfl (by kernel_rfl) (by kernel_rfl) (by kernel_rfl) (fun _ _ _ h => h) (Or.inl ⟨by rfl, ?ah27⟩) (by assumption) ?ar27
        case ah27 => (intro u hSu; (try dsimp only at hSu); go_simp; first | done | with_reducible rfl)
        (try simp only [Act.put, List.setIfInBounds_toArray, List.set_cons_zero, List.set_cons_succ])
        refine takeD (i := 28) (v := ?av28) (some 159) rfl rfl (by kernel_rfl) (by kernel_rfl) (by kernel_rfl) (fun _ _ _ h => h) (Or.inl ⟨by rfl, ?ah28⟩) (by assumption) ?ar28
        case ah28 => (intro u hSu; (try dsimp only at hSu); go_simp; first | done | with_reducible rfl)
        (try simp only [Act.put, List.setIfInBounds_toArray, List.set_cons_zero, List.set_cons_succ])
        refine wpAnyH_ready (rs := [29]) (by kernel_rfl) (by simp) ?_
        refine AllReadyH.cons rfl (fun K hK => ?_) AllReadyH.nil
        go_simp
        refine hK.out _ _ ⟨(unhide HS3).1, (unhide HS3).2.1, (unhide HS3).2.2.1, (unhide HS3).2.2.2, (unhide HS6).1, (unhide HS6).2⟩ (fun hHeld => ?_)
        clear hK K
        (try simp only [Act.put, List.setIfInBounds_toArray, List.set_cons_zero, List.set_cons_succ])
        refine takeD (i := 30) (v := ?av30) (some 7) rfl rfl (by kernel_rfl) (by kernel_rfl) (by kernel_rfl) (fun _ _ _ h => h) (Or.inl ⟨by rfl, ?ah30⟩) (by assumption) ?ar30
        case ah30 => (intro u hSu; (try dsimp only at hSu); go_simp; first | done | with_reducible rfl)
        (try simp only [Act.put, List.setIfInBounds_toArray, List.set_cons_zero, List.set_cons_succ])
        refine wpAnyH_done (by kernel_rfl) ?_ _
        go_wp2_with fail
        (try simp only [Exit.inBlock, Exit.then])
        refine bodyPost_ret (res2 rfl _ _ (w.heap.size + 2) _ _ rfl (unhide HE).1.1 (unhide HE).1.2) rfl ?_
        exact ⟨_, nx, by first | rfl | simp, (unhide HE).2⟩
      · have eb : pl b = -1 := by
          rcases unhide HPL b with ⟨e, -⟩ | ⟨j, j1, -, j2, -⟩
          · exact e
          · exact absurd (((unhide HR).keys b).2 ⟨j, j1, j2⟩) nb
        rw [fa, fb] at CS0
        have CS := hide CS0
        rw [ea, eb]
        clear CS0 HMK HF HR HPL ea eb hx hax fa hi1 hia fb nb
        go_upto_region 21 with fail
        refine wp_region_held_drew (S := fun w' => w'.cell? ⟨w.heap.size, 0, none⟩ = some (.slice a5 L5 c5) ∧ w'.cell? ⟨w.heap.size, 1, none⟩ = some (.int .i64 nx) ∧ w'.cell? ⟨w.heap.size + 1, 1, none⟩ = some (.int .i64 a) ∧ w'.cell? ⟨w.heap.size + 1, 2, none⟩ = some (.int .i64 b)) (by kernel_rfl) ⟨d0, d1, d2, d3⟩ (fun hHeld => ?_)
        refine takeD (i := 0) (v := ?cv0) (some 131) rfl rfl (by kernel_rfl) (by kernel_rfl) (by kernel_rfl) (fun _ _ _ h => h) (Or.inl ⟨by rfl, ?ch0⟩) (by assumption) ?cr0
        case ch0 => (intro u hSu; (try dsimp only at hSu); go_simp; first | done | with_reducible rfl)
        (try simp only [Act.put, List.setIfInBounds_toArray, List.set_cons_zero, List.set_cons_succ])
        refine takeD (i := 1) (v := ?cv1) (some 132) rfl rfl (by kernel_rfl) (by kernel_rfl) (by kernel_rfl) (fun _ _ _ h => h) (Or.inl ⟨by rfl, ?ch1⟩) (by assumption) ?cr1
        case ch1 => (intro u hSu; (try dsimp only at hSu); go_simp; first | done | with_reducible rfl)
        (try simp only [Act.put, List.setIfInBounds_toArray, List.set_cons_zero, List.set_cons_succ])
        refine takeD (i := 2) (v := ?cv2) (some 133) rfl rfl (by kernel_rfl) (by kernel_rfl) (by kernel_rfl) (fun _ _ _ h => h) (Or.inl ⟨by rfl, ?ch2⟩) (by assumption) ?cr2
        case ch2 => (intro u hSu; (try dsimp only at hSu); go_simp; first | done | with_reducible rfl)
        (try simp only [Act.put, List.setIfInBounds_toArray, List.set_cons_zero, List.set_cons_succ])
        refine takeD (i := 3) (v := ?cv3) (some 134) rfl rfl (by kernel_rfl) (by kernel_rfl) (by kernel_rfl) (fun _ _ _ h => h) (Or.inl ⟨by rfl, ?ch3⟩) (by assumption) ?cr3
        case ch3 => (intro u hSu; (try dsimp only at hSu); go_simp; first | done | with_reducible rfl)
        (try simp only [Act.put, List.setIfInBounds_toArray, List.set_cons_zero, List.set_cons_succ])
        refine takeD (i := 4) (v := ?cv4) (some 135) rfl rfl (by kernel_rfl) (by kernel_rfl) (by kernel_rfl) (fun _ _ _ h => h) (Or.inl ⟨by rfl, ?ch4⟩) (by assumption) ?cr4
        case ch4 => (intro u hSu; (try dsimp only at hSu); go_simp; first | done | with_reducible rfl)
        (try simp only [Act.put, List.setIfInBounds_toArray, List.set_cons_zero, List.set_cons_succ])
        refine takeD (i := 5) (v := ?cv5) (some 136) rfl rfl (by kernel_rfl) (by kernel_rfl) (by kernel_rfl) (fun _ _ _ h => h) (Or.inl ⟨by rfl, ?ch5⟩) (by assumption) ?cr5
        case ch5 => (intro u hSu; (try dsimp only at hSu); go_simp; first | done | with_reducible rfl)
        (try simp only [Act.put, List.setIfInBounds_toArray, List.set_cons_zero, List.set_cons_succ])
        refine takeD (i := 7) (v := ?cv7) (some 138) rfl rfl (by kernel_rfl) (by kernel_rfl) (by kernel_rfl) (fun _ _ _ h => h) (Or.inl ⟨by rfl, ?ch7⟩) (by assumption) ?cr7
        case ch7 => (intro u hSu; (try dsimp only at hSu); go_simp; first | done | with_reducible rfl)
        (try simp only [Act.put, List.setIfInBounds_toArray, List.set_cons_zero, List.set_cons_succ])
        refine takeD (i := 8) (v := ?cv8) (some 139) rfl rfl (by kernel_rfl) (by kernel_rfl) (by kernel_rfl) (fun _ _ _ h => h) (Or.inl ⟨by rfl, ?ch8⟩) (by assumption) ?cr8
        case ch8 => (intro u hSu; (try dsimp only at hSu); go_simp; first | done | with_reducible rfl)
        (try simp only [Act.put, List.setIfInBounds_toArray, List.set_cons_zero, List.set_cons_succ])
        refine wpAnyH_ready (rs := [6]) (by kernel_rfl) (by simp) ?_
        refine AllReadyH.cons rfl (fun K hK => ?_) AllReadyH.nil
        go_simp
        refine (unhide CS).mono ?_
        rintro e w' ⟨rfl, rfl⟩
        (try go_wp2_with fail)
        refine hK.out _ _ ⟨d0, d1, d2, d3⟩ (fun hHeld => ?_)
        clear hK K
        (try simp only [Act.put, List.setIfInBounds_toArray, List.set_cons_zero, List.set_cons_succ])
        refine takeD (i := 9) (v := ?cv9) (some 140) rfl rfl (by kernel_rfl) (by kernel_rfl) (by kernel_rfl) (fun _ _ _ h => h) (Or.inl ⟨by rfl, ?ch9⟩) (by assumption) ?cr9
        case ch9 => (intro u hSu; (try dsimp only at hSu); go_simp; first | done | with_reducible rfl)
        (try simp only [Act.put, List.setIfInBounds_toArray, List.set_cons_zero, List.set_cons_succ])
        refine takeD (i := 10) (v := ?cv10) (some 141) rfl rfl (by kernel_rfl) (by kernel_rfl) (by kernel_rfl) (fun _ _ _ h => h) (Or.inl ⟨by rfl, ?ch10⟩) (by assumption) ?cr10
        case ch10 => (intro u hSu; (try dsimp only at hSu); go_simp; first | done | with_reducible rfl)
        (try simp only [Act.put, List.setIfInBounds_toArray, List.set_cons_zero, List.set_cons_succ])
        refine takeD (i := 11) (v := ?cv11) (some 142) rfl rfl (by kernel_rfl) (by kernel_rfl) (by kernel_rfl) (fun _ _ _ h => h) (Or.inl ⟨by rfl, ?ch11⟩) (by assumption) ?cr11
        case ch11 => (intro u hSu; (try dsimp only at hSu); go_simp; first | done | with_reducible rfl)
        (try simp only [Act.put, List.setIfInBounds_toArray, List.set_cons_zero, List.set_cons_succ])
        refine takeD (i := 12) (v := ?cv12) (some 143) rfl rfl (by kernel_rfl) (by kernel_rfl) (by kernel_rfl) (fun _ _ _ h => h) (Or.inl ⟨by rfl, ?ch12⟩) (by assumption) ?cr12
        case ch12 => (intro u hSu; (try dsimp only at hSu); go_simp; first | done | with_reducible rfl)
        (try simp only [Act.put, List.setIfInBounds_toArray, List.set_cons_zero, List.set_cons_succ])
        refine takeD (i := 13) (v := ?cv13) (some 144) rfl rfl (by kernel_rfl) (by kernel_rfl) (by kernel_rfl) (fun _ _ _ h => h) (Or.inl ⟨by rfl, ?ch13⟩) (by assumption) ?cr13
        case ch13 => (intro u hSu; (try dsimp only at hSu); go_simp; first | done | with_reducible rfl)
        (try simp only [Act.put, List.setIfInBounds_toArray, List.set_cons_zero, List.set_cons_succ])
        refine takeD (i := 14) (v := undef) (some 145) rfl rfl (by kernel_rfl) (by kernel_rfl) (by kernel_rfl) (fun _ _ _ h => h) (Or.inr ⟨by rfl, rfl⟩) (by assumption) ?cr14
        (try simp only [Act.put, List.setIfInBounds_toArray, List.set_cons_zero, List.set_cons_succ])
        refine takeD (i := 15) (v := undef) (some 146) rfl rfl (by kernel_rfl) (by kernel_rfl) (by kernel_rfl) (fun _ _ _ h => h) (Or.inr ⟨by rfl, rfl⟩) (by assumption) ?cr15
        (try simp only [Act.put, List.setIfInBounds_toArray, List.set_cons_zero, List.set_cons_succ])
        refine takeD (i := 16) (v := undef) (some 147) rfl rfl (by kernel_rfl) (by kernel_rfl) (by kernel_rfl) (fun _ _ _ h => h) (Or.inr ⟨by rfl, rfl⟩) (by assumption) ?cr16
        (try simp only [Act.put, List.setIfInBounds_toArray, List.set_cons_zero, List.set_cons_succ])
        refine takeD (i := 17) (v := undef) (some 148) rfl rfl (by kernel_rfl) (by kernel_rfl) (by kernel_rfl) (fun _ _ _ h => h) (Or.inr ⟨by rfl, rfl⟩) (by assumption) ?cr17
        (try simp only [Act.put, List.setIfInBounds_toArray, List.set_cons_zero, List.set_cons_succ])
        refine takeD (i := 18) (v := undef) (some 149) rfl rfl (by kernel_rfl) (by kernel_rfl) (by kernel_rfl) (fun _ _ _ h => h) (Or.inr ⟨by rfl, rfl⟩) (by assumption) ?cr18
        (try simp only [Act.put, List.setIfInBounds_toArray, List.set_cons_zero, List.set_cons_succ])
        refine takeD (i := 19) (v := undef) (some 150) rfl rfl (by kernel_rfl) (by kernel_rfl) (by kernel_rfl) (fun _ _ _ h => h) (Or.inr ⟨by rfl, rfl⟩) (by assumption) ?cr19
        (try simp only [Act.put, List.setIfInBounds_toArray, List.set_cons_zero, List.set_cons_succ])
        refine takeD (i := 20) (v := undef) (some 151) rfl rfl (by kernel_rfl) (by kernel_rfl) (by kernel_rfl) (fun _ _ _ h => h) (Or.inr ⟨by rfl, rfl⟩) (by assumption) ?cr20
        (try simp only [Act.put, List.setIfInBounds_toArray, List.set_cons_zero, List.set_cons_succ])
        refine takeD (i := 21) (v := undef) (some 152) rfl rfl (by kernel_rfl) (by kernel_rfl) (by kernel_rfl) (fun _ _ _ h => h) (Or.inr ⟨by rfl, rfl⟩) (by assumption) ?cr21
        (try simp only [Act.put, List.setIfInBounds_toArray, List.set_cons_zero, List.set_cons_succ])
        refine takeD (i := 22) (v := undef) (some 153) rfl rfl (by kernel_rfl) (by kernel_rfl) (by kernel_rfl) (fun _ _ _ h => h) (Or.inr ⟨by rfl, rfl⟩) (by assumption) ?cr22
        (try simp only [Act.put, List.setIfInBounds_toArray, List.set_cons_zero, List.set_cons_succ])
        refine takeD (i := 23) (v := undef) (some 154) rfl rfl (by kernel_rfl) (by kernel_rfl) (by kernel_rfl) (fun _ _ _ h => h) (Or.inr ⟨by rfl, rfl⟩) (by assumption) ?cr23
        (try simp only [Act.put, List.setIfInBounds_toArray, List.set_cons_zero, List.set_cons_succ])
        refine takeD (i := 24) (v := undef) (some 155) rfl rfl (by kernel_rfl) (by kernel_rfl) (by kernel_rfl) (fun _ _ _ h => h) (Or.inr ⟨by rfl, rfl⟩) (by assumption) ?cr24
        (try simp only [Act.put, List.setIfInBounds_toArray, List.set_cons_zero, List.set_cons_succ])
        refine takeD (i := 25) (v := undef) (some 156) rfl rfl (by kernel_rfl) (by kernel_rfl) (by kernel_rfl) (fun _ _ _ h => h) (Or.inr ⟨by rfl, rfl⟩) (by assumption) ?cr25
        (try simp only [Act.put, List.setIfInBounds_toArray, List.set_cons_zero, List.set_cons_succ])
        refine takeD (i := 26) (v := undef) (some 157) rfl rfl (by kernel_rfl) (by kernel_rfl) (by kernel_rfl) (fun _ _ _ h => h) (Or.inr ⟨by rfl, rfl⟩) (by assumption) ?cr26
        (try simp only [Act.put, List.setIfInBounds_toArray, List.set_cons_zero, List.set_cons_succ])
        refine takeD (i := 27) (v := ?cv27) (some 158) rfl rfl (by kernel_rfl) (by kernel_rfl) (by kernel_rfl) (fun _ _ _ h => h) (Or.inl ⟨by rfl, ?ch27⟩) (by assumption) ?cr27
        case ch27 => (intro u hSu; (try dsimp only at hSu); go_simp; first | done | with_reducible rfl)
        (try simp only [Act.put, List.setIfInBounds_toArray, List.set_cons_zero, List.set_cons_succ])
        refine takeD (i := 28) (v := ?cv28) (some 159) rfl rfl (by kernel_rfl) (by kernel_rfl) (by kernel_rfl) (fun _ _ _ h => h) (Or.inl ⟨by rfl, ?ch28⟩) (by assumption) ?cr28
        case ch28 => (intro u hSu; (try dsimp only at hSu); go_simp; first | done | with_reducible rfl)
        (try simp only [Act.put, List.setIfInBounds_toArray, List.set_cons_zero, List.set_cons_succ])
        refine wpAnyH_ready (rs := [29]) (by kernel_rfl) (by simp) ?_
        refine AllReadyH.cons rfl (fun K hK => ?_) AllReadyH.nil
        go_simp
        refine hK.out _ _ (unhide HS3) (fun hHeld => ?_)
        clear hK K
        (try simp only [Act.put, List.setIfInBounds_toArray, List.set_cons_zero, List.set_cons_succ])
        refine takeD (i := 30) (v := ?cv30) (some 7) rfl rfl (by kernel_rfl) (by kernel_rfl) (by kernel_rfl) (fun _ _ _ h => h) (Or.inl ⟨by rfl, ?ch30⟩) (by assumption) ?cr30
        case ch30 => (intro u hSu; (try dsimp only at hSu); go_simp; first | done | with_reducible rfl)
        (try simp only [Act.put, List.setIfInBounds_toArray, List.set_cons_zero, List.set_cons_succ])
        refine wpAnyH_done (by kernel_rfl) ?_ _
        go_wp2_with fail
        (try simp only [Exit.inBlock, Exit.then])
        refine bodyPost_ret (res2 rfl _ _ (w.heap.size + 2) _ _ rfl (unhide HE).1.1 (unhide HE).1.2) rfl ?_
        exact ⟨_, nx, by first | rfl | simp, (unhide HE).2⟩
    · have ea : pl a = -1 := by
        rcases unhide HPL a with ⟨e, -⟩ | ⟨j, j1, -, j2, -⟩
        · exact e
        · exact absurd (((unhide HR).keys a).2 ⟨j, j1, j2⟩) na
      rw [fa] at CS0
      have CS := hide CS0
      rw [ea]
      generalize pl b = rb at *
      clear CS0 HMK HF HR HPL ea fa na
      go_upto_region 21 with fail
      refine wp_region_held_drew (S := fun w' => w'.cell? ⟨w.heap.size, 0, none⟩ = some (.slice a5 L5 c5) ∧ w'.cell? ⟨w.heap.size, 1, none⟩ = some (.int .i64 nx) ∧ w'.cell? ⟨w.heap.size + 1, 1, none⟩ = some (.int .i64 a) ∧ w'.cell? ⟨w.heap.size + 1, 2, none⟩ = some (.int .i64 b)) (by kernel_rfl) ⟨d0, d1, d2, d3⟩ (fun hHeld => ?_)
      refine takeD (i := 0) (v := ?ev0) (some 131) rfl rfl (by kernel_rfl) (by kernel_rfl) (by kernel_rfl) (fun _ _ _ h => h) (Or.inl ⟨by rfl, ?eh0⟩) (by assumption) ?er0
      case eh0 => (intro u hSu; (try dsimp only at hSu); go_simp; first | done | with_reducible rfl)
      (try simp only [Act.put, List.setIfInBounds_toArray, List.set_cons_zero, List.set_cons_succ])
      refine takeD (i := 1) (v := ?ev1) (some 132) rfl rfl (by kernel_rfl) (by kernel_rfl) (by kernel_rfl) (fun _ _ _ h => h) (Or.inl ⟨by rfl, ?eh1⟩) (by assumption) ?er1
      case eh1 => (intro u hSu; (try dsimp only at hSu); go_simp; first | done | with_reducible rfl)
      (try simp only [Act.put, List.setIfInBounds_toArray, List.set_cons_zero, List.set_cons_succ])
      refine takeD (i := 2) (v := ?ev2) (some 133) rfl rfl (by kernel_rfl) (by kernel_rfl) (by kernel_rfl) (fun _ _ _ h => h) (Or.inl ⟨by rfl, ?eh2⟩) (by assumption) ?er2
      case eh2 => (intro u hSu; (try dsimp only at hSu); go_simp; first | done | with_reducible rfl)
      (try simp only [Act.put, List.setIfInBounds_toArray, List.set_cons_zero, List.set_cons_succ])
      refine takeD (i := 3) (v := ?ev3) (some 134) rfl rfl (by kernel_rfl) (by kernel_rfl) (by kernel_rfl) (fun _ _ _ h => h) (Or.inl ⟨by rfl, ?eh3⟩) (by assumption) ?er3
      case eh3 => (intro u hSu; (try dsimp only at hSu); go_simp; first | done | with_reducible rfl)
      (try simp only [Act.put, List.setIfInBounds_toArray, List.set_cons_zero, List.set_cons_succ])
      refine takeD (i := 4) (v := ?ev4) (some 135) rfl rfl (by kernel_rfl) (by kernel_rfl) (by kernel_rfl) (fun _ _ _ h => h) (Or.inl ⟨by rfl, ?eh4⟩) (by assumption) ?er4
      case eh4 => (intro u hSu; (try dsimp only at hSu); go_simp; first | done | with_reducible rfl)
      (try simp only [Act.put, List.setIfInBounds_toArray, List.set_cons_zero, List.set_cons_succ])
      refine takeD (i := 5) (v := ?ev5) (some 136) rfl rfl (by kernel_rfl) (by kernel_rfl) (by kernel_rfl) (fun _ _ _ h => h) (Or.inl ⟨by rfl, ?eh5⟩) (by assumption) ?er5
      case eh5 => (intro u hSu; (try dsimp only at hSu); go_simp; first | done | with_reducible rfl)
      (try simp only [Act.put, List.setIfInBounds_toArray, List.set_cons_zero, List.set_cons_succ])
      refine takeD (i := 7) (v := ?ev7) (some 138) rfl rfl (by kernel_rfl) (by kernel_rfl) (by kernel_rfl) (fun _ _ _ h => h) (Or.inl ⟨by rfl, ?eh7⟩) (by assumption) ?er7
      case eh7 => (intro u hSu; (try dsimp only at hSu); go_simp; first | done | with_reducible rfl)
      (try simp only [Act.put, List.setIfInBounds_toArray, List.set_cons_zero, List.set_cons_succ])
      refine takeD (i := 8) (v := ?ev8) (some 139) rfl rfl (by kernel_rfl) (by kernel_rfl) (by kernel_rfl) (fun _ _ _ h => h) (Or.inl ⟨by rfl, ?eh8⟩) (by assumption) ?er8
      case eh8 => (intro u hSu; (try dsimp only at hSu); go_simp; first | done | with_reducible rfl)
      (try simp only [Act.put, List.setIfInBounds_toArray, List.set_cons_zero, List.set_cons_succ])
      refine wpAnyH_ready (rs := [6]) (by kernel_rfl) (by simp) ?_
      refine AllReadyH.cons rfl (fun K hK => ?_) AllReadyH.nil
      go_simp
      refine (unhide CS).mono ?_
      rintro e w' ⟨rfl, rfl⟩
      (try go_wp2_with fail)
      refine hK.out _ _ ⟨d0, d1, d2, d3⟩ (fun hHeld => ?_)
      clear hK K
      (try simp only [Act.put, List.setIfInBounds_toArray, List.set_cons_zero, List.set_cons_succ])
      refine takeD (i := 9) (v := ?ev9) (some 140) rfl rfl (by kernel_rfl) (by kernel_rfl) (by kernel_rfl) (fun _ _ _ h => h) (Or.inl ⟨by rfl, ?eh9⟩) (by assumption) ?er9
      case eh9 => (intro u hSu; (try dsimp only at hSu); go_simp; first | done | with_reducible rfl)
      (try simp only [Act.put, List.setIfInBounds_toArray, List.set_cons_zero, List.set_cons_succ])
      refine takeD (i := 10) (v := undef) (some 141) rfl rfl (by kernel_rfl) (by kernel_rfl) (by kernel_rfl) (fun _ _ _ h => h) (Or.inr ⟨by rfl, rfl⟩) (by assumption) ?er10
      (try simp only [Act.put, List.setIfInBounds_toArray, List.set_cons_zero, List.set_cons_succ])
      refine takeD (i := 11) (v := undef) (some 142) rfl rfl (by kernel_rfl) (by kernel_rfl) (by kernel_rfl) (fun _ _ _ h => h) (Or.inr ⟨by rfl, rfl⟩) (by assumption) ?er11
      (try simp only [Act.put, List.setIfInBounds_toArray, List.set_cons_zero, List.set_cons_succ])
      refine takeD (i := 12) (v := ?ev12) (some 143) rfl rfl (by kernel_rfl) (by kernel_rfl) (by kernel_rfl) (fun _ _ _ h => h) (Or.inl ⟨by rfl, ?eh12⟩) (by assumption) ?er12
      case eh12 => (intro u hSu; (try dsimp only at hSu); go_simp; first | done | with_reducible rfl)
      (try simp only [Act.put, List.setIfInBounds_toArray, List.set_cons_zero, List.set_cons_succ])
      refine takeD (i := 13) (v := ?ev13) (some 144) rfl rfl (by kernel_rfl) (by kernel_rfl) (by kernel_rfl) (fun _ _ _ h => h) (Or.inl ⟨by rfl, ?eh13⟩) (by assumption) ?er13
      case eh13 => (intro u hSu; (try dsimp only at hSu); go_simp; first | done | with_reducible rfl)
      (try simp only [Act.put, List.setIfInBounds_toArray, List.set_cons_zero, List.set_cons_succ])
      refine takeD (i := 14) (v := undef) (some 145) rfl rfl (by kernel_rfl) (by kernel_rfl) (by kernel_rfl) (fun _ _ _ h => h) (Or.inr ⟨by rfl, rfl⟩) (by assumption) ?er14
      (try simp only [Act.put, List.setIfInBounds_toArray, List.set_cons_zero, List.set_cons_succ])
      refine takeD (i := 15) (v := undef) (some 146) rfl rfl (by kernel_rfl) (by kernel_rfl) (by kernel_rfl) (fun _ _ _ h => h) (Or.inr ⟨by rfl, rfl⟩) (by assumption) ?er15
      (try simp only [Act.put, List.setIfInBounds_toArray, List.set_cons_zero, List.set_cons_succ])
      refine takeD (i := 16) (v := undef) (some 147) rfl rfl (by kernel_rfl) (by kernel_rfl) (by kernel_rfl) (fun _ _ _ h => h) (Or.inr ⟨by rfl, rfl⟩) (by assumption) ?er16
      (try simp only [Act.put, List.setIfInBounds_toArray, List.set_cons_zero, List.set_cons_succ])
      refine takeD (i := 17) (v := undef) (some 148) rfl rfl (by kernel_rfl) (by kernel_rfl) (by kernel_rfl) (fun _ _ _ h => h) (Or.inr ⟨by rfl, rfl⟩) (by assumption) ?er17
      (try simp only [Act.put, List.setIfInBounds_toArray, List.set_cons_zero, List.set_cons_succ])
      refine takeD (i := 18) (v := undef) (some 149) rfl rfl (by kernel_rfl) (by kernel_rfl) (by kernel_rfl) (fun _ _ _ h => h) (Or.inr ⟨by rfl, rfl⟩) (by assumption) ?er18
      (try simp only [Act.put, List.setIfInBounds_toArray, List.set_cons_zero, List.set_cons_succ])
      refine takeD (i := 19) (v := undef) (some 150) rfl rfl (by kernel_rfl) (by kernel_rfl) (by kernel_rfl) (fun _ _ _ h => h) (Or.inr ⟨by rfl, rfl⟩) (by assumption) ?er19
      (try simp only [Act.put, List.setIfInBounds_toArray, List.set_cons_zero, List.set_cons_succ])
      refine takeD (i := 20) (v := undef) (some 151) rfl rfl (by kernel_rfl) (by kernel_rfl) (by kernel_rfl) (fun _ _ _ h => h) (Or.inr ⟨by rfl, rfl⟩) (by assumption) ?er20
      (try simp only [Act.put, List.setIfInBounds_toArray, List.set_cons_zero, List.set_cons_succ])
      refine takeD (i := 21) (v := undef) (some 152) rfl rfl (by kernel_rfl) (by kernel_rfl) (by kernel_rfl) (fun _ _ _ h => h) (Or.inr ⟨by rfl, rfl⟩) (by assumption) ?er21
      (try simp only [Act.put, List.setIfInBounds_toArray, List.set_cons_zero, List.set_cons_succ])
      refine takeD (i := 22) (v := undef) (some 153) rfl rfl (by kernel_rfl) (by kernel_rfl) (by kernel_rfl) (fun _ _ _ h => h) (Or.inr ⟨by rfl, rfl⟩) (by assumption) ?er22
      (try simp only [Act.put, List.setIfInBounds_toArray, List.set_cons_zero, List.set_cons_succ])
      refine takeD (i := 23) (v := undef) (some 154) rfl rfl (by kernel_rfl) (by kernel_rfl) (by kernel_rfl) (fun _ _ _ h => h) (Or.inr ⟨by rfl, rfl⟩) (by assumption) ?er23
      (try simp only [Act.put, List.setIfInBounds_toArray, List.set_cons_zero, List.set_cons_succ])
      refine takeD (i := 24) (v := undef) (some 155) rfl rfl (by kernel_rfl) (by kernel_rfl) (by kernel_rfl) (fun _ _ _ h => h) (Or.inr ⟨by rfl, rfl⟩) (by assumption) ?er24
      (try simp only [Act.put, List.setIfInBounds_toArray, List.set_cons_zero, List.set_cons_succ])
      refine takeD (i := 25) (v := undef) (some 156) rfl rfl (by kernel_rfl) (by kernel_rfl) (by kernel_rfl) (fun _ _ _ h => h) (Or.inr ⟨by rfl, rfl⟩) (by assumption) ?er25
      (try simp only [Act.put, List.setIfInBounds_toArray, List.set_cons_zero, List.set_cons_succ])
      refine takeD (i := 26) (v := undef) (some 157) rfl rfl (by kernel_rfl) (by kernel_rfl) (by kernel_rfl) (fun _ _ _ h => h) (Or.inr ⟨by rfl, rfl⟩) (by assumption) ?er26
      (try simp only [Act.put, List.setIfInBounds_toArray, List.set_cons_zero, List.set_cons_succ])
      refine takeD (i := 27) (v := ?ev27) (some 158) rfl rfl (by kernel_rfl) (by kernel_rfl) (by kernel_rfl) (fun _ _ _ h => h) (Or.inl ⟨by rfl, ?eh27⟩) (by assumption) ?er27
      case eh27 => (intro u hSu; (try dsimp only at hSu); go_simp; first | done | with_reducible rfl)
      (try simp only [Act.put, List.setIfInBounds_toArray, List.set_cons_zero, List.set_cons_succ])
      refine takeD (i := 28) (v := ?ev28) (some 159) rfl rfl (by kernel_rfl) (by kernel_rfl) (by kernel_rfl) (fun _ _ _ h => h) (Or.inl ⟨by rfl, ?eh28⟩) (by assumption) ?er28
      case eh28 => (intro u hSu; (try dsimp only at hSu); go_simp; first | done | with_reducible rfl)
      (try simp only [Act.put, List.setIfInBounds_toArray, List.set_cons_zero, List.set_cons_succ])
      refine wpAnyH_ready (rs := [29]) (by kernel_rfl) (by simp) ?_
      refine AllReadyH.cons rfl (fun K hK => ?_) AllReadyH.nil
      go_simp
      refine hK.out _ _ (unhide HS3) (fun hHeld => ?_)
      clear hK K
      (try simp only [Act.put, List.setIfInBounds_toArray, List.set_cons_zero, List.set_cons_succ])
      refine takeD (i := 30) (v := ?ev30) (some 7) rfl rfl (by kernel_rfl) (by kernel_rfl) (by kernel_rfl) (fun _ _ _ h => h) (Or.inl ⟨by rfl, ?eh30⟩) (by assumption) ?er30
      case eh30 => (intro u hSu; (try dsimp only at hSu); go_simp; first | done | with_reducible rfl)
      (try simp only [Act.put, List.setIfInBounds_toArray, List.set_cons_zero, List.set_cons_succ])
      refine wpAnyH_done (by kernel_rfl) ?_ _
      go_wp2_with fail
      (try simp only [Exit.inBlock, Exit.then])
      refine bodyPost_ret (res2 rfl _ _ (w.heap.size + 2) _ _ rfl (unhide HE).1.1 (unhide HE).1.2) rfl ?_
      exact ⟨_, nx, by first | rfl | simp, (unhide HE).2⟩
end Go.Proofs.Ytfhidghjmookhaa
