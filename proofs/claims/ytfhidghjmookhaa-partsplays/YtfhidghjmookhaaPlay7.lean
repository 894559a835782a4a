/- play at any other kind: all heads, and the things of one part. -/
import Derived.Test.YtfhidghjmookhaaPlayFrame
import Derived.Deep.RegionHeld3
namespace Go.Proofs.Ytfhidghjmookhaa
open Go.RowKit Go.Maps

theorem SideN.rowOf {w0 u : World} {p : Nat} {S : List (Part Int)} {rs : List Rw} {v : Value} {ks : List Int} (h : SideN w0 p S rs u) (hm : rwN v ks ∈ rs) : u.ownsRow w0.heap.size 3 1 v ks.length (ks.map (Value.int .i64)) := h.rows _ hm
theorem SideN.itemsOf {w0 u : World} {p : Nat} {S : List (Part Int)} {rs : List Rw} {v : Value} {its : List (Int × Int)} (h : SideN w0 p S rs u) (hm : itm v its ∈ rs) : u.ownsRow 0 35 2 v its.length (enc .i64 its) := row_down (h.rows _ hm) (Nat.zero_le _)
theorem SideN.nilRow {w0 u : World} {p : Nat} {S : List (Part Int)} {rs : List Rw} (h : SideN w0 p S rs u) : SideN w0 p S (rwN (.slice none 0 0) [] :: rs) u := h.more (Below.refl _ _) (World.ownsRow_nil _ _ _ _)

section
variable {w0 : World} {p : Nat} {S : List (Part Int)} {v : Value} {its : List (Int × Int)} {nx : Int}

/-- The program's heads. -/
theorem headsTell (hR : Rel S its nx) (hn : its.length ≤ 1000) (rs : List Rw) (u : World) (h : Hid (SideN w0 p S rs u)) : Calls Try.prog 14 #[.pointer (some ⟨p, 0, none⟩)] u fun e u' => ∃ vh, e = .returned vh ∧ Hid (SideN w0 p S (rwN vh (headsR its its.length) :: rs) u') :=
  (headsSN (unhide h) (hR.small hn)).mono fun e u' hh => by
    obtain ⟨vh, he, hs⟩ := hh
    obtain ⟨ys, hy, h2⟩ := unhide hs
    rw [hy.one (hR.heads (unhide h).fam)] at h2
    exact ⟨vh, he, h2⟩
/-- The reference's. -/
theorem headsRef (hR : Rel S its nx) (hn : its.length ≤ 1000) (rs : List Rw) (u : World) (h : Hid (SideN w0 p S rs u)) (hm : itm v its ∈ rs) : Calls Try.prog 15 #[.agg #[v, .int .i64 nx]] u fun e u' => ∃ vr, e = .returned vr ∧ Hid (SideN w0 p S (rwN vr (headsR its its.length) :: rs) u') := by
  have hi := (unhide h).itemsOf hm
  rcases Nat.eq_zero_or_pos its.length with h0 | h0
  · obtain ⟨a, c, rfl⟩ := item_shape hi
    have e0 : its = [] := List.eq_nil_of_length_eq_zero h0
    refine (refHeadsNil nx u a c (by rw [h0])).mono fun e u' hh => ⟨_, hh.1, ?_⟩
    subst e0
    exact ((unhide h).step (unhide hh.2)).nilRow
  · obtain ⟨g, c, rfl⟩ := item_block hi h0
    refine (refHeadsYes nx u hi (by omega) (fun a b ha hb e => hR.inj ha hb e)).mono fun e u' hh => ?_
    obtain ⟨vr, he, hr⟩ := hh
    exact ⟨vr, he, (unhide h).more (unhide hr).2 (unhide hr).1⟩
theorem sameTell (rs : List Rw) (u : World) (v1 v2 : Value) (ks : List Int) (h : Hid (SideN w0 p S rs u)) (hn : ks.length ≤ 1000000) (h1 : rwN v1 ks ∈ rs) (h2 : rwN v2 ks ∈ rs) : Calls Try.prog 11 #[v1, v2] u fun e u' => e = .returned (.bool true) ∧ Hid (SideN w0 p S rs u') :=
  (refSame u ((unhide h).rowOf h1) ((unhide h).rowOf h2) hn).mono fun e u' hh => ⟨hh.1, by
    obtain ⟨q, rfl⟩ := hh.2
    exact (unhide h).step (below_drewN (Below.refl _ _) q)⟩
/-- The things of k's part, whoever tells them. -/
theorem membersTell (k : Int) (hk : okN k) (hf : Fam ltN okN S) (hR : Rel S its nx) (hn : its.length ≤ 1000) : ∃ K : List Int, K.length ≤ 1000 ∧ (∀ (rs : List Rw) (u : World), Hid (SideN w0 p S rs u) → Calls Try.prog 12 #[.pointer (some ⟨p, 0, none⟩), .int .i64 k] u fun e u' => ∃ vm, e = .returned vm ∧ Hid (SideN w0 p S (rwN vm K :: rs) u')) ∧
    ∀ (rs : List Rw) (u : World), Hid (SideN w0 p S rs u) → itm v its ∈ rs → Calls Try.prog 13 #[.agg #[v, .int .i64 nx], .int .i64 k] u fun e u' => ∃ vm, e = .returned vm ∧ Hid (SideN w0 p S (rwN vm K :: rs) u') := by
  have hn6 : its.length ≤ 1000000 := by omega
  by_cases hin : In S k
  · obtain ⟨i, hi1, hik⟩ := (hR.keys k).1 hin
    obtain ⟨x, hx, hkx⟩ := hin
    have hmm := hR.memb hf hi1 hx (by rw [hik]; exact hkx)
    refine ⟨x.ks, by have := len_le_tot hx; have := hR.len; omega, fun rs u h => membersSN k (unhide h) hx hkx (hR.small hn), fun rs u h hm => ?_⟩
    have hi := (unhide h).itemsOf hm
    obtain ⟨g, c, rfl⟩ := item_block hi (by omega)
    refine (refMembersYes nx k i u hi hn6 hi1 hik (fun m hm e => hR.inj hm hi1 (e.trans hik.symm))).mono fun e u' hh => ?_
    obtain ⟨vr, he, hr⟩ := hh
    rw [hmm] at hr
    exact ⟨vr, he, (unhide h).more (unhide hr).2 (unhide hr).1⟩
  · refine ⟨[], by simp, fun rs u h => ?_, fun rs u h hm => ?_⟩
    · obtain ⟨m0, k1, -, -⟩ := (unhide h).on
      exact (membersNoN k u k1 hk (fun z hz e => hin ⟨z, hz, e⟩)).mono fun e u' hh => ⟨_, hh.1, by rw [hh.2]; exact (unhide h).nilRow⟩
    · exact (refMembersNo nx k u ((unhide h).itemsOf hm) hn6 (hR.out.2 hin)).mono fun e u' hh => ⟨_, hh.1, ((unhide h).step (unhide hh.2)).nilRow⟩
end

set_option maxHeartbeats 4000000 in
set_option maxRecDepth 100000 in
theorem playAll {w0 w : World} {p : Nat} {S : List (Part Int)} {rs : List Rw} {v : Value} {its : List (Int × Int)} {nx : Int} (kd a b : Int) (okA : okN a) (h : SideN w0 p S (itm v its :: rs) w) (hR : Rel S its nx) (hn : its.length ≤ 1000) (hnx : 0 ≤ nx ∧ nx ≤ 1000000)
    (k1 : (kd == 1) = false) (k2 : (kd == 2) = false) (k3 : (kd == 3) = false) (k4 : (kd == 4) = false) (k5 : (kd == 5) = false) (k6 : (kd == 6) = false) :
    Calls Try.prog 9 #[.pointer (some ⟨p, 0, none⟩), .agg #[v, .int .i64 nx], .agg #[.int .i64 kd, .int .i64 a, .int .i64 b]] w fun e w' => ∃ v' nx', e = .returned (.tuple #[.agg #[v', .int .i64 nx'], .bool true]) ∧ Hid (Played w0 p rs (its.length + 1) (nx + its.length + 1) v' nx' w') := by
  obtain ⟨a5, c5, hv5⟩ := item_shape h.items
  obtain ⟨L5, hL5⟩ : ∃ L5, its.length = L5 := ⟨_, rfl⟩
  rw [hL5] at hv5
  subst hv5
  have h1 := begin3 h (.slice a5 L5 c5) (.int .i64 nx) (.int .i64 kd) (.int .i64 a) (.int .i64 b)
  obtain ⟨c0, c1, cf⟩ := h1.cellM (List.mem_cons_of_mem _ (List.mem_cons_self ..))
  obtain ⟨o0, o1, o2⟩ := h1.cellO (List.mem_cons_of_mem _ (List.mem_cons_of_mem _ (List.mem_cons_self ..)))
  obtain ⟨K, hK, CMB0, CRM0⟩ := membersTell (w0 := w0) (p := p) (v := (.slice a5 L5 c5)) (its := its) a okA h1.fam hR hn
  have CMB := hide CMB0
  have CRM := hide CRM0
  have CH := hide (headsTell (w0 := w0) (p := p) hR hn)
  have CRH := hide (headsRef (w0 := w0) (p := p) (v := (.slice a5 L5 c5)) hR hn)
  have CSM := hide (sameTell (w0 := w0) (p := p) (S := S))
  have HHL : Hid ((headsR its its.length).length ≤ 1000000) := by have := headsR_le its its.length; show _ ≤ _; omega
  have HKL : Hid (K.length ≤ 1000000) := by show _ ≤ _; omega
  have HEND : Hid (∀ u, SideN w0 p S (itm (.slice a5 L5 c5) its :: rM w.heap.size (.slice a5 L5 c5) (.int .i64 nx) :: rO (w.heap.size + 1) (.int .i64 kd) (.int .i64 a) (.int .i64 b) :: rM (w.heap.size + 2) (.slice none 0 0) (.int .i64 0) :: rs) u → (u.cell? ⟨w.heap.size + 2, 0, none⟩ = some (.slice none 0 0) ∧ u.cell? ⟨w.heap.size + 2, 1, none⟩ = some (.int .i64 0) ∧ ∀ o, u.frozen? ⟨w.heap.size + 2, o, none⟩ = false) ∧ Hid (((u.setCell ⟨w.heap.size + 2, 0, none⟩ (.slice a5 L5 c5)).setCell ⟨w.heap.size + 2, 1, none⟩ (.int .i64 nx)).cell? ⟨w.heap.size, 0, none⟩ = some (.slice a5 L5 c5) ∧ ((u.setCell ⟨w.heap.size + 2, 0, none⟩ (.slice a5 L5 c5)).setCell ⟨w.heap.size + 2, 1, none⟩ (.int .i64 nx)).cell? ⟨w.heap.size, 1, none⟩ = some (.int .i64 nx) ∧ ((u.setCell ⟨w.heap.size + 2, 0, none⟩ (.slice a5 L5 c5)).setCell ⟨w.heap.size + 2, 1, none⟩ (.int .i64 nx)).cell? ⟨w.heap.size + 1, 1, none⟩ = some (.int .i64 a)) ∧
      Hid ((((u.setCell ⟨w.heap.size + 2, 0, none⟩ (.slice a5 L5 c5)).setCell ⟨w.heap.size + 2, 1, none⟩ (.int .i64 nx)).cell? ⟨w.heap.size + 2, 0, none⟩ = some (.slice a5 L5 c5) ∧ ((u.setCell ⟨w.heap.size + 2, 0, none⟩ (.slice a5 L5 c5)).setCell ⟨w.heap.size + 2, 1, none⟩ (.int .i64 nx)).cell? ⟨w.heap.size + 2, 1, none⟩ = some (.int .i64 nx)) ∧ Played w0 p rs (its.length + 1) (nx + its.length + 1) (.slice a5 L5 c5) nx ((u.setCell ⟨w.heap.size + 2, 0, none⟩ (.slice a5 L5 c5)).setCell ⟨w.heap.size + 2, 1, none⟩ (.int .i64 nx)))) := fun u h2 => by
    obtain ⟨z1, z2, z3, z4⟩ := end3 h2 (.slice a5 L5 c5) (.int .i64 nx)
    exact ⟨h2.cellM (List.mem_cons_of_mem _ (List.mem_cons_of_mem _ (List.mem_cons_of_mem _ (List.mem_cons_self ..)))), ⟨(z4.cellM (List.mem_cons_of_mem _ (List.mem_cons_of_mem _ (List.mem_cons_self ..)))).1, (z4.cellM (List.mem_cons_of_mem _ (List.mem_cons_of_mem _ (List.mem_cons_self ..)))).2.1, (z4.cellO (List.mem_cons_of_mem _ (List.mem_cons_of_mem _ (List.mem_cons_of_mem _ (List.mem_cons_self ..))))).2.1⟩, ⟨z2, z3⟩, S, its, z1, hR, by omega, hnx.1, by omega⟩
  have HS0 : Hid (SideN w0 p S (itm (.slice a5 L5 c5) its :: rM w.heap.size (.slice a5 L5 c5) (.int .i64 nx) :: rO (w.heap.size + 1) (.int .i64 kd) (.int .i64 a) (.int .i64 b) :: rM (w.heap.size + 2) (.slice none 0 0) (.int .i64 0) :: rs) (three w (.slice a5 L5 c5) (.int .i64 nx) (.int .i64 kd) (.int .i64 a) (.int .i64 b)).drew) := h1.step (below_drewN (Below.refl _ _) 1)
  clear h h1 hR hn hnx okA CMB0 CRM0 hK hL5
  go_enter Try.func9, Try.ntmps9
  go_upto_region 2 with fail
  unfold three at *
  generalize (((w.alloc (.cells #[.slice a5 L5 c5, .int .i64 nx] 28)).alloc (.cells #[.int .i64 kd, .int .i64 a, .int .i64 b] 32)).alloc (.cells #[.slice none 0 0, .int .i64 0] 28)) = W at *
  go_upto_region 22 with fail
  refine wp_region_held_drew (S := fun w' => w'.cell? ⟨w.heap.size, 0, none⟩ = some (.slice a5 L5 c5) ∧ w'.cell? ⟨w.heap.size, 1, none⟩ = some (.int .i64 nx) ∧ w'.cell? ⟨w.heap.size + 1, 1, none⟩ = some (.int .i64 a)) (by kernel_rfl) ⟨((unhide HS0).cellM (List.mem_cons_of_mem _ (List.mem_cons_self ..))).1, ((unhide HS0).cellM (List.mem_cons_of_mem _ (List.mem_cons_self ..))).2.1, ((unhide HS0).cellO (List.mem_cons_of_mem _ (List.mem_cons_of_mem _ (List.mem_cons_self ..)))).2.1⟩ (fun hHeld => ?_)
  refine takeD (i := 0) (v := ?av0) (some 160) rfl rfl (by kernel_rfl) (by kernel_rfl) (by kernel_rfl) (fun _ _ _ h => h) (Or.inl ⟨by rfl, ?ah0⟩) (by assumption) ?ar0
  case ah0 => (intro u hSu; (try dsimp only at hSu); go_simp; first | done | with_reducible rfl)
  (try simp only [Act.put, List.setIfInBounds_toArray, List.set_cons_zero, List.set_cons_succ])
  refine takeD (i := 1) (v := ?av1) (some 161) rfl rfl (by kernel_rfl) (by kernel_rfl) (by kernel_rfl) (fun _ _ _ h => h) (Or.inl ⟨by rfl, ?ah1⟩) (by assumption) ?ar1
  case ah1 => (intro u hSu; (try dsimp only at hSu); go_simp; first | done | with_reducible rfl)
  (try simp only [Act.put, List.setIfInBounds_toArray, List.set_cons_zero, List.set_cons_succ])
  refine takeD (i := 3) (v := ?av3) (some 163) rfl rfl (by kernel_rfl) (by kernel_rfl) (by kernel_rfl) (fun _ _ _ h => h) (Or.inl ⟨by rfl, ?ah3⟩) (by assumption) ?ar3
  case ah3 => (intro u hSu; (try dsimp only at hSu); go_simp; first | done | with_reducible rfl)
  (try simp only [Act.put, List.setIfInBounds_toArray, List.set_cons_zero, List.set_cons_succ])
  refine wpAnyH_ready (rs := [2]) (by kernel_rfl) (by simp) ?_
  refine AllReadyH.cons rfl (fun K hK => ?_) AllReadyH.nil
  go_simp
  refine (unhide CH _ _ HS0).mono ?_
  rintro e w1 ⟨vh, rfl, HS1⟩
  (try go_wp2_with fail)
  refine hK.out _ _ ⟨((unhide HS1).cellM (List.mem_cons_of_mem _ (List.mem_cons_of_mem _ (List.mem_cons_self ..)))).1, ((unhide HS1).cellM (List.mem_cons_of_mem _ (List.mem_cons_of_mem _ (List.mem_cons_self ..)))).2.1, ((unhide HS1).cellO (List.mem_cons_of_mem _ (List.mem_cons_of_mem _ (List.mem_cons_of_mem _ (List.mem_cons_self ..))))).2.1⟩ (fun hHeld => ?_)
  clear hK K
  (try simp only [Act.put, List.setIfInBounds_toArray, List.set_cons_zero, List.set_cons_succ])
  refine wpAnyH_ready (rs := [4]) (by kernel_rfl) (by simp) ?_
  refine AllReadyH.cons rfl (fun K hK => ?_) AllReadyH.nil
  go_simp
  refine (unhide CRH _ _ HS1 (List.mem_cons_of_mem _ (List.mem_cons_self ..))).mono ?_
  rintro e w2 ⟨vr, rfl, HS2⟩
  (try go_wp2_with fail)
  refine hK.out _ _ ⟨((unhide HS2).cellM (List.mem_cons_of_mem _ (List.mem_cons_of_mem _ (List.mem_cons_of_mem _ (List.mem_cons_self ..))))).1, ((unhide HS2).cellM (List.mem_cons_of_mem _ (List.mem_cons_of_mem _ (List.mem_cons_of_mem _ (List.mem_cons_self ..))))).2.1, ((unhide HS2).cellO (List.mem_cons_of_mem _ (List.mem_cons_of_mem _ (List.mem_cons_of_mem _ (List.mem_cons_of_mem _ (List.mem_cons_self ..)))))).2.1⟩ (fun hHeld => ?_)
  clear hK K
  (try simp only [Act.put, List.setIfInBounds_toArray, List.set_cons_zero, List.set_cons_succ])
  refine wpAnyH_ready (rs := [5]) (by kernel_rfl) (by simp) ?_
  refine AllReadyH.cons rfl (fun K hK => ?_) AllReadyH.nil
  go_simp
  refine (unhide CSM _ _ _ _ _ HS2 (unhide HHL) (List.mem_cons_of_mem _ (List.mem_cons_self ..)) (List.mem_cons_self ..)).mono ?_
  rintro e w3 ⟨rfl, HS3⟩
  (try go_wp2_with fail)
  refine hK.out _ _ ⟨((unhide HS3).cellM (List.mem_cons_of_mem _ (List.mem_cons_of_mem _ (List.mem_cons_of_mem _ (List.mem_cons_self ..))))).1, ((unhide HS3).cellM (List.mem_cons_of_mem _ (List.mem_cons_of_mem _ (List.mem_cons_of_mem _ (List.mem_cons_self ..))))).2.1, ((unhide HS3).cellO (List.mem_cons_of_mem _ (List.mem_cons_of_mem _ (List.mem_cons_of_mem _ (List.mem_cons_of_mem _ (List.mem_cons_self ..)))))).2.1⟩ (fun hHeld => ?_)
  clear hK K
  (try simp only [Act.put, List.setIfInBounds_toArray, List.set_cons_zero, List.set_cons_succ])
  refine takeD (i := 6) (v := ?av6) (some 166) rfl rfl (by kernel_rfl) (by kernel_rfl) (by kernel_rfl) (fun _ _ _ h => h) (Or.inl ⟨by rfl, ?ah6⟩) (by assumption) ?ar6
  case ah6 => (intro u hSu; (try dsimp only at hSu); go_simp; first | done | with_reducible rfl)
  (try simp only [Act.put, List.setIfInBounds_toArray, List.set_cons_zero, List.set_cons_succ])
  refine takeD (i := 7) (v := ?av7) (some 167) rfl rfl (by kernel_rfl) (by kernel_rfl) (by kernel_rfl) (fun _ _ _ h => h) (Or.inl ⟨by rfl, ?ah7⟩) (by assumption) ?ar7
  case ah7 => (intro u hSu; (try dsimp only at hSu); go_simp; first | done | with_reducible rfl)
  (try simp only [Act.put, List.setIfInBounds_toArray, List.set_cons_zero, List.set_cons_succ])
  refine takeD (i := 8) (v := ?av8) (some 168) rfl rfl (by kernel_rfl) (by kernel_rfl) (by kernel_rfl) (fun _ _ _ h => h) (Or.inl ⟨by rfl, ?ah8⟩) (by assumption) ?ar8
  case ah8 => (intro u hSu; (try dsimp only at hSu); go_simp; first | done | with_reducible rfl)
  (try simp only [Act.put, List.setIfInBounds_toArray, List.set_cons_zero, List.set_cons_succ])
  refine takeD (i := 9) (v := ?av9) (some 169) rfl rfl (by kernel_rfl) (by kernel_rfl) (by kernel_rfl) (fun _ _ _ h => h) (Or.inl ⟨by rfl, ?ah9⟩) (by assumption) ?ar9
  case ah9 => (intro u hSu; (try dsimp only at hSu); go_simp; first | done | with_reducible rfl)
  (try simp only [Act.put, List.setIfInBounds_toArray, List.set_cons_zero, List.set_cons_succ])
  refine takeD (i := 11) (v := ?av11) (some 171) rfl rfl (by kernel_rfl) (by kernel_rfl) (by kernel_rfl) (fun _ _ _ h => h) (Or.inl ⟨by rfl, ?ah11⟩) (by assumption) ?ar11
  case ah11 => (intro u hSu; (try dsimp only at hSu); go_simp; first | done | with_reducible rfl)
  (try simp only [Act.put, List.setIfInBounds_toArray, List.set_cons_zero, List.set_cons_succ])
  refine takeD (i := 12) (v := ?av12) (some 172) rfl rfl (by kernel_rfl) (by kernel_rfl) (by kernel_rfl) (fun _ _ _ h => h) (Or.inl ⟨by rfl, ?ah12⟩) (by assumption) ?ar12
  case ah12 => (intro u hSu; (try dsimp only at hSu); go_simp; first | done | with_reducible rfl)
  (try simp only [Act.put, List.setIfInBounds_toArray, List.set_cons_zero, List.set_cons_succ])
  refine takeD (i := 13) (v := ?av13) (some 173) rfl rfl (by kernel_rfl) (by kernel_rfl) (by kernel_rfl) (fun _ _ _ h => h) (Or.inl ⟨by rfl, ?ah13⟩) (by assumption) ?ar13
  case ah13 => (intro u hSu; (try dsimp only at hSu); go_simp; first | done | with_reducible rfl)
  (try simp only [Act.put, List.setIfInBounds_toArray, List.set_cons_zero, List.set_cons_succ])
  refine wpAnyH_ready (rs := [10]) (by kernel_rfl) (by simp) ?_
  refine AllReadyH.cons rfl (fun K hK => ?_) AllReadyH.nil
  go_simp
  refine (unhide CMB _ _ HS3).mono ?_
  rintro e w4 ⟨vm, rfl, HS4⟩
  (try go_wp2_with fail)
  refine hK.out _ _ ⟨((unhide HS4).cellM (List.mem_cons_of_mem _ (List.mem_cons_of_mem _ (List.mem_cons_of_mem _ (List.mem_cons_of_mem _ (List.mem_cons_self ..)))))).1, ((unhide HS4).cellM (List.mem_cons_of_mem _ (List.mem_cons_of_mem _ (List.mem_cons_of_mem _ (List.mem_cons_of_mem _ (List.mem_cons_self ..)))))).2.1, ((unhide HS4).cellO (List.mem_cons_of_mem _ (List.mem_cons_of_mem _ (List.mem_cons_of_mem _ (List.mem_cons_of_mem _ (List.mem_cons_of_mem _ (List.mem_cons_self ..))))))).2.1⟩ (fun hHeld => ?_)
  clear hK K
  (try simp only [Act.put, List.setIfInBounds_toArray, List.set_cons_zero, List.set_cons_succ])
  refine wpAnyH_ready (rs := [14]) (by kernel_rfl) (by simp) ?_
  refine AllReadyH.cons rfl (fun K hK => ?_) AllReadyH.nil
  go_simp
  refine (unhide CRM _ _ HS4 (List.mem_cons_of_mem _ (List.mem_cons_of_mem _ (List.mem_cons_of_mem _ (List.mem_cons_self ..))))).mono ?_
  rintro e w5 ⟨vn, rfl, HS5⟩
  (try go_wp2_with fail)
  refine hK.out _ _ ⟨((unhide HS5).cellM (List.mem_cons_of_mem _ (List.mem_cons_of_mem _ (List.mem_cons_of_mem _ (List.mem_cons_of_mem _ (List.mem_cons_of_mem _ (List.mem_cons_self ..))))))).1, ((unhide HS5).cellM (List.mem_cons_of_mem _ (List.mem_cons_of_mem _ (List.mem_cons_of_mem _ (List.mem_cons_of_mem _ (List.mem_cons_of_mem _ (List.mem_cons_self ..))))))).2.1, ((unhide HS5).cellO (List.mem_cons_of_mem _ (List.mem_cons_of_mem _ (List.mem_cons_of_mem _ (List.mem_cons_of_mem _ (List.mem_cons_of_mem _ (List.mem_cons_of_mem _ (List.mem_cons_self ..)))))))).2.1⟩ (fun hHeld => ?_)
  clear hK K
  (try simp only [Act.put, List.setIfInBounds_toArray, List.set_cons_zero, List.set_cons_succ])
  refine wpAnyH_ready (rs := [15]) (by kernel_rfl) (by simp) ?_
  refine AllReadyH.cons rfl (fun K hK => ?_) AllReadyH.nil
  go_simp
  refine (unhide CSM _ _ _ _ _ HS5 (unhide HKL) (List.mem_cons_of_mem _ (List.mem_cons_self ..)) (List.mem_cons_self ..)).mono ?_
  rintro e w6 ⟨rfl, HS6⟩
  (try go_wp2_with fail)
  refine hK.out _ _ ⟨((unhide HS6).cellM (List.mem_cons_of_mem _ (List.mem_cons_of_mem _ (List.mem_cons_of_mem _ (List.mem_cons_of_mem _ (List.mem_cons_of_mem _ (List.mem_cons_self ..))))))).1, ((unhide HS6).cellM (List.mem_cons_of_mem _ (List.mem_cons_of_mem _ (List.mem_cons_of_mem _ (List.mem_cons_of_mem _ (List.mem_cons_of_mem _ (List.mem_cons_self ..))))))).2.1, ((unhide HS6).cellO (List.mem_cons_of_mem _ (List.mem_cons_of_mem _ (List.mem_cons_of_mem _ (List.mem_cons_of_mem _ (List.mem_cons_of_mem _ (List.mem_cons_of_mem _ (List.mem_cons_self ..)))))))).2.1⟩ (fun hHeld => ?_)
  clear hK K
  (try simp only [Act.put, List.setIfInBounds_toArray, List.set_cons_zero, List.set_cons_succ])
  refine takeD (i := 16) (v := ?av16) (some 176) rfl rfl (by kernel_rfl) (by kernel_rfl) (by kernel_rfl) (fun _ _ _ h => h) (Or.inl ⟨by rfl, ?ah16⟩) (by assumption) ?ar16
  case ah16 => (intro u hSu; (try dsimp only at hSu); go_simp; first | done | with_reducible rfl)
  (try simp only [Act.put, List.setIfInBounds_toArray, List.set_cons_zero, List.set_cons_succ])
  obtain ⟨⟨e0, e1, ef⟩, HZ, HE⟩ := unhide HEND w6 ((unhide HS6).sub (List.Sublist.cons _ (List.Sublist.cons _ (List.Sublist.cons _ (List.Sublist.cons _ (List.Sublist.refl _))))))
  refine wpAnyH_ready (rs := [17]) (by kernel_rfl) (by simp) ?_
  refine AllReadyH.cons rfl (fun K hK => ?_) AllReadyH.nil
  go_simp
  refine hK.out _ _ (unhide HZ) (fun hHeld => ?_)
  clear hK K
  (try simp only [Act.put, List.setIfInBounds_toArray, List.set_cons_zero, List.set_cons_succ])
  refine takeD (i := 18) (v := ?bv18) (some 7) rfl rfl (by kernel_rfl) (by kernel_rfl) (by kernel_rfl) (fun _ _ _ h => h) (Or.inl ⟨by rfl, ?bh18⟩) (by assumption) ?br18
  case bh18 => (intro u hSu; (try dsimp only at hSu); go_simp; first | done | with_reducible rfl)
  (try simp only [Act.put, List.setIfInBounds_toArray, List.set_cons_zero, List.set_cons_succ])
  refine wpAnyH_done (by kernel_rfl) ?_ _
  go_wp2_with fail
  (try simp only [Exit.inBlock, Exit.then])
  refine bodyPost_ret (res2 rfl _ _ (w.heap.size + 2) _ _ rfl (unhide HE).1.1 (unhide HE).1.2) rfl ?_
  exact ⟨_, nx, by first | rfl | simp, (unhide HE).2⟩
end Go.Proofs.Ytfhidghjmookhaa
