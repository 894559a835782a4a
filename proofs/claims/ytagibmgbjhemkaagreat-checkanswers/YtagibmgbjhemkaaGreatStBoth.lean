/- all: the numbers of the edges that leave or enter a vertex. -/
import Derived.Test.YtagibmgbjhemkaaGreatStRem
namespace Go.Proofs.YtagibmgbjhemkaaGreat
open Go.RowKit Go.Maps

/-- Those that leave k or enter it, rising. -/
def boths (ps : List (EdgeV × Bool)) (k : Int) : List Int := numsOf (fun x => decide (x.2.1 = k) || decide (x.2.2.1 = k)) ps
theorem mem_boths {ps : List (EdgeV × Bool)} {k e : Int} : e ∈ boths ps k ↔ e ∈ outs ps k ∨ e ∈ inns ps k := by
  unfold boths outs inns
  rw [mem_numsOf, mem_numsOf, mem_numsOf]
  constructor
  · rintro ⟨j, x, h1, h2, h3⟩
    rw [Bool.or_eq_true] at h2
    rcases h2 with h2 | h2
    · exact .inl ⟨j, x, h1, h2, h3⟩
    · exact .inr ⟨j, x, h1, h2, h3⟩
  · rintro (⟨j, x, h1, h2, h3⟩ | ⟨j, x, h1, h2, h3⟩)
    · exact ⟨j, x, h1, by rw [h2]; rfl, h3⟩
    · exact ⟨j, x, h1, by rw [h2, Bool.or_true], h3⟩
theorem compact_boths {ps : List (EdgeV × Bool)} {k : Int} {ys : List Int} (hp : ys.Perm (outs ps k ++ inns ps k)) (hs : ys.Pairwise (· ≤ ·)) : Lib.compact ys = boths ps k := by
  obtain ⟨h1, h2⟩ := compact_sorted ys hs
  refine rising_ext linN h1 (rising_numsOf _ _) (fun e => ?_)
  rw [h2, hp.mem_iff, List.mem_append, mem_boths]

section
variable [Inhabited EntI] {w w' : World} {X : Sto}

set_option maxHeartbeats 2000000 in
set_option maxRecDepth 100000 in
theorem allS {k : Int} {q : Nat} (h : StAt w X) (hk : X.f k = some q) : Calls Tryz.prog 98 #[.pointer (some ⟨q, 0, none⟩)] w fun e w' => ∃ v', e = .returned v' ∧ Hid (BRow w.heap.size w' v' (boths X.ps k) ∧ Below w.heap.size w w') := by
  have lo1 : (outs X.ps k).length ≤ 1000000 := Nat.le_trans (length_numsOf _ _) (by have := h.tab.len; omega)
  have li1 : (inns X.ps k).length ≤ 1000000 := Nat.le_trans (length_numsOf _ _) (by have := h.tab.len; omega)
  obtain ⟨d0, d1, -⟩ := h.mem.ends hk
  have ho := h.mem.out k q hk
  have hi := h.mem.inn k q hk
  have CC : Hid (∀ W, Like w W → Calls Tryz.prog 116 #[.slice (some ⟨w.heap.size, 0, none⟩) 2 2] (W.alloc (.cells #[X.ro k, X.ri k] 25)) fun e w2 => ∃ a2 n2 c2, e = .returned (.slice a2 n2 c2) ∧ (w2.cell? ⟨q, 0, none⟩ = some (X.ro k) ∧ w2.cell? ⟨q, 1, none⟩ = some (X.ri k)) ∧ Hid (BRow w.heap.size w2 (.slice a2 n2 c2) (outs X.ps k ++ inns X.ps k) ∧ Below w.heap.size w w2)) := fun W hl => by
    have hb : Below w.heap.size w (W.alloc (.cells #[X.ro k, X.ri k] 25)) := (hl.below _).trans ((Below.refl _ _).alloc (by rw [hl.1]; exact Nat.le_refl _) _)
    have hn : (W.alloc (.cells #[X.ro k, X.ri k] 25)).heap[w.heap.size]? = some (.cells #[X.ro k, X.ri k] 25 (0, 0)) := by
      have := heap_alloc_new W (.cells #[X.ro k, X.ri k] 25)
      rwa [hl.1] at this
    refine (concatN w.heap.size (X.ro k) (X.ri k) _ _ _ hn (nrow_kept ho (fun b hb' => hb.block b (ho.lt b hb').2)) (nrow_kept hi (fun b hb' => hb.block b (hi.lt b hb').2)) lo1 li1).mono ?_
    rintro e w2 ⟨v2, rfl, h2⟩
    obtain ⟨g1, g2⟩ := unhide h2
    obtain ⟨a2, c2, e2, -⟩ := brow_shape g1
    obtain ⟨n2, hn2⟩ : ∃ n2, v2 = .slice a2 n2 c2 := ⟨_, e2⟩
    subst hn2
    have hbz : w.heap.size ≤ (W.alloc (.cells #[X.ro k, X.ri k] 25)).heap.size := hb.size
    have hB := hb.trans (g2.mono hbz)
    obtain ⟨z0, z1, -⟩ := (h.mem.below hB).ends hk
    refine ⟨a2, n2, c2, rfl, ⟨z0, z1⟩, ⟨g1.1, g1.2.imp id (fun ⟨g, cap, cur, e, hb', r⟩ => ⟨g, cap, cur, e, Nat.le_trans hbz hb', r⟩)⟩, hB⟩
  have HR : Hid (∀ W v ks, BRow w.heap.size W v ks → ks.length ≤ 2000000 → Calls Tryz.prog 110 #[v] W fun e w' => e = .returned (.tuple #[]) ∧ Hid (∃ ys, ys.Perm ks ∧ ys.Pairwise (· ≤ ·) ∧ BRow w.heap.size w' v ys ∧ W.grownBy w' v.ownBlock)) := fun W v ks hr hl => sortN w.heap.size v ks W (by omega) hr
  have HK : Hid (∀ W v ks, BRow w.heap.size W v ks → ks.length ≤ 2000000 → Calls Tryz.prog 117 #[v] W fun e w' => ∃ v', e = .returned v' ∧ Hid (BRow w.heap.size w' v' (Lib.compact ks) ∧ W.grownBy w' v.ownBlock)) := fun W v ks hr hl => compactN w.heap.size v ks W (by omega) hr
  have HL : Hid ((outs X.ps k).length ≤ 1000000 ∧ (inns X.ps k).length ≤ 1000000) := ⟨lo1, li1⟩
  obtain ⟨ra, rc, hro, -⟩ := brow_shape ho
  obtain ⟨sa, sc, hri, -⟩ := brow_shape hi
  obtain ⟨rn, hro'⟩ : ∃ rn, X.ro k = .slice ra rn rc := ⟨_, hro⟩
  obtain ⟨sn, hri'⟩ : ∃ sn, X.ri k = .slice sa sn sc := ⟨_, hri⟩
  rw [hro', hri'] at CC
  rw [hro'] at d0
  rw [hri'] at d1
  clear h ho hi lo1 li1 hro hri hro' hri' hk
  go_enter Tryz.func98, Tryz.ntmps98
  go_upto_region 1 with fail
  refine wp_region_noPanic ?_
  refine regionL [] (fun y => y.cell? ⟨q, 0, none⟩ = some (.slice ra rn rc) ∧ y.cell? ⟨q, 1, none⟩ = some (.slice sa sn sc)) (by kernel_rfl) ⟨d0, d1⟩ (fun hHeld => ?_)
  refine takeL (i := 0) (v := ?t2v0) (some 4) rfl rfl (by kernel_rfl) (by kernel_rfl) (by kernel_rfl) (by kernel_rfl) (by kernel_rfl) (fun _ _ _ h => h) (Or.inl ⟨by rfl, ?t2h0⟩) (by assumption) ?t2r0
  case t2h0 => (intro y hSu; (try dsimp only at hSu); go_simp; first | done | with_reducible rfl)
  (try simp only [Act.put, List.setIfInBounds_toArray, List.set_cons_zero, List.set_cons_succ])
  refine takeL (i := 1) (v := ?t2v1) (some 5) rfl rfl (by kernel_rfl) (by kernel_rfl) (by kernel_rfl) (by kernel_rfl) (by kernel_rfl) (fun _ _ _ h => h) (Or.inl ⟨by rfl, ?t2h1⟩) (by assumption) ?t2r1
  case t2h1 => (intro y hSu; (try dsimp only at hSu); go_simp; first | done | with_reducible rfl)
  (try simp only [Act.put, List.setIfInBounds_toArray, List.set_cons_zero, List.set_cons_succ])
  refine takeL (i := 2) (v := ?t2v2) (some 6) rfl rfl (by kernel_rfl) (by kernel_rfl) (by kernel_rfl) (by kernel_rfl) (by kernel_rfl) (fun _ _ _ h => h) (Or.inl ⟨by rfl, ?t2h2⟩) (by assumption) ?t2r2
  case t2h2 => (intro y hSu; (try dsimp only at hSu); go_simp; first | done | with_reducible rfl)
  (try simp only [Act.put, List.setIfInBounds_toArray, List.set_cons_zero, List.set_cons_succ])
  refine takeL (i := 3) (v := ?t2v3) (some 7) rfl rfl (by kernel_rfl) (by kernel_rfl) (by kernel_rfl) (by kernel_rfl) (by kernel_rfl) (fun _ _ _ h => h) (Or.inl ⟨by rfl, ?t2h3⟩) (by assumption) ?t2r3
  case t2h3 => (intro y hSu; (try dsimp only at hSu); go_simp; first | done | with_reducible rfl)
  (try simp only [Act.put, List.setIfInBounds_toArray, List.set_cons_zero, List.set_cons_succ])
  refine takeL (i := 4) (v := ?t2v4) (some 8) rfl rfl (by kernel_rfl) (by kernel_rfl) (by kernel_rfl) (by kernel_rfl) (by kernel_rfl) (fun _ _ _ h => h) (Or.inl ⟨by rfl, ?t2h4⟩) (by assumption) ?t2r4
  case t2h4 => (intro y hSu; (try dsimp only at hSu); go_simp; first | done | with_reducible rfl)
  (try simp only [Act.put, List.setIfInBounds_toArray, List.set_cons_zero, List.set_cons_succ])
  refine takeL (i := 5) (v := ?t2v5) (some 9) rfl rfl (by kernel_rfl) (by kernel_rfl) (by kernel_rfl) (by kernel_rfl) (by kernel_rfl) (fun _ _ _ h => h) (Or.inl ⟨by rfl, ?t2h5⟩) (by assumption) ?t2r5
  case t2h5 => (intro y hSu; (try dsimp only at hSu); go_simp; first | done | with_reducible rfl)
  (try simp only [Act.put, List.setIfInBounds_toArray, List.set_cons_zero, List.set_cons_succ])
  refine takeL (i := 6) (v := ?t2v6) (some 10) rfl rfl (by kernel_rfl) (by kernel_rfl) (by kernel_rfl) (by kernel_rfl) (by kernel_rfl) (fun _ _ _ h => h) (Or.inl ⟨by rfl, ?t2h6⟩) (by assumption) ?t2r6
  case t2h6 => (intro y hSu; (try dsimp only at hSu); go_simp; first | done | with_reducible rfl)
  (try simp only [Act.put, List.setIfInBounds_toArray, List.set_cons_zero, List.set_cons_succ])
  refine takeL (i := 7) (v := ?t2v7) (some 11) rfl rfl (by kernel_rfl) (by kernel_rfl) (by kernel_rfl) (by kernel_rfl) (by kernel_rfl) (fun _ _ _ h => h) (Or.inl ⟨by rfl, ?t2h7⟩) (by assumption) ?t2r7
  case t2h7 => (intro y hSu; (try dsimp only at hSu); go_simp; first | done | with_reducible rfl)
  (try simp only [Act.put, List.setIfInBounds_toArray, List.set_cons_zero, List.set_cons_succ])
  have d0' : (w.drew.alloc (.cells #[.slice ra rn rc, .slice sa sn sc] 25)).cell? ⟨q, 0, none⟩ = some (.slice ra rn rc) := cell_later (w := w) (below_drewN ((Below.refl w.heap.size w).alloc (Nat.le_refl _) _) 1) d0
  have d1' : (w.drew.alloc (.cells #[.slice ra rn rc, .slice sa sn sc] 25)).cell? ⟨q, 1, none⟩ = some (.slice sa sn sc) := cell_later (w := w) (below_drewN ((Below.refl w.heap.size w).alloc (Nat.le_refl _) _) 1) d1
  refine readyL (i := 8) (by kernel_rfl) rfl (fun K hK => ?_)
  go_simp
  refine hK.out _ _ (fun _ => (And.intro d0' d1')) ?_
  clear hK K
  (try simp only [Act.put, List.setIfInBounds_toArray, List.set_cons_zero, List.set_cons_succ])
  have hH4 := (And.intro d0' d1')
  refine readyL (i := 9) (by kernel_rfl) rfl (fun K hK => ?_)
  go_simp
  refine (unhide CC w.drew ⟨rfl, rfl, rfl, rfl⟩).mono ?_
  rintro e w2 ⟨a2, n2, c2, rfl, ⟨ee0, ee1⟩, hZ⟩
  (try dsimp only)
  refine hK.out _ _ (fun _ => (And.intro ee0 ee1)) ?_
  clear hK K
  (try simp only [Act.put, List.setIfInBounds_toArray, List.set_cons_zero, List.set_cons_succ])
  have hH6 := (And.intro ee0 ee1)
  refine takeL (i := 10) (v := ?t7v10) (some 3) rfl rfl (by kernel_rfl) (by kernel_rfl) (by kernel_rfl) (by kernel_rfl) (by kernel_rfl) (fun _ _ _ h => h) (Or.inl ⟨by rfl, ?t7h10⟩) (by assumption) ?t7r10
  case t7h10 => (intro y hSu; (try dsimp only at hSu); go_simp; first | done | with_reducible rfl)
  (try simp only [Act.put, List.setIfInBounds_toArray, List.set_cons_zero, List.set_cons_succ])
  refine doneL (by kernel_rfl) ?_ _
  refine NoPanic.normal ?_
  obtain ⟨z1, z2⟩ := unhide hZ
  have hlen : (outs X.ps k ++ inns X.ps k).length ≤ 2000000 := by have := unhide HL; simp only [List.length_append]; omega
  have CS := hide (unhide HR w2 (.slice a2 n2 c2) _ z1 hlen)
  have HZ := hide (And.intro z1 (And.intro z2 hlen))
  clear z1 z2 hlen hZ ee0 ee1 d0 d1 d0' d1' CC HL HR hHeld
  go_wp2_with fail
  refine (unhide CS).mono ?_
  rintro e w3 ⟨rfl, hS⟩
  obtain ⟨ys, p1, p2, p3, p4⟩ := unhide hS
  have CK := hide (unhide HK w3 (.slice a2 n2 c2) ys p3 (by rw [p1.length_eq]; exact (unhide HZ).2.2))
  have HP := hide (And.intro p1 (And.intro p2 p4))
  have HP3 := hide p3
  clear CS hS p1 p2 p3 p4 HK
  go_wp2_with fail
  refine (unhide CK).mono ?_
  rintro e w4 ⟨v4, rfl, hK⟩
  have HF : Hid (BRow w.heap.size w4 v4 (boths X.ps k) ∧ Below w.heap.size w w4) := by
    obtain ⟨z1, z2, -⟩ := unhide HZ
    obtain ⟨p1, p2, p4⟩ := unhide HP
    obtain ⟨k1, k2⟩ := unhide hK
    rw [compact_boths p1 p2] at k1
    have own : ∀ j, some j = (Value.slice a2 n2 c2).ownBlock → w.heap.size ≤ j := fun j e => (z1.lt j e.symm).1
    have s2 := z2.size
    have s3 := p4.size
    have s4 := k2.size
    exact ⟨k1, ⟨k2.os.trans (p4.os.trans z2.os), k2.tape.trans (p4.tape.trans z2.tape), k2.output.trans (p4.output.trans z2.output), by omega, fun j hj => (k2.block j (by omega) (fun e => by have := own j e; omega)).trans ((p4.block j (by omega) (fun e => by have := own j e; omega)).trans (z2.block j hj))⟩⟩
  obtain ⟨a4, c4, e4, -⟩ := brow_shape (unhide hK).1
  obtain ⟨n4, hn4⟩ : ∃ n4, v4 = .slice a4 n4 c4 := ⟨_, e4⟩
  subst hn4
  clear CK hK HP HP3 HZ e4
  go_wp2_with fail
  go_ret
  exact ⟨_, rfl, unhide HF⟩
end
end Go.Proofs.YtagibmgbjhemkaaGreat
