/- Parts of ints against the reference's items: Drop, Join, Burst. -/
import Derived.Test.YtfhidghjmookhaaRel
namespace Go.Proofs.Ytfhidghjmookhaa
open Go.RowKit Go.Maps
section
variable {S : List (Part Int)} {its : List (Int × Int)} {nx : Int}

theorem del_at (i j : Nat) (hi1 : i < its.length) : lo (its.take i ++ its.drop (i + 1)) j = (if j < i then lo its j else lo its (j + 1)) ∧ hi (its.take i ++ its.drop (i + 1)) j = if j < i then hi its j else hi its (j + 1) := by
  have e : (its.take i ++ its.drop (i + 1))[j]? = if j < i then its[j]? else its[j + 1]? := by
    rw [List.getElem?_append, List.length_take, show min i its.length = i by omega]
    by_cases h1 : j < i
    · rw [if_pos h1, if_pos h1, List.getElem?_take, if_pos h1]
    · rw [if_neg h1, if_neg h1, List.getElem?_drop]
      congr 1
      omega
  unfold lo hi List.getD
  rw [e]
  by_cases h1 : j < i
  · simp only [if_pos h1]; exact ⟨trivial, trivial⟩
  · simp only [if_neg h1]; exact ⟨trivial, trivial⟩

theorem Rel.drop (h : Rel S its nx) (hf : Fam ltN okN S) {i : Nat} (hi1 : i < its.length) {k : Int} (hk : lo its i = k) {x : Part Int} (hx : x ∈ S) (hkx : k ∈ x.ks) {T : List (Part Int)} (hT : ∀ y ∈ T, ∀ j, j ∈ y.ks ↔ j ∈ x.ks ∧ j ≠ k) (hT2 : T = [] ∧ x.ks = [k] ∨ ∃ y, T = [y] ∧ y.q = x.q) (ht : tot (without x S ++ T) + 1 = tot S) :
    Rel (without x S ++ T) (its.take i ++ its.drop (i + 1)) nx := by
  have hl : (its.take i ++ its.drop (i + 1)).length + 1 = its.length := by simp; omega
  have hSm : ∀ a b, Sm (without x S ++ T) a b ↔ Sm S a b ∧ a ≠ k ∧ b ≠ k := fun a b => by
    constructor
    · rintro ⟨z, hz, h1, h2⟩
      rcases List.mem_append.1 hz with e | e
      · obtain ⟨z1, z2⟩ := mem_without.1 e
        have hno : k ∉ z.ks := fun hkz => by
          rcases hf.of hx z1 with rfl | hA
          · exact z2 rfl
          · exact hA.2.2 k hkx hkz
        exact ⟨⟨z, z1, h1, h2⟩, fun e => hno (e ▸ h1), fun e => hno (e ▸ h2)⟩
      · have a1 := (hT z e a).1 h1
        have a2 := (hT z e b).1 h2
        exact ⟨⟨x, hx, a1.1, a2.1⟩, a1.2, a2.2⟩
    · rintro ⟨⟨z, hz, h1, h2⟩, ha, hb⟩
      by_cases hq : z.q = x.q
      · have hzx : z = x := by
          rcases hf.of hz hx with e | hA
          · exact e
          · exact absurd hq hA.1
        subst hzx
        rcases hT2 with ⟨-, e⟩ | ⟨y, e, -⟩
        · rw [e, List.mem_singleton] at h1
          exact absurd h1 ha
        · have hy : y ∈ T := by rw [e]; simp
          exact ⟨y, List.mem_append.2 (.inr hy), (hT y hy a).2 ⟨h1, ha⟩, (hT y hy b).2 ⟨h2, hb⟩⟩
      · exact ⟨z, List.mem_append.2 (.inl (mem_without.2 ⟨hz, hq⟩)), h1, h2⟩
  have hIn : ∀ y, In (without x S ++ T) y ↔ In S y ∧ y ≠ k := fun y => by
    have := hSm y y
    constructor
    · rintro ⟨z, hz, h1⟩
      have h2 := this.1 ⟨z, hz, h1, h1⟩
      exact ⟨h2.1.left, h2.2.1⟩
    · rintro ⟨⟨z, hz, h1⟩, h2⟩
      exact (this.2 ⟨⟨z, hz, h1, h1⟩, h2, h2⟩).left
  have hpl : ∀ j, j + 1 < its.length → ∃ j', j' < its.length ∧ j' ≠ i ∧ (j = j' ∧ j' < i ∨ j + 1 = j' ∧ i ≤ j) ∧ lo (its.take i ++ its.drop (i + 1)) j = lo its j' ∧ hi (its.take i ++ its.drop (i + 1)) j = hi its j' := fun j hj => by
    obtain ⟨e1, e2⟩ := del_at (its := its) i j hi1
    by_cases h1 : j < i
    · rw [if_pos h1] at e1 e2
      exact ⟨j, by omega, by omega, .inl ⟨rfl, h1⟩, e1, e2⟩
    · rw [if_neg h1] at e1 e2
      exact ⟨j + 1, hj, by omega, .inr ⟨rfl, by omega⟩, e1, e2⟩
  have hold : ∀ j', j' < its.length → j' ≠ i → ∃ j, j + 1 < its.length ∧ lo (its.take i ++ its.drop (i + 1)) j = lo its j' := fun j' hj' hne => by
    by_cases h1 : j' < i
    · refine ⟨j', by omega, ?_⟩
      rw [(del_at (its := its) i j' hi1).1, if_pos h1]
    · refine ⟨j' - 1, by omega, ?_⟩
      rw [(del_at (its := its) i (j' - 1) hi1).1, if_neg (by omega), show j' - 1 + 1 = j' by omega]
  have hne : ∀ j', j' < its.length → j' ≠ i → lo its j' ≠ k := fun j' h1 h2 e => h2 (h.inj h1 hi1 (e.trans hk.symm))
  refine ⟨fun a b hab hb => ?_, fun y => ?_, fun a b ha hb => ?_, fun a ha => ?_, ?_⟩
  · obtain ⟨a', a1, -, a2, a3, -⟩ := hpl a (by omega)
    obtain ⟨b', b1, -, b2, b3, -⟩ := hpl b (by omega)
    rw [a3, b3]
    exact h.sorted a' b' (by omega) b1
  · rw [hIn, h.keys]
    constructor
    · rintro ⟨⟨j', h1, h2⟩, h3⟩
      obtain ⟨j, h4, h5⟩ := hold j' h1 (fun e => h3 (by rw [← h2, e, hk]))
      exact ⟨j, by omega, h5.trans h2⟩
    · rintro ⟨j, h1, h2⟩
      obtain ⟨j', a1, a2, -, a3, -⟩ := hpl j (by omega)
      exact ⟨⟨j', a1, a3.symm.trans h2⟩, fun e => hne j' a1 a2 (by rw [← a3, h2, e])⟩
  · obtain ⟨a', a1, a0, -, a3, a4⟩ := hpl a (by omega)
    obtain ⟨b', b1, b0, -, b3, b4⟩ := hpl b (by omega)
    rw [a3, a4, b3, b4, hSm, h.marks a' b' a1 b1]
    exact ⟨fun e => ⟨e, hne a' a1 a0, hne b' b1 b0⟩, fun e => e.1⟩
  · obtain ⟨a', a1, -, -, -, a4⟩ := hpl a (by omega)
    rw [a4]
    exact h.fresh a' a1
  · have := h.len; omega

theorem map_at {f : Int × Int → Int × Int} {j : Nat} (hj : j < its.length) : lo (its.map f) j = (f (lo its j, hi its j)).1 ∧ hi (its.map f) j = (f (lo its j, hi its j)).2 := by
  have e : (its.map f)[j]? = some (f (lo its j, hi its j)) := by
    rw [List.getElem?_map, List.getElem?_eq_getElem hj, lohi hj]
    rfl
  have e2 : (its.map f).getD j (0, 0) = f (lo its j, hi its j) := by
    rw [List.getD, e]; rfl
  exact ⟨by show ((its.map f).getD j (0, 0)).1 = _; rw [e2], by show ((its.map f).getD j (0, 0)).2 = _; rw [e2]⟩

theorem Rel.join (h : Rel S its nx) (hf : Fam ltN okN S) {ia ib : Nat} (ha1 : ia < its.length) (hb1 : ib < its.length) {x y z : Part Int} (hx : x ∈ S) (hy : y ∈ S) (ha : lo its ia ∈ x.ks) (hb : lo its ib ∈ y.ks) (hq : x.q ≠ y.q)
    {R : List (Part Int)} (hz : ∀ k, k ∈ z.ks ↔ k ∈ x.ks ∨ k ∈ y.ks) (hzl : z.ks.length = x.ks.length + y.ks.length) (hR : R = without y (without x S) ∨ R = without x (without y S)) :
    Rel (R ++ [z]) (its.map (remark (hi its ib) (hi its ia))) nx := by
  have hmem : ∀ u, u ∈ R ↔ u ∈ S ∧ u.q ≠ x.q ∧ u.q ≠ y.q := fun u => by
    rcases hR with rfl | rfl
    · rw [mem_without, mem_without]; exact ⟨fun h => ⟨h.1.1, h.1.2, h.2⟩, fun h => ⟨⟨h.1, h.2.1⟩, h.2.2⟩⟩
    · rw [mem_without, mem_without]; exact ⟨fun h => ⟨h.1.1, h.2, h.1.2⟩, fun h => ⟨⟨h.1, h.2.2⟩, h.2.1⟩⟩
  have hSm : ∀ a b, Sm (R ++ [z]) a b ↔ Sm S a b ∨ (a ∈ x.ks ∨ a ∈ y.ks) ∧ (b ∈ x.ks ∨ b ∈ y.ks) := fun a b => by
    constructor
    · rintro ⟨u, hu, h1, h2⟩
      rcases List.mem_append.1 hu with e | e
      · exact .inl ⟨u, ((hmem u).1 e).1, h1, h2⟩
      · rw [List.mem_singleton.1 e] at h1 h2
        exact .inr ⟨(hz a).1 h1, (hz b).1 h2⟩
    · rintro (⟨u, hu, h1, h2⟩ | ⟨h1, h2⟩)
      · by_cases e1 : u.q = x.q
        · have : u = x := by
            rcases hf.of hu hx with e | hA
            · exact e
            · exact absurd e1 hA.1
          subst this
          exact ⟨z, by simp, (hz a).2 (.inl h1), (hz b).2 (.inl h2)⟩
        · by_cases e2 : u.q = y.q
          · have : u = y := by
              rcases hf.of hu hy with e | hA
              · exact e
              · exact absurd e2 hA.1
            subst this
            exact ⟨z, by simp, (hz a).2 (.inr h1), (hz b).2 (.inr h2)⟩
          · exact ⟨u, List.mem_append.2 (.inl ((hmem u).2 ⟨hu, e1, e2⟩)), h1, h2⟩
      · exact ⟨z, by simp, (hz a).2 h1, (hz b).2 h2⟩
  have hIn : ∀ k, In (R ++ [z]) k ↔ In S k := fun k => by
    constructor
    · rintro ⟨u, hu, h1⟩
      rcases (hSm k k).1 ⟨u, hu, h1, h1⟩ with e | ⟨e | e, -⟩
      · exact e.left
      · exact ⟨x, hx, e⟩
      · exact ⟨y, hy, e⟩
    · rintro ⟨u, hu, h1⟩
      exact ((hSm k k).2 (.inl ⟨u, hu, h1, h1⟩)).left
  have hlen : (its.map (remark (hi its ib) (hi its ia))).length = its.length := List.length_map _
  have hlo : ∀ j, j < its.length → lo (its.map (remark (hi its ib) (hi its ia))) j = lo its j := fun j hj => by
    rw [(map_at hj).1]; unfold remark; split <;> rfl
  have hhi : ∀ j, j < its.length → hi (its.map (remark (hi its ib) (hi its ia))) j = if hi its j = hi its ib then hi its ia else hi its j := fun j hj => by
    rw [(map_at hj).2]; unfold remark
    by_cases e : hi its j = hi its ib
    · rw [if_pos e, if_pos e]
    · rw [if_neg e, if_neg e]
  -- who bears which mark
  have mB : ∀ j, j < its.length → (hi its j = hi its ib ↔ lo its j ∈ y.ks) := fun j hj => by
    rw [h.marks j ib hj hb1]
    exact ⟨fun e => (sm_iff hf hy hb _).1 e.symm, fun e => ⟨y, hy, e, hb⟩⟩
  have mA : ∀ j, j < its.length → (hi its j = hi its ia ↔ lo its j ∈ x.ks) := fun j hj => by
    rw [h.marks j ia hj ha1]
    exact ⟨fun e => (sm_iff hf hx ha _).1 e.symm, fun e => ⟨x, hx, e, ha⟩⟩
  refine ⟨fun a b hab hb => ?_, fun k => ?_, fun a b ha2 hb2 => ?_, fun a ha2 => ?_, ?_⟩
  · rw [hlen] at hb
    rw [hlo a (by omega), hlo b hb]
    exact h.sorted a b hab hb
  · rw [hIn, h.keys, hlen]
    exact ⟨fun ⟨j, h1, h2⟩ => ⟨j, h1, (hlo j h1).trans h2⟩, fun ⟨j, h1, h2⟩ => ⟨j, h1, (hlo j h1).symm.trans h2⟩⟩
  · rw [hlen] at ha2 hb2
    rw [hlo a ha2, hlo b hb2, hhi a ha2, hhi b hb2, hSm, ← h.marks a b ha2 hb2]
    have b1 := mB a ha2
    have b2 := mB b hb2
    have a1 := mA a ha2
    have a2 := mA b hb2
    by_cases e1 : hi its a = hi its ib
    · rw [if_pos e1]
      have y1 := b1.1 e1
      by_cases e2 : hi its b = hi its ib
      · rw [if_pos e2]
        exact ⟨fun _ => .inl (e1.trans e2.symm), fun _ => rfl⟩
      · rw [if_neg e2]
        constructor
        · intro e
          exact .inr ⟨.inr y1, .inl (a2.1 e.symm)⟩
        · rintro (e | ⟨-, e | e⟩)
          · exact absurd (e.symm.trans e1) e2
          · exact (a2.2 e).symm
          · exact absurd (b2.2 e) e2
    · rw [if_neg e1]
      by_cases e2 : hi its b = hi its ib
      · rw [if_pos e2]
        have y2 := b2.1 e2
        constructor
        · intro e
          exact .inr ⟨.inl (a1.1 e), .inr y2⟩
        · rintro (e | ⟨e | e, -⟩)
          · exact absurd (e.trans e2) e1
          · exact a1.2 e
          · exact absurd (b1.2 e) e1
      · rw [if_neg e2]
        constructor
        · exact .inl
        · rintro (e | ⟨e | e, f | f⟩)
          · exact e
          · exact (a1.2 e).trans (a2.2 f).symm
          · exact absurd (b2.2 f) e2
          · exact absurd (b1.2 e) e1
          · exact absurd (b1.2 e) e1
  · rw [hlen] at ha2
    rw [hhi a ha2]
    split
    · exact h.fresh ia ha1
    · exact h.fresh a ha2
  · rw [hlen, h.len, tot_append, tot_one, hzl]
    have t1 := tot_without hf hx
    have t2 := tot_without (hf.without x) (mem_without.2 ⟨hy, fun e => hq e.symm⟩)
    have t3 := tot_without hf hy
    have t4 := tot_without (hf.without y) (mem_without.2 ⟨hx, hq⟩)
    rcases hR with rfl | rfl <;> omega

theorem cntM_lt (m : Int) : ∀ {i j : Nat}, i < j → hi its i = m → cntM m its i < cntM m its j
  | i, 0, h, _ => by omega
  | i, j + 1, h, hm => by
    have e : cntM m its (j + 1) = if hi its j = m then cntM m its j + 1 else cntM m its j := rfl
    rcases Nat.lt_or_ge i j with g | g
    · have := cntM_lt m g hm
      rw [e]; split <;> omega
    · obtain rfl : i = j := by omega
      rw [e, if_pos hm]; omega

theorem Rel.burst (h : Rel S its nx) (hf : Fam ltN okN S) {i : Nat} (hi1 : i < its.length) {x : Part Int} (hx : x ∈ S) (hk : lo its i ∈ x.ks) {T : List (Part Int)} (hT : T.map (·.ks) = x.ks.map (fun k => [k])) :
    Rel (without x S ++ T) (bmark (hi its i) nx its its.length) (nx + cntM (hi its i) its its.length) := by
  have hTm : ∀ z ∈ T, ∃ k ∈ x.ks, z.ks = [k] := fun z hz => by
    have : z.ks ∈ T.map (·.ks) := List.mem_map.2 ⟨z, hz, rfl⟩
    rw [hT] at this
    obtain ⟨k, hk, e⟩ := List.mem_map.1 this
    exact ⟨k, hk, e.symm⟩
  have hTe : ∀ k ∈ x.ks, ∃ z ∈ T, z.ks = [k] := fun k hk => by
    have : [k] ∈ T.map (·.ks) := by rw [hT]; exact List.mem_map.2 ⟨k, hk, rfl⟩
    obtain ⟨z, hz, e⟩ := List.mem_map.1 this
    exact ⟨z, hz, e⟩
  have hSm : ∀ a b, Sm (without x S ++ T) a b ↔ Sm S a b ∧ a ∉ x.ks ∨ a = b ∧ a ∈ x.ks := fun a b => by
    constructor
    · rintro ⟨z, hz, h1, h2⟩
      rcases List.mem_append.1 hz with e | e
      · obtain ⟨z1, z2⟩ := mem_without.1 e
        refine .inl ⟨⟨z, z1, h1, h2⟩, fun hax => ?_⟩
        rcases hf.of hx z1 with rfl | hA
        · exact z2 rfl
        · exact hA.2.2 a hax h1
      · obtain ⟨k, hk, e2⟩ := hTm z e
        rw [e2, List.mem_singleton] at h1 h2
        exact .inr ⟨h1.trans h2.symm, by rw [h1]; exact hk⟩
    · rintro (⟨⟨z, hz, h1, h2⟩, h3⟩ | ⟨rfl, h3⟩)
      · refine ⟨z, List.mem_append.2 (.inl (mem_without.2 ⟨hz, fun e => ?_⟩)), h1, h2⟩
        rcases hf.of hz hx with e2 | hA
        · exact h3 (e2 ▸ h1)
        · exact hA.1 e
      · obtain ⟨z, hz, e⟩ := hTe a h3
        exact ⟨z, List.mem_append.2 (.inr hz), by rw [e]; simp, by rw [e]; simp⟩
  have hIn : ∀ k, In (without x S ++ T) k ↔ In S k := fun k => by
    constructor
    · rintro ⟨u, hu, h1⟩
      rcases (hSm k k).1 ⟨u, hu, h1, h1⟩ with e | e
      · exact e.1.left
      · exact ⟨x, hx, e.2⟩
    · rintro ⟨u, hu, h1⟩
      by_cases e : k ∈ x.ks
      · exact ((hSm k k).2 (.inr ⟨rfl, e⟩)).left
      · exact ((hSm k k).2 (.inl ⟨⟨u, hu, h1, h1⟩, e⟩)).left
  have hlen := bmark_length (hi its i) nx its its.length
  have hat := bmark_at (hi its i) nx its its.length (Nat.le_refl _)
  have mX : ∀ j, j < its.length → (hi its j = hi its i ↔ lo its j ∈ x.ks) := fun j hj => by
    rw [h.marks j i hj hi1]
    exact ⟨fun e => (sm_iff hf hx hk _).1 e.symm, fun e => ⟨x, hx, e, hk⟩⟩
  refine ⟨fun a b hab hb => ?_, fun k => ?_, fun a b ha2 hb2 => ?_, fun a ha2 => ?_, ?_⟩
  · rw [hlen] at hb
    rw [(hat a).1, (hat b).1]
    exact h.sorted a b hab hb
  · rw [hIn, h.keys, hlen]
    exact ⟨fun ⟨j, h1, h2⟩ => ⟨j, h1, (hat j).1.trans h2⟩, fun ⟨j, h1, h2⟩ => ⟨j, h1, (hat j).1.symm.trans h2⟩⟩
  · rw [hlen] at ha2 hb2
    rw [(hat a).1, (hat b).1, (hat a).2, (hat b).2, hSm]
    have fa := h.fresh a ha2
    have fb := h.fresh b hb2
    by_cases e1 : hi its a = hi its i
    · rw [if_pos ⟨ha2, e1⟩]
      have x1 := (mX a ha2).1 e1
      by_cases e2 : hi its b = hi its i
      · rw [if_pos ⟨hb2, e2⟩]
        constructor
        · intro e
          rcases Nat.lt_trichotomy a b with g | g | g
          · have := cntM_lt (its := its) (hi its i) g e1; omega
          · exact .inr ⟨by rw [g], x1⟩
          · have := cntM_lt (its := its) (hi its i) g e2; omega
        · rintro (e | ⟨e, -⟩)
          · exact absurd x1 e.2
          · rw [h.inj ha2 hb2 e]
      · rw [if_neg (fun g => e2 g.2)]
        constructor
        · intro e; omega
        · rintro (e | ⟨e, -⟩)
          · exact absurd x1 e.2
          · exact absurd (by rw [← h.inj ha2 hb2 e]; exact e1) e2
    · rw [if_neg (fun g => e1 g.2)]
      have x1 : lo its a ∉ x.ks := fun e => e1 ((mX a ha2).2 e)
      by_cases e2 : hi its b = hi its i
      · rw [if_pos ⟨hb2, e2⟩]
        constructor
        · intro e; omega
        · rintro (e | ⟨-, e⟩)
          · exact absurd (((h.marks a b ha2 hb2).2 e.1).trans e2) e1
          · exact absurd e x1
      · rw [if_neg (fun g => e2 g.2), h.marks a b ha2 hb2]
        exact ⟨fun e => .inl ⟨e, x1⟩, fun e => e.elim (fun e => e.1) (fun e => absurd e.2 x1)⟩
  · rw [hlen] at ha2
    rw [(hat a).2]
    have fa := h.fresh a ha2
    split
    · rename_i g
      have := cntM_lt (its := its) (hi its i) ha2 g.2
      omega
    · omega
  · rw [hlen, h.len, tot_append, tot_singlesN hT]
    exact tot_without hf hx |>.trans (Nat.add_comm _ _)
end
end Go.Proofs.Ytfhidghjmookhaa
