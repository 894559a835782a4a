/- Heads of parts of texts: each part has one, and their parts' sizes make the whole. -/
import Derived.Test.YtfhidghjmookhaaSideZ
import Derived.Test.YtfhidghjmookhaaFilled
namespace Go.Proofs.Ytfhidghjmookhaa
open Go.RowKit Go.Maps

/-- How many things are in k's part. -/
def sizeOfPart (S : List (Part (List UInt8))) (k : List UInt8) : Nat := ((S.find? (fun x => decide (k ∈ x.ks))).map (·.ks.length)).getD 0

theorem sizeOfPart_eq {S : List (Part (List UInt8))} (h : Fam ltZ okZ S) {x : Part (List UInt8)} (hx : x ∈ S) {k : List UInt8} (hk : k ∈ x.ks) : sizeOfPart S k = x.ks.length := by
  unfold sizeOfPart
  cases hf : S.find? (fun x => decide (k ∈ x.ks)) with
  | none =>
    rw [List.find?_eq_none] at hf
    exact absurd (by simpa using hk) (hf x hx)
  | some y =>
    have hy := List.mem_of_find?_eq_some hf
    have hk2 : k ∈ y.ks := by simpa using List.find?_some hf
    rcases h.of hx hy with rfl | ha
    · rfl
    · exact absurd hk2 (ha.2.2 k hk)

theorem headD_mem {S : List (Part (List UInt8))} (h : Fam ltZ okZ S) {x : Part (List UInt8)} (hx : x ∈ S) : x.ks.headD [] ∈ x.ks := by
  have := h.some_ x hx
  cases e : x.ks with
  | nil => exact absurd e this
  | cons a l => simp

/-- The parts' heads: no two alike. -/
theorem heads_nodup {S : List (Part (List UInt8))} (h : Fam ltZ okZ S) : (S.map (fun x => x.ks.headD [])).Nodup := by
  have h2 : ∀ x ∈ S, x.ks.headD [] ∈ x.ks := fun x hx => headD_mem h hx
  have hp := h.apart
  clear h
  induction S with
  | nil => exact List.nodup_nil
  | cons y S ih =>
    have p := List.pairwise_cons.1 hp
    rw [List.map_cons]
    refine List.nodup_cons.2 ⟨fun hm => ?_, ih (fun x hx => h2 x (List.mem_cons_of_mem _ hx)) p.2⟩
    obtain ⟨x, hx, e⟩ := List.mem_map.1 hm
    have h3 := h2 x (List.mem_cons_of_mem _ hx)
    rw [e] at h3
    exact (p.1 x hx).2.2 _ (h2 y (List.mem_cons_self ..)) h3

theorem heads_sum {S : List (Part (List UInt8))} (h : Fam ltZ okZ S) {ys : List (List UInt8)} (hy : HeadsAreZ S ys) : (ys.map (sizeOfPart S)).sum = tot S := by
  have hp : ys.Perm (S.map (fun x => x.ks.headD [])) := (List.perm_ext_iff_of_nodup (hy.1.nodup linZ) (heads_nodup h)).2 (fun k => (hy.2 k).trans (by simp [List.mem_map]))
  have h1 := (hp.map (sizeOfPart S)).sum_nat
  rw [h1, List.map_map]
  unfold tot
  congr 1
  apply List.map_congr_left
  intro x hx
  exact sizeOfPart_eq h hx (headD_mem h hx)

theorem take_sum_le (l : List Nat) (t : Nat) : (l.take t).sum ≤ l.sum := by
  have h := congrArg List.sum (List.take_append_drop t l)
  rw [List.sum_append] at h
  omega

/-- Two heads stand in one part just if they are one. -/
theorem head_same {S : List (Part (List UInt8))} (h : Fam ltZ okZ S) {x y : Part (List UInt8)} (hx : x ∈ S) (hy : y ∈ S) : ((fOf S (y.ks.headD [])).isSome && fOf S (y.ks.headD []) == fOf S (x.ks.headD [])) = decide (y.ks.headD [] = x.ks.headD []) := by
  rw [fOf_some h hy (headD_mem h hy), fOf_some h hx (headD_mem h hx)]
  rcases h.of hx hy with rfl | ha
  · simp
  · have h1 : y.ks.headD [] ≠ x.ks.headD [] := fun e => ha.2.2 _ (headD_mem h hx) (e ▸ headD_mem h hy)
    have h2 : ¬ y.q = x.q := fun e => ha.1 e.symm
    simp only [decide_eq_false h1]
    simp [h2]

theorem ltZ_nil {a : List UInt8} (h : a ≠ []) : ltZ [] a = true := by
  cases a with
  | nil => exact absurd rfl h
  | cons x l => simp [ltZ]
theorem rising_at {l : List (List UInt8)} (h : Rising ltZ l) {i j : Nat} (hij : i < j) (hj : j < l.length) : ltZ (l.getD i []) (l.getD j []) = true := by
  have h1 := (List.pairwise_iff_getElem.1 h) i j (by omega) hj hij
  simpa [List.getD, hj, show i < l.length by omega] using h1
/-- a is before b: so b isn't at most a. -/
theorem not_le {a b : List UInt8} (h : ltZ a b = true) : Op.bytesLess b a = false ∧ (b == a) = false := by
  refine ⟨?_, ?_⟩
  · rw [bytesLess_eq]
    cases hb : decide (b < a) with
    | false => rfl
    | true =>
      have := linZ.trans _ _ _ h (show ltZ b a = true from hb)
      rw [linZ.irr] at this
      cases this
  · cases hb : b == a with
    | false => rfl
    | true =>
      have e := eq_of_beq hb
      rw [e, linZ.irr] at h
      cases h
end Go.Proofs.Ytfhidghjmookhaa
