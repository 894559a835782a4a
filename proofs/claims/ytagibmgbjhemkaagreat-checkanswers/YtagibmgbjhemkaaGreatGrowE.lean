/- A table grows. -/
import Derived.Test.YtagibmgbjhemkaaGreatTabE
import Derived.Lib.AppendZeros
namespace Go.Proofs.YtagibmgbjhemkaaGreat
open Go.RowKit Go.Maps

theorem infoPE : (Tryz.prog.info? 172).map (fun i => (i.zero, i.size, i.bytes)) = some (some (.agg #[.int .i64 0, .int .i64 0, .int .i64 0, .int .u32 0, .bool false]), 5, 40) := by kernel_rfl

/-- One place more: the append and the store. -/
theorem growMemE [Inhabited EntI] {w : World} {t hp : Nat} {v : Value} {most : Int} {ps : List (EdgeV × Bool)} {ms : List EntI} {n : Nat} {G : Nat → Prop} (h : TAtE w t hp v most ps ms n G) (hlt : (ps.length : Int) < most) :
    ∃ g c w', (Builtin.append_ #[164, 164] 164 #[v, .slice (some ⟨w.heap.size, 0, none⟩) 1 1]).run Tryz.prog (w.alloc (.cells #[.int .i64 0, .int .i64 0, .int .i64 0, .int .u32 0, .bool false] 172)) = .ok (.slice (some ⟨g, 0, none⟩) (ps.length + 1) c) w' ∧
      w'.cell? ⟨t, 2, none⟩ = some (.pointer (some ⟨hp, 0, none⟩)) ∧ (∃ u, w'.cell? ⟨t, 1, none⟩ = some u) ∧ (∀ o, w'.frozen? ⟨t, o, none⟩ = false) ∧
      (w'.setCell ⟨t, 1, none⟩ (.slice (some ⟨g, 0, none⟩) (ps.length + 1) c)).heap[t]? = some (.cells #[.int .i64 most, .slice (some ⟨g, 0, none⟩) (ps.length + 1) c, .pointer (some ⟨hp, 0, none⟩)] 166 (0, 0)) ∧
      (w'.setCell ⟨t, 1, none⟩ (.slice (some ⟨g, 0, none⟩) (ps.length + 1) c)).ownsRow 0 172 5 (.slice (some ⟨g, 0, none⟩) (ps.length + 1) c) (ps.length + 1) (encE (ps ++ [(((0, 0, 0, 0) : EdgeV), false)])) ∧
      OnI (w'.setCell ⟨t, 1, none⟩ (.slice (some ⟨g, 0, none⟩) (ps.length + 1) c)) hp G ms n ∧ g ≠ t ∧ ¬ G g ∧ (v.ownBlock = some g ∨ w.heap.size ≤ g) ∧
      Turned (Feet t v G) w (w'.setCell ⟨t, 1, none⟩ (.slice (some ⟨g, 0, none⟩) (ps.length + 1) c)) := by
  obtain ⟨i0, hi0, hz0, hzs, hzb⟩ := info_parts infoPE
  have hl := h.len
  have ht := h.top
  have htl := h.lt (.inl rfl)
  have hs1 : (w.alloc (.cells #[.int .i64 0, .int .i64 0, .int .i64 0, .int .u32 0, .bool false] 172)).heap.size = w.heap.size + 1 := by simp
  have hrowA : (w.alloc (.cells #[.int .i64 0, .int .i64 0, .int .i64 0, .int .u32 0, .bool false] 172)).ownsRow 0 172 5 v ps.length (encE ps) := row_kept5 h.row (fun j hj => ((Below.refl w.heap.size w).alloc (Nat.le_refl _) _).block j (h.row.lt j hj).2)
  obtain ⟨v', w', hr, hown', hgr, -, hloc⟩ := run_append_own_at (P := Tryz.prog) (w.alloc (.cells #[.int .i64 0, .int .i64 0, .int .i64 0, .int .u32 0, .bool false] 172)) 0 164 164 172 i0 _ 5 40 Tryz.underlying164 hi0 hz0 hzs hzb rfl (by omega) v ps.length (encE ps) hrowA ⟨w.heap.size, 0, none⟩ 1 1 [.int .i64 0, .int .i64 0, .int .i64 0, .int .u32 0, .bool false] rfl
    (fun j u hj => by
      have add : (⟨w.heap.size, 0, none⟩ : Addr).add j = ⟨w.heap.size, j, none⟩ := by unfold Addr.add; split <;> simp_all
      have h1 : j < 5 := by
        have := (List.getElem?_eq_some_iff.1 hj).1
        simpa using this
      rw [add, World.cell?_alloc_at _ _ _ _ (by simp)]
      match j, h1 with
      | 0, _ => simpa using hj
      | 1, _ => simpa using hj
      | 2, _ => simpa using hj
      | 3, _ => simpa using hj
      | 4, _ => simpa using hj) (by intro u hu; simp at hu; rcases hu with rfl | rfl | rfl <;> rfl) (by unfold maxLen; omega) (by omega) (Nat.zero_le _)
  have hloc' : ∀ b, v'.ownBlock = some b → v.ownBlock = some b ∨ w.heap.size + 1 ≤ b := fun b hb => by
    rcases hloc with e | e
    · exact .inl (e ▸ hb)
    · rw [hb, hs1] at e; exact .inr (by have := Option.some.inj e; omega)
  have hw1 : ∀ j, j < w.heap.size → v.ownBlock ≠ some j → w'.heap[j]? = w.heap[j]? := fun j hj hne => by
    rw [hgr.block j (by rw [hs1]; omega) (fun e => hne e.symm)]
    exact ((Below.refl w.heap.size w).alloc (Nat.le_refl _) _).block j hj
  have hws : w.heap.size + 1 ≤ w'.heap.size := by have := hgr.size; omega
  have box1 : w'.heap[t]? = some (.cells #[.int .i64 most, v, .pointer (some ⟨hp, 0, none⟩)] 166 (0, 0)) := (hw1 t htl h.nv).trans h.box
  obtain ⟨g, c, rfl⟩ : ∃ g c, v' = .slice (some ⟨g, 0, none⟩) (ps.length + 1) c := by
    rcases hown'.2 with ⟨-, h3⟩ | ⟨g, cap, cur, rfl, -⟩
    · omega
    · exact ⟨g, cap, rfl⟩
  have hgo := hloc' g rfl
  have hgt : g ≠ t := fun e => by
    subst e
    rcases hgo with e | e
    · exact h.nv e
    · omega
  have hgG : ¬ G g := fun e => by
    rcases hgo with e2 | e2
    · exact h.ng g e2 e
    · have := h.on.lt e; omega
  refine ⟨g, c, w', hr, ?_, ⟨v, ?_⟩, fun o => frozen_of_row w' t o _ _ box1, ?_, ?_, ?_, hgt, hgG, hgo.imp id (fun e => by omega), ?_⟩
  · rw [cell_of_row w' t _ _ _ _ box1]; rfl
  · rw [cell_of_row w' t _ _ _ _ box1]; rfl
  · rw [heap_setCell_same _ _ _ _ _ _ box1]; rfl
  · have henc : encE (ps ++ [(((0, 0, 0, 0) : EdgeV), false)]) = encE ps ++ [.int .i64 0, .int .i64 0, .int .i64 0, .int .u32 0, .bool false] := by rw [encE_append]; rfl
    rw [henc]
    refine row_kept5 hown' (fun b hb => ?_)
    have hbg : g = b := by simpa [Value.ownBlock] using hb
    rw [heap_setCell_other _ _ _ _ (by rw [← hbg]; exact hgt)]
  · refine h.on.kept (fun k hk => ?_)
    have hne : k ≠ t := fun e => h.nt (by rw [← e]; exact hk)
    rw [heap_setCell_other _ _ _ _ hne]
    exact hw1 k (h.on.lt hk) (fun e => h.ng k e hk)
  · refine ⟨hgr.os, hgr.tape, hgr.output, ?_, fun j hj hf => ?_⟩
    · have : (w'.setCell ⟨t, 1, none⟩ (.slice (some ⟨g, 0, none⟩) (ps.length + 1) c)).heap.size = w'.heap.size := by simp
      omega
    · rw [heap_setCell_other _ _ _ _ (fun e => hf (.inl e))]
      exact hw1 j hj (fun e => hf (.inr (.inl e)))

/-- Behind the heap's Push. -/
theorem grownE [Inhabited EntI] {w w2 w3 : World} {t hp g c : Nat} {v : Value} {most : Int} {ps : List (EdgeV × Bool)} {ms : List EntI} {n : Nat} {G G' : Nat → Prop} (h : TAtE w t hp v most ps ms n G) (hlt : (ps.length : Int) < most)
    (box : w2.heap[t]? = some (.cells #[.int .i64 most, .slice (some ⟨g, 0, none⟩) (ps.length + 1) c, .pointer (some ⟨hp, 0, none⟩)] 166 (0, 0))) (row : w2.ownsRow 0 172 5 (.slice (some ⟨g, 0, none⟩) (ps.length + 1) c) (ps.length + 1) (encE (ps ++ [(((0, 0, 0, 0) : EdgeV), false)])))
    (hgt : g ≠ t) (hgG : ¬ G g) (hgo : v.ownBlock = some g ∨ w.heap.size ≤ g) (ht : Turned (Feet t v G) w w2)
    (on : OnI w3 hp G' (ms ++ [⟨(ps.length : Int) + 1, (ps.length : Int) + 1, n⟩]) (n + 1)) (h3 : Turned G w2 w3) (hG : ∀ j, G' j → G j ∨ w2.heap.size ≤ j) :
    TAtE w3 t hp (.slice (some ⟨g, 0, none⟩) (ps.length + 1) c) most (ps ++ [(((0, 0, 0, 0) : EdgeV), false)]) (ms ++ [⟨(ps.length : Int) + 1, (ps.length : Int) + 1, n⟩]) (n + 1) G' ∧ Turned (Feet t v G) w w3 ∧ ∀ j, Feet t (.slice (some ⟨g, 0, none⟩) (ps.length + 1) c) G' j → Feet t v G j ∨ w.heap.size ≤ j := by
  have htl := (Array.getElem?_eq_some_iff.1 box).1
  have hgl := (row.lt g rfl).2
  have hs := ht.size
  have hlen : (ps ++ [(((0, 0, 0, 0) : EdgeV), false)]).length = ps.length + 1 := by simp
  have ntG : ¬ G' t := fun e => by
    rcases hG t e with e | e
    · exact h.nt e
    · omega
  have ngG : ¬ G' g := fun e => by
    rcases hG g e with e | e
    · exact hgG e
    · omega
  refine ⟨⟨(h3.block t htl h.nt).trans box, ?_, on, frees_grow h.fr _ _, ntG, fun e => hgt (by simpa [Value.ownBlock] using e), fun b hb => ?_, ?_, h.top⟩, ?_, fun j hj => ?_⟩
  · rw [hlen]
    refine row_kept5 row (fun b hb => ?_)
    have hbg : g = b := by simpa [Value.ownBlock] using hb
    subst hbg
    exact h3.block g hgl hgG
  · have hbg : g = b := by simpa [Value.ownBlock] using hb
    subst hbg; exact ngG
  · rw [hlen]; push_cast; omega
  · exact ht.then_ h3 (fun i _ hg => .inr (.inr hg))
  · rcases hj with rfl | hj | hj
    · exact .inl (.inl rfl)
    · have hbg : g = j := by simpa [Value.ownBlock] using hj
      subst hbg
      exact hgo.imp (fun e => .inr (.inl e)) id
    · rcases hG j hj with e | e
      · exact .inl (.inr (.inr e))
      · exact .inr (Nat.le_trans hs e)
end Go.Proofs.YtagibmgbjhemkaaGreat
