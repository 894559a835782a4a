/- A part of a list of records is appended. -/
import Derived.Test.YtagibmgbjhemkaaGreatRefSame
namespace Go.Proofs.YtagibmgbjhemkaaGreat
open Go.RowKit Go.Maps

theorem encG_len (gs : List EdgeV) : (encG gs).length = gs.length * 4 := by
  induction gs with
  | nil => rfl
  | cons r rs ih =>
    have e : encG (r :: rs) = .int .i64 r.1 :: .int .i64 r.2.1 :: .int .i64 r.2.2.1 :: .int .u32 r.2.2.2 :: encG rs := by simp [encG]
    rw [e]; simp only [List.length_cons, ih]; omega
theorem encG_app (a b : List EdgeV) : encG (a ++ b) = encG a ++ encG b := by simp [encG]
theorem encG_one (gs : List EdgeV) : ∀ u ∈ encG gs, u.oneCell' = true := by
  intro u hu
  simp only [encG, List.mem_flatMap] at hu
  obtain ⟨a, -, h⟩ := hu
  simp at h
  rcases h with rfl | rfl | rfl | rfl <;> rfl
theorem encG_seg (gs : List EdgeV) (i m : Nat) (hm : i + m ≤ gs.length) {j : Nat} {u : Value} (hj : (encG ((gs.drop i).take m))[j]? = some u) : (encG gs)[i * 4 + j]? = some u := by
  have e : gs = gs.take i ++ ((gs.drop i).take m ++ (gs.drop i).drop m) := by rw [List.take_append_drop, List.take_append_drop]
  have hlt := (List.getElem?_eq_some_iff.1 hj).1
  rw [e, encG_app, encG_app]
  have hl : (encG (gs.take i)).length = i * 4 := by rw [encG_len, List.length_take]; omega
  rw [List.getElem?_append_right (by omega), hl, show i * 4 + j - i * 4 = j by omega, List.getElem?_append_left hlt]
  exact hj

theorem run_appGS {B : Nat} {w : World} (hB : B ≤ w.heap.size) {v : Value} {a es : List EdgeV} {g n c i m : Nat} (h1 : GRow B w v a) (h2 : GRow 0 w (.slice (some ⟨g, 0, none⟩) n c) es) (hm : i + m ≤ es.length) (hl : a.length + es.length ≤ 1000000) (c2 : Nat) :
    ∃ v' w', (∀ ty, (Builtin.append_ #[26, 26] ty #[v, .slice (some ⟨g, i * 4, none⟩) m c2]).run Tryz.prog w = .ok v' w') ∧ GRow B w' v' (a ++ (es.drop i).take m) ∧ w.grownBy w' v.ownBlock := by
  obtain ⟨i0, hi0, hz, hs, hb⟩ := info_parts info64
  have hlen : ((es.drop i).take m).length = m := by rw [List.length_take, List.length_drop]; omega
  obtain ⟨v', w', hr, g1, g2, -, -⟩ := run_append_own_at (P := Tryz.prog) w B 26 0 64 i0 _ 4 32 Tryz.underlying26 hi0 hz hs hb rfl (by omega) v a.length (encG a) h1 ⟨g, i * 4, none⟩ m c2 (encG ((es.drop i).take m)) (by rw [encG_len, hlen])
    (fun j u hj => by
      have add : (⟨g, i * 4, none⟩ : Addr).add j = ⟨g, i * 4 + j, none⟩ := by unfold Addr.add; split <;> simp_all
      have add0 : (⟨g, 0, none⟩ : Addr).add (i * 4 + j) = ⟨g, i * 4 + j, none⟩ := by unfold Addr.add; split <;> simp_all
      have f := h2.cells (g := g) rfl _ _ (encG_seg es i m hm hj)
      rw [add0] at f
      rw [add]
      exact f) (encG_one _) (by unfold maxLen; omega) (by omega) hB
  refine ⟨v', w', fun ty => hr, ?_, g2⟩
  have e2 : a.length + m = (a ++ (es.drop i).take m).length := by rw [List.length_append, hlen]
  rw [← encG_app, e2] at g1
  exact g1
end Go.Proofs.YtagibmgbjhemkaaGreat
