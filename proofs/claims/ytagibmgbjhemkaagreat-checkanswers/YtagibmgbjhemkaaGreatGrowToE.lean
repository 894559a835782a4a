/- A table grows up to a place. -/
import Derived.Test.YtagibmgbjhemkaaGreatGrowE
namespace Go.Proofs.YtagibmgbjhemkaaGreat
open Go.RowKit Go.Maps

set_option maxHeartbeats 1000000 in
set_option maxRecDepth 100000 in
theorem growToE [Inhabited EntI] {t hp : Nat} {v : Value} {most : Int} {ps : List (EdgeV × Bool)} {ms : List EntI} {n : Nat} {G : Nat → Prop} (k : Nat) (w : World) (h : TAtE w t hp v most ps ms n G) (hk : (k : Int) ≤ most) (hn : n ≤ 1000000000) :
    Calls Tryz.prog 120 #[.pointer (some ⟨t, 0, none⟩), .int .i64 k] w fun e w' => e = .returned (.tuple #[]) ∧ Hid (∃ v' ms' G', TAtE w' t hp v' most (ps ++ List.replicate (k - ps.length) (((0, 0, 0, 0) : EdgeV), false)) ms' (n + (k - ps.length)) G' ∧ Turned (Feet t v G) w w' ∧ ∀ j, Feet t v' G' j → Feet t v G j ∨ w.heap.size ≤ j) := by
  have HK := hide hk
  have HN := hide hn
  have HT := hide h
  clear h hk hn
  go_enter Tryz.func120, Tryz.ntmps120
  go_wp2_with fail
  go_loopw [8] (fun _ wr => ∃ (d : Nat) (v' : Value) (ms' : List EntI) (G' : Nat → Prop), Hid (d ≤ k - ps.length) ∧ Hid (TAtE wr t hp v' most (ps ++ List.replicate d (((0, 0, 0, 0) : EdgeV), false)) ms' (n + d) G' ∧ Turned (Feet t v G) w wr ∧ ∀ j, Feet t v' G' j → Feet t v G j ∨ w.heap.size ≤ j)) (fun _ wr => k - plen wr t)
  case atStart => exact ⟨0, v, ms, G, Nat.zero_le _, by simpa using unhide HT, Turned.refl _ _, fun j hj => .inl hj⟩
  case round =>
    obtain ⟨d, v', ms', G', hd, hh⟩ := hrel
    obtain ⟨h1, h2, h3⟩ := unhide hh
    have hlen : (ps ++ List.replicate d ((((0, 0, 0, 0) : EdgeV), false) : EdgeV × Bool)).length = ps.length + d := by simp
    obtain ⟨-, c1, -, cf⟩ := h1.cells
    obtain ⟨a, c, rfl⟩ := h1.shape
    have hm1 := h1.len
    have hm2 := h1.top
    have HPL := hide (plen_of c1)
    by_cases hlt : (ps ++ List.replicate d ((((0, 0, 0, 0) : EdgeV), false) : EdgeV × Bool)).length < k
    · have hltm : ((ps ++ List.replicate d ((((0, 0, 0, 0) : EdgeV), false) : EdgeV × Bool)).length : Int) < most := by have := unhide HK; omega
      obtain ⟨g, c', w', hr, e2, ⟨u, e1⟩, ef, box, row, on, hgt, hgG, hgo, ht⟩ := growMemE h1 hltm
      have hnot : ∀ x ∈ ms', x.key ≠ ((ps ++ List.replicate d ((((0, 0, 0, 0) : EdgeV), false) : EdgeV × Bool)).length : Int) + 1 := frees_not h1.fr (fun a e => by have := lt_of_at e; omega)
      have hml : ms'.length ≤ 65536 := by have := h1.fr.cnt; omega
      have HQ : Hid (∀ w3 G3, OnI w3 hp G3 (ms' ++ [⟨((ps ++ List.replicate d ((((0, 0, 0, 0) : EdgeV), false) : EdgeV × Bool)).length : Int) + 1, ((ps ++ List.replicate d ((((0, 0, 0, 0) : EdgeV), false) : EdgeV × Bool)).length : Int) + 1, n + d⟩]) (n + d + 1) → Turned G' (w'.setCell ⟨t, 1, none⟩ (.slice (some ⟨g, 0, none⟩) ((ps ++ List.replicate d ((((0, 0, 0, 0) : EdgeV), false) : EdgeV × Bool)).length + 1) c')) w3 → (∀ j, G3 j → G' j ∨ (w'.setCell ⟨t, 1, none⟩ (.slice (some ⟨g, 0, none⟩) ((ps ++ List.replicate d ((((0, 0, 0, 0) : EdgeV), false) : EdgeV × Bool)).length + 1) c')).heap.size ≤ j) → _) := fun w3 G3 => grownE h1 hltm box row hgt hgG hgo ht
      have CP : Hid (∀ q, Calls Tryz.prog 106 #[.pointer (some ⟨hp, 0, none⟩), .int .i64 (((ps ++ List.replicate d ((((0, 0, 0, 0) : EdgeV), false) : EdgeV × Bool)).length : Int) + 1), .int .i64 (((ps ++ List.replicate d ((((0, 0, 0, 0) : EdgeV), false) : EdgeV × Bool)).length : Int) + 1)] ((w'.setCell ⟨t, 1, none⟩ (.slice (some ⟨g, 0, none⟩) ((ps ++ List.replicate d ((((0, 0, 0, 0) : EdgeV), false) : EdgeV × Bool)).length + 1) c')).drewN q) fun e w3 => e = .returned (.bool true) ∧ Hid (∃ G3, OnI w3 hp G3 (ms' ++ [⟨((ps ++ List.replicate d ((((0, 0, 0, 0) : EdgeV), false) : EdgeV × Bool)).length : Int) + 1, ((ps ++ List.replicate d ((((0, 0, 0, 0) : EdgeV), false) : EdgeV × Bool)).length : Int) + 1, n + d⟩]) (n + d + 1) ∧ Turned G' (w'.setCell ⟨t, 1, none⟩ (.slice (some ⟨g, 0, none⟩) ((ps ++ List.replicate d ((((0, 0, 0, 0) : EdgeV), false) : EdgeV × Bool)).length + 1) c')) w3 ∧ ∀ j, G3 j → G' j ∨ (w'.setCell ⟨t, 1, none⟩ (.slice (some ⟨g, 0, none⟩) ((ps ++ List.replicate d ((((0, 0, 0, 0) : EdgeV), false) : EdgeV × Bool)).length + 1) c')).heap.size ≤ j)) := fun q => by
        refine ((on.kept (w' := (w'.setCell ⟨t, 1, none⟩ (.slice (some ⟨g, 0, none⟩) ((ps ++ List.replicate d ((((0, 0, 0, 0) : EdgeV), false) : EdgeV × Bool)).length + 1) c')).drewN q) (fun _ _ => rfl)).push _ _ (key_fit _ (by omega)) hnot (by omega) (by have := unhide HN; have := unhide hd; omega)).mono ?_
        rintro e w3 ⟨he, F', g1, g2, g3⟩
        exact ⟨he, F', g1, ⟨g2.os, g2.tape, g2.output, g2.size, g2.block⟩, g3⟩
      have d1 : (w'.setCell ⟨t, 1, none⟩ (.slice (some ⟨g, 0, none⟩) ((ps ++ List.replicate d ((((0, 0, 0, 0) : EdgeV), false) : EdgeV × Bool)).length + 1) c')).cell? ⟨t, 1, none⟩ = some (.slice (some ⟨g, 0, none⟩) ((ps ++ List.replicate d ((((0, 0, 0, 0) : EdgeV), false) : EdgeV × Bool)).length + 1) c') := by rw [cell_of_row _ t _ _ _ _ box]; rfl
      have d2 : (w'.setCell ⟨t, 1, none⟩ (.slice (some ⟨g, 0, none⟩) ((ps ++ List.replicate d ((((0, 0, 0, 0) : EdgeV), false) : EdgeV × Bool)).length + 1) c')).cell? ⟨t, 2, none⟩ = some (.pointer (some ⟨hp, 0, none⟩)) := by rw [cell_of_row _ t _ _ _ _ box]; rfl
      have HR := hide hr
      have HLN := hide hlen
      have HH2 := hide (And.intro h2 h3)
      have hltz : ((ps ++ List.replicate d ((((0, 0, 0, 0) : EdgeV), false) : EdgeV × Bool)).length : Int) < (k : Int) := by omega
      have hl6 : ((ps ++ List.replicate d ((((0, 0, 0, 0) : EdgeV), false) : EdgeV × Bool)).length : Int) ≤ 65536 := by omega
      clear hlen hh h1 h2 h3 hr hnot hml box row on hgt hgG hgo ht hm1 hm2 hltm cf
      generalize (ps ++ List.replicate d ((((0, 0, 0, 0) : EdgeV), false) : EdgeV × Bool)).length = L at *
      go_wp2_with (at_builtin; refine Lib.wpList_append_run _ rfl _ _ 164 164 rfl (.slice a L c) (.slice (some ⟨wr.heap.size, 0, none⟩) 1 1) rfl rfl _ _ HR.out ?_)
      generalize (w'.setCell ⟨t, 1, none⟩ (.slice (some ⟨g, 0, none⟩) (L + 1) c')) = w2 at *
      refine region_still_tail 14 mixed (by kernel_rfl) ?_
      simp only [List.take_succ_cons, List.take_zero, List.drop_succ_cons, List.drop_zero]
      repeat still_step
      refine wpStill_nil ?_
      go_wp2_with fail
      refine (unhide CP 1).mono ?_
      rintro e w3 ⟨rfl, h3⟩
      obtain ⟨G3, o1, o2, o3⟩ := unhide h3
      have HQ3 := hide (unhide HQ w3 G3 o1 o2 o3)
      clear CP HQ h3 o1 o2 o3
      go_wp2_with fail
      go_roundw
      case rel =>
        obtain ⟨q1, q2, q3⟩ := unhide HQ3
        obtain ⟨p2, p3⟩ := unhide HH2
        rw [List.append_assoc, ← List.replicate_succ'] at q1
        have l1 : d + 1 ≤ k - ps.length := by have := unhide HLN; omega
        exact ⟨d + 1, _, _, G3, l1, q1, p2.then_ q2 (fun i hi hf => (p3 i hf).elim id (fun e => by omega)), fun j hj => (q3 j hj).elim (p3 j) (fun e => .inr (Nat.le_trans p2.size e))⟩
      case measure =>
        obtain ⟨q1, -, -⟩ := unhide HQ3
        have := plen_of q1.cells.2.1
        rw [this, unhide HPL]; omega
    · have hltz : ¬ ((ps ++ List.replicate d ((((0, 0, 0, 0) : EdgeV), false) : EdgeV × Bool)).length : Int) < (k : Int) := by omega
      have HE : Hid (d = k - ps.length) := by show d = _; have := unhide hd; omega
      have HH := hide (And.intro h1 (And.intro h2 h3))
      clear hh h1 h2 h3 hlen hlt hm1 hm2
      generalize (ps ++ List.replicate d ((((0, 0, 0, 0) : EdgeV), false) : EdgeV × Bool)).length = L at *
      go_wp2_with fail
      go_end0
      obtain ⟨h1, h2, h3⟩ := unhide HH
      have e := unhide HE
      subst e
      exact ⟨rfl, _, _, _, h1, h2, h3⟩
end Go.Proofs.YtagibmgbjhemkaaGreat
