/- The reference's graph as memory, and its calls that only read: Has, At. -/
import Derived.Test.YtagibmgbjhemkaaGreatStDropV
namespace Go.Proofs.YtagibmgbjhemkaaGreat
open Go.RowKit Go.Maps

/-- A graph of the reference, in a box. -/
def oG (vv ev : Value) (rd wr : Int) : Obj := .cells #[vv, ev, .int .i64 rd, .int .i64 wr] 28 (0, 0)
theorem cellsG {w : World} {b : Nat} {vv ev : Value} {rd wr : Int} (h : w.heap[b]? = some (oG vv ev rd wr)) : w.cell? ⟨b, 0, none⟩ = some vv ∧ w.cell? ⟨b, 1, none⟩ = some ev ∧ w.cell? ⟨b, 2, none⟩ = some (.int .i64 rd) ∧ w.cell? ⟨b, 3, none⟩ = some (.int .i64 wr) ∧ ∀ o, w.frozen? ⟨b, o, none⟩ = false :=
  ⟨(cell_of_row _ _ 0 _ _ (0, 0) h).trans rfl, (cell_of_row _ _ 1 _ _ (0, 0) h).trans rfl, (cell_of_row _ _ 2 _ _ (0, 0) h).trans rfl, (cell_of_row _ _ 3 _ _ (0, 0) h).trans rfl, fun o => frozen_of_row _ _ o _ _ h⟩

theorem below_new (w : World) (o : Obj) : Below w.heap.size w (w.alloc o) := (Below.refl _ _).alloc (Nat.le_refl _) _
theorem nrow_below {w w' : World} {v : Value} {ks : List Int} (h : NRow w v ks) (hb : Below w.heap.size w w') : NRow w' v ks := nrow_kept h (fun b e => hb.block b (h.lt b e).2)
theorem grow_below {B : Nat} {w w' : World} {v : Value} {gs : List EdgeV} (h : GRow B w v gs) (hb : Below w.heap.size w w') : GRow B w' v gs := grow_kept h (fun b e => hb.block b (h.lt b e).2)
/-- Where there are records: their cells. -/
theorem grow_at {B : Nat} {w : World} {v : Value} {gs : List EdgeV} (h : GRow B w v gs) (h0 : 0 < gs.length) : ∃ g c, v = .slice (some ⟨g, 0, none⟩) gs.length c ∧ ∀ (i : Nat) (a : EdgeV), gs[i]? = some a → w.cell? ⟨g, i * 4, none⟩ = some (.int .i64 a.1) ∧ w.cell? ⟨g, i * 4 + 1, none⟩ = some (.int .i64 a.2.1) ∧ w.cell? ⟨g, i * 4 + 2, none⟩ = some (.int .i64 a.2.2.1) ∧ w.cell? ⟨g, i * 4 + 3, none⟩ = some (.int .u32 a.2.2.2) := by
  have henc : ∀ (gs : List EdgeV) (i : Nat) (a : EdgeV), gs[i]? = some a → (encG gs)[i * 4]? = some (.int .i64 a.1) ∧ (encG gs)[i * 4 + 1]? = some (.int .i64 a.2.1) ∧ (encG gs)[i * 4 + 2]? = some (.int .i64 a.2.2.1) ∧ (encG gs)[i * 4 + 3]? = some (.int .u32 a.2.2.2) := by
    intro gs
    induction gs with
    | nil => intro i a h; simp at h
    | cons r rs ih =>
      intro i a h
      cases i with
      | zero => simp at h; subst h; simp [encG]
      | succ i =>
        have := ih i a (by simpa using h)
        have e : encG (r :: rs) = .int .i64 r.1 :: .int .i64 r.2.1 :: .int .i64 r.2.2.1 :: .int .u32 r.2.2.2 :: encG rs := by simp [encG]
        rw [e, show (i + 1) * 4 = i * 4 + 1 + 1 + 1 + 1 by omega, show i * 4 + 1 + 1 + 1 + 1 + 1 = (i * 4 + 1) + 1 + 1 + 1 + 1 by omega, show i * 4 + 1 + 1 + 1 + 1 + 2 = (i * 4 + 2) + 1 + 1 + 1 + 1 by omega, show i * 4 + 1 + 1 + 1 + 1 + 3 = (i * 4 + 3) + 1 + 1 + 1 + 1 by omega]
        simpa only [List.getElem?_cons_succ] using this
  rcases h.2 with ⟨-, h1⟩ | ⟨g, cap, cur, rfl, -⟩
  · omega
  · refine ⟨g, cap, rfl, fun i a hi => ?_⟩
    obtain ⟨e1, e2, e3, e4⟩ := henc gs i a hi
    have add : ∀ j, (⟨g, 0, none⟩ : Addr).add j = ⟨g, j, none⟩ := fun j => by unfold Addr.add; split <;> simp_all
    have f1 := h.cells (g := g) rfl _ _ e1
    have f2 := h.cells (g := g) rfl _ _ e2
    have f3 := h.cells (g := g) rfl _ _ e3
    have f4 := h.cells (g := g) rfl _ _ e4
    rw [add] at f1 f2 f3 f4
    exact ⟨f1, f2, f3, f4⟩

theorem mem_iff_getD {ks : List Int} {v : Int} : v ∈ ks ↔ ∃ j, j < ks.length ∧ ks.getD j 0 = v := by
  rw [List.mem_iff_getElem]
  constructor
  · rintro ⟨j, hj, e⟩; exact ⟨j, hj, by simpa [List.getD, hj] using e⟩
  · rintro ⟨j, hj, e⟩; exact ⟨j, hj, by simpa [List.getD, hj] using e⟩

set_option maxHeartbeats 1000000 in
set_option maxRecDepth 100000 in
theorem refHas {w : World} {vv ev : Value} {rd wr : Int} {vs : List Int} (v : Int) (h : NRow w vv vs) (hl : vs.length ≤ 1000000) :
    Calls Tryz.prog 19 #[.agg #[vv, ev, .int .i64 rd, .int .i64 wr], .int .i64 v] w fun e w' => e = .returned (.bool (decide (v ∈ vs))) ∧ Below w.heap.size w w' := by
  have hb := below_new w (oG vv ev rd wr)
  have h1 := nrow_below h hb
  obtain ⟨c0, -, -, -, -⟩ := cellsG (heap_alloc_new w (oG vv ev rd wr))
  have HB := hide hb
  have HC : Hid (∀ i, i < vs.length → ∃ g c, vv = .slice (some ⟨g, 0, none⟩) vs.length c ∧ (w.alloc (oG vv ev rd wr)).cell? ⟨g, i, none⟩ = some (.int .i64 (vs.getD i 0))) := fun i hi => by
    rcases nrow_shape h1 with ⟨-, rfl⟩ | ⟨g, c, rfl⟩
    · simp at hi
    · exact ⟨g, c, rfl, (nrow_some h1).2.2.2.2 i hi⟩
  obtain ⟨a, c, hvv, -⟩ := brow_shape h1
  obtain ⟨L, hL⟩ : ∃ L, L = vs.length := ⟨_, rfl⟩
  rw [← hL] at hvv HC hl
  have HL := hide hL
  have HLB : Hid (L ≤ 1000000) := hl
  clear h h1 hb hl hL
  subst hvv
  go_enter Tryz.func19, Tryz.ntmps19
  go_upto_region 1 with fail
  change Code.wp _ _ _ _ (w.alloc (oG (.slice a L c) ev rd wr))
  generalize w.alloc (oG (.slice a L c) ev rd wr) = wb at *
  generalize hbb : w.heap.size = bb at *
  go_wp2_with fail
  go_loopw [5] (fun s5 wr => ∃ i : Nat, s5 = .int .i64 i ∧ i ≤ L ∧ Hid (∀ j, j < i → vs.getD j 0 ≠ v) ∧ wr = wb) (fun s5 _ => L - (intOf s5).toNat)
  case atStart => exact ⟨0, rfl, by omega, fun j hj => absurd hj (Nat.not_lt_zero _), rfl⟩
  case round =>
    obtain ⟨i, rfl, hi, hno, rfl⟩ := hrel
    by_cases h : i < L
    · obtain ⟨g, c', e, hc⟩ := unhide HC i h
      injection e with e1 e2 e3
      subst e1 e3
      obtain ⟨x, hx⟩ : ∃ x, x = vs.getD i 0 := ⟨_, rfl⟩
      rw [← hx] at hc
      have hz : (i : Int) < (L : Int) := by omega
      by_cases hxv : x = v
      · have HF : Hid (decide (v ∈ vs) = true) := decide_eq_true (mem_iff_getD.2 ⟨i, by have := unhide HL; omega, hx.symm.trans hxv⟩)
        clear hx
        subst hxv
        go_wp2_with fail
        go_ret
        exact ⟨by rw [unhide HF]; rfl, by first | exact unhide HB | (rw [hbb]; exact unhide HB)⟩
      · have HN : Hid (∀ j, j < i + 1 → vs.getD j 0 ≠ v) := fun j hj => by
          rcases Nat.lt_or_ge j i with h' | h'
          · exact unhide hno j h'
          · obtain rfl : j = i := by omega
            rw [← hx]; exact hxv
        clear hx
        go_wp2_with fail
        have hwi : wrap64 ((i : Int) + 1) = ((i + 1 : Nat) : Int) := by have := unhide HLB; unfold wrap64; omega
        (try rw [hwi])
        exact ⟨⟨i + 1, rfl, by omega, HN, by trivial⟩, by simp [intOf]; omega⟩
    · have hz : ¬ (i : Int) < (L : Int) := by omega
      have HF : Hid (decide (v ∈ vs) = false) := decide_eq_false (fun hm => by
        obtain ⟨j, hj, e⟩ := mem_iff_getD.1 hm
        exact unhide hno j (by have := unhide HL; omega) e)
      go_wp2_with fail
      go_ret
      exact ⟨by rw [unhide HF]; rfl, by first | exact unhide HB | (rw [hbb]; exact unhide HB)⟩
end Go.Proofs.YtagibmgbjhemkaaGreat
