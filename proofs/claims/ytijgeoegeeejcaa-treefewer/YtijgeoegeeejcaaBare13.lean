/- bare; waysOf. -/
import Derived.Test.YtijgeoegeeejcaaFlt132
import Derived.Test.YtijgeoegeeejcaaTail
import Derived.Deep.OwnRows
namespace Go.Proofs.Ytijgeoegeeejcaa
open Go.RowKit Go.Maps
theorem made_list (z : Value) (n : Nat) : (madeCells #[z] n).toList = List.replicate n z := toList_madeCells_one z n
theorem mkI {n : Nat} (hn : n ≤ 1000000) (w : World) : (Instr.makeSlice 22 (.int .i64 (n : Nat)) (.int .i64 (n : Nat))).run Try.prog w = .ok (.slice (some ⟨w.heap.size, 0, none⟩) n n) (w.alloc (.cells (madeCells #[.int .i64 0] n) 3)) :=
  run_make_row' 22 3 (.int .i64 0) 8 Try.underlying22 info3 rfl .i64 .i64 n (by omega) (by omega) w
theorem brow_made (n : Nat) (hn : n ≤ 1000000) (w : World) : BRow w.heap.size (w.alloc (.cells (madeCells #[.int .i64 0] n) 3)) (.slice (some ⟨w.heap.size, 0, none⟩) n n) (List.replicate n 0) := by
  refine ⟨by simp, .inr ⟨w.heap.size, n, madeCells #[.int .i64 0] n, by simp, Nat.le_refl _, heap_alloc_new _ _, by simp, by unfold maxLen; omega, ?_, ?_⟩⟩
  · rw [← Array.length_toList, made_list]; simp
  · rw [made_list]; simp
/-- A tree's box. -/
def oT (s : Int) (dv fv : Value) : Obj := .cells #[.int .i64 s, dv, fv] 72
theorem cellsT {w : World} {p : Nat} {s : Int} {dv fv : Value} (h : w.heap[p]? = some (oT s dv fv)) : w.cell? ⟨p, 0, none⟩ = some (.int .i64 s) ∧ w.cell? ⟨p, 1, none⟩ = some dv ∧ w.cell? ⟨p, 2, none⟩ = some fv ∧ ∀ o, w.frozen? ⟨p, o, none⟩ = false :=
  ⟨(cell_of_row _ _ 0 _ _ (0, 0) h).trans rfl, (cell_of_row _ _ 1 _ _ (0, 0) h).trans rfl, (cell_of_row _ _ 2 _ _ (0, 0) h).trans rfl, fun o => frozen_of_row _ _ o _ _ h⟩
/-- A tree in memory: its distances, and where each path comes from. -/
structure TrAt (B : Nat) (w : World) (p : Nat) (s : Int) (dv fv : Value) (ds : List DiV) (fs : List Int) : Prop where
  box : w.heap[p]? = some (oT s dv fv)
  ds_ : DRow B w dv ds
  fs_ : BRow B w fv fs
  lo : B ≤ p
  ne1 : dv.ownBlock ≠ some p
  ne2 : fv.ownBlock ≠ some p
  ne3 : ∀ b, dv.ownBlock = some b → fv.ownBlock ≠ some b
theorem TrAt.kept {B : Nat} {w w' : World} {p : Nat} {s : Int} {dv fv : Value} {ds : List DiV} {fs : List Int} (h : TrAt B w p s dv fv ds fs) (hk : ∀ b, b = p ∨ dv.ownBlock = some b ∨ fv.ownBlock = some b → w'.heap[b]? = w.heap[b]?) : TrAt B w' p s dv fv ds fs :=
  ⟨(hk p (.inl rfl)).trans h.box, rrow_kept h.ds_ (fun b e => hk b (.inr (.inl e))), brow_kept h.fs_ (fun b e => hk b (.inr (.inr e))), h.lo, h.ne1, h.ne2, h.ne3⟩
theorem TrAt.lt {B : Nat} {w : World} {p : Nat} {s : Int} {dv fv : Value} {ds : List DiV} {fs : List Int} (h : TrAt B w p s dv fv ds fs) {b : Nat} (hb : b = p ∨ dv.ownBlock = some b ∨ fv.ownBlock = some b) : B ≤ b ∧ b < w.heap.size := by
  rcases hb with rfl | e | e
  · exact ⟨h.lo, heap_lt h.box⟩
  · exact h.ds_.lt b e
  · exact h.fs_.lt b e
theorem TrAt.below {B : Nat} {w w' : World} {p : Nat} {s : Int} {dv fv : Value} {ds : List DiV} {fs : List Int} (h : TrAt B w p s dv fv ds fs) (hb : Below w.heap.size w w') : TrAt B w' p s dv fv ds fs := h.kept (fun b e => hb.block b (h.lt e).2)
/-- The distances of a graph without edges. -/
def bareD (s : Int) (ys : List Int) : List DiV := ys.map (fun v => (v, v != s, 0, 0))
def BareP (w : World) (p : Nat) (s : Int) (fv : Value) (ys : List Int) (n i : Nat) (W : World) : Prop := ∃ dv, TrAt w.heap.size W p s dv fv (bareD s (ys.take i)) (List.replicate n 0) ∧ Below w.heap.size w W ∧ ∃ a m c, dv = .slice a m c
theorem bare_step {w W : World} {p : Nat} {s v : Int} {a : Option Addr} {m c : Nat} {fv : Value} {ys : List Int} {n i : Nat} (h : TrAt w.heap.size W p s (.slice a m c) fv (bareD s (ys.take i)) (List.replicate n 0)) (hb : Below w.heap.size w W) (hi : ys[i]? = some v) (hl : ys.length ≤ 1000) :
    ∃ a' n' c' w', (∀ ty, (Builtin.append_ #[45, 45] ty #[.slice a m c, .slice (some ⟨W.heap.size, 0, none⟩) 1 1]).run Try.prog (W.alloc (.cells #[.int .i64 v, .bool (v != s), .int .u32 0, .int .i64 0] 48)) = .ok (.slice a' n' c') w') ∧ w'.cell? ⟨p, 1, none⟩ = some (.slice a m c) ∧ (∀ o, w'.frozen? ⟨p, o, none⟩ = false) ∧ BareP w p s fv ys n (i + 1) (w'.setCell ⟨p, 1, none⟩ (.slice a' n' c')) := by
  have hs := hb.size
  have hpl := heap_lt h.box
  obtain ⟨a', n', c', w', r, g1, g2, g3⟩ := run_app1 kitD (ts := 45) Try.underlying45 infoD rfl (by omega) ((v, v != s, 0, 0) : DiV) (cs := #[.int .i64 v, .bool (v != s), .int .u32 0, .int .i64 0]) rfl h.ds_ hs (by unfold bareD; rw [List.length_map, List.length_take]; omega)
  have hp' : w'.heap[p]? = some (oT s (.slice a m c) fv) := (g2.block p hpl h.ne1).trans h.box
  have hap : (Value.slice a' n' c').ownBlock ≠ some p := fun e => by
    rcases g3 p e with q | q
    · exact h.ne1 q
    · omega
  have hbx : (w'.setCell ⟨p, 1, none⟩ (.slice a' n' c')).heap[p]? = some (oT s (.slice a' n' c') fv) := by rw [oT, heap_setCell_same _ _ _ _ _ _ hp']; rfl
  refine ⟨a', n', c', w', r, (cellsT hp').2.1, (cellsT hp').2.2.2, .slice a' n' c', ⟨hbx, ?_, ?_, h.lo, hap, h.ne2, fun b e e2 => ?_⟩, ?_, a', n', c', rfl⟩
  · refine rrow_kept (w := w') ?_ (fun b e => heap_setCell_other _ _ _ _ (fun q => hap (by have q2 : b = p := q; rw [← q2]; exact e)))
    have e : bareD s (ys.take (i + 1)) = bareD s (ys.take i) ++ [(v, v != s, 0, 0)] := by unfold bareD; rw [List.take_add_one, hi, List.map_append]; rfl
    rw [e]; exact g1
  · refine brow_kept h.fs_ (fun b e => ?_)
    rw [heap_setCell_other _ _ _ _ (fun q => h.ne2 (by have q2 : b = p := q; rw [← q2]; exact e))]
    exact g2.block b (h.fs_.lt b e).2 (fun q => h.ne3 b q e)
  · rcases g3 b e with q | q
    · exact h.ne3 b q e2
    · have := (h.fs_.lt b e2).2; omega
  · have hb2 : Below w.heap.size w w' := hb.trans (g2.below hs (fun b e => (h.ds_.lt b e).1))
    exact hb2.setCell (p := ⟨p, 1, none⟩) h.lo _
def BareAns (w : World) (s : Int) (ys : List Int) (p : Nat) (w' : World) : Prop := ∃ a m c fv, TrAt w.heap.size w' p s (.slice a m c) fv (bareD s ys) (List.replicate ys.length 0) ∧ Below w.heap.size w w'
set_option maxHeartbeats 1000000 in
set_option maxRecDepth 100000 in
theorem bareS {w : World} {vv : Value} {ys : List Int} {s : Int} (h : NRow w vv ys) (hl : ys.length ≤ 1000) :
    Calls Try.prog 25 #[vv, .int .i64 s] w fun e w' => ∃ p, e = .returned (.pointer (some ⟨p, 0, none⟩)) ∧ Hid (BareAns w s ys p w') := by
  obtain ⟨a1, c1, e1, -⟩ := brow_shape h
  obtain ⟨n, hn⟩ : ∃ n, n = ys.length := ⟨_, rfl⟩
  rw [← hn] at e1
  subst e1
  have H : Hid (NRow w (.slice a1 n c1) ys ∧ n = ys.length ∧ n ≤ 1000) := ⟨h, hn, by omega⟩
  have hmk := mkI (n := n) (by omega) w
  have hbm := brow_made n (by omega) w
  have hb1 := below_new w (.cells (madeCells #[.int .i64 0] n) 3)
  obtain ⟨w1, hw1⟩ : ∃ w1, w1 = w.alloc (.cells (madeCells #[.int .i64 0] n) 3) := ⟨_, rfl⟩
  have hsz : w1.heap.size = w.heap.size + 1 := by rw [hw1]; simp
  rw [← hw1] at hmk hbm hb1
  have HM : Hid (BRow w.heap.size w1 (.slice (some ⟨w.heap.size, 0, none⟩) n n) (List.replicate n 0) ∧ Below w.heap.size w w1 ∧ w1.heap.size = w.heap.size + 1) := ⟨hbm, hb1, hsz⟩
  clear h hn hl hbm hb1 hw1 hsz
  go_enter Try.func25, Try.ntmps25
  go_upto_region 3 with fail
  clear hmk
  obtain ⟨p, hp⟩ : ∃ p, p = w1.heap.size := ⟨_, rfl⟩
  have HP : Hid (BareP w p s (.slice (some ⟨w.heap.size, 0, none⟩) n n) ys n 0 (w1.alloc (oT s (.slice none 0 0) (.slice (some ⟨w.heap.size, 0, none⟩) n n)))) := by
    obtain ⟨m1, m2, m3⟩ := unhide HM
    have hb := below_new w1 (oT s (.slice none 0 0) (.slice (some ⟨w.heap.size, 0, none⟩) n n))
    refine ⟨.slice none 0 0, ⟨?_, ⟨rfl, .inl ⟨rfl, rfl⟩⟩, brow_kept m1 (fun b e => hb.block b (m1.lt b e).2), by omega, fun e => (by cases e), fun e => by have := own_eq e; omega, fun b e => (by cases e)⟩, m2.trans (hb.mono m2.size), none, 0, 0, rfl⟩
    rw [hp]; exact heap_alloc_new _ _
  change Code.wp _ _ _ _ (w1.alloc (oT s (.slice none 0 0) (.slice (some ⟨w.heap.size, 0, none⟩) n n)))
  rw [← hp]
  generalize w1.alloc (oT s (.slice none 0 0) (.slice (some ⟨w.heap.size, 0, none⟩) n n)) = W0 at *
  clear hp HM
  generalize (Value.slice (some ⟨w.heap.size, 0, none⟩) n n) = fv at *
  go_loopw [16] (fun s16 W => ∃ i : Nat, s16 = .int .i64 i ∧ i ≤ n ∧ Hid (BareP w p s fv ys n i W)) (fun s16 _ => n - (intOf s16).toNat)
  case atStart => exact ⟨0, rfl, Nat.zero_le _, HP⟩
  case round =>
    obtain ⟨i, rfl, hin, HI⟩ := hrel
    obtain ⟨dv, hT, hB, a, m, c, rfl⟩ := unhide HI
    obtain ⟨h1, h2, h3⟩ := unhide H
    by_cases hlt : i < n
    · obtain ⟨v, hv⟩ : ∃ v, ys[i]? = some v := ⟨_, List.getElem?_eq_getElem (by omega)⟩
      have hrow := nrow_below h1 hB
      obtain ⟨g, rfl⟩ := brow_some hrow (by omega)
      have d1 := brow_at hrow hv
      obtain ⟨k0, k1, k2, kf⟩ := cellsT hT.box
      obtain ⟨a', n', c', w', r, q1, q2, q3⟩ := bare_step hT hB hv (by omega)
      have HR := hide r
      have HN := hide q3
      have z1 : (i : Int) < (n : Int) := by omega
      obtain ⟨j, hj⟩ : ∃ j, j = i + 1 := ⟨_, rfl⟩
      have zw : Hid (wrap64 ((i : Int) + 1) = (j : Int)) := by show wrap64 ((i : Int) + 1) = (j : Int); unfold wrap64; omega
      have HJ : Hid (j = i + 1 ∧ j ≤ n ∧ n - j < n - i) := ⟨hj, by omega, by omega⟩
      clear HP HI hT hB h1 h2 h3 hrow hv r q3 hin hlt hj
      go_wp2_with (at_builtin; refine Lib.wpList_append_run _ rfl _ _ 45 45 rfl _ _ rfl rfl _ _ (unhide HR _) ?_)
      (try rw [unhide zw])
      exact ⟨⟨j, by first | rfl | (rw [(unhide HJ).1]; rfl), (unhide HJ).2.1, by rw [(unhide HJ).1]; exact HN⟩, by have := unhide HJ; simp [intOf]; omega⟩
    · have z1 : ¬ (i : Int) < (n : Int) := by omega
      have HE : Hid (BareAns w s ys p wr) := by
        rw [List.take_of_length_le (by omega)] at hT
        exact ⟨a, m, c, fv, by rw [← h2]; exact hT, hB⟩
      clear HP HI hT hB h1 h2 h3 hin hlt
      go_wp2_with fail
      go_ret
      exact ⟨p, rfl, HE⟩
end Go.Proofs.Ytijgeoegeeejcaa
